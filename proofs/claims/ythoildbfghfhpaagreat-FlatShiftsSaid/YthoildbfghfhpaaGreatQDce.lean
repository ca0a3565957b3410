import Derived.Test.YthoildbfghfhpaaGreatQScg
import Derived.Shelf.SlMaps.Clone
set_option maxHeartbeats 16000000
set_option maxRecDepth 100000
namespace Go.Proofs.YthoildbfghfhpaaGreat
section
open Go.RowKit pxm imm trm Go.Maps itr Go.Shelf
attribute [local go_sem] Oper.semAt_some
theorem cameV {l:LV} {x:Int} {c:Value} {kl:Lit} {y:DataW Value×List MemPlace} (hk:keyOf Tryz.prog 3 (.int .i64 x)=some kl) (hv:anyE c=some y) (hat:∀ zd,(mapV l).atKey kl zd=y.1):kl=.int .i64 x∧I64 x∧omap.look l x=some c:=by
 obtain ⟨x',ex,rfl,hwf⟩:=Maps.keyOf_int_inv Tryz.underlying3 hk
 injection ex with _ ex
 subst ex;simp only [Lit.wf] at hwf;rw [Bool.and_eq_true,decide_eq_true_eq,decide_eq_true_eq] at hwf;refine ⟨rfl,hwf,?_⟩;unfold anyE at hv;simp only [Option.some.injEq] at hv;have h1:=hat .nil;rw [atKey_mapV,← hv] at h1;cases hl:omap.look l x with
 | none=>rw [hl] at h1;cases h1
 | some g=>rw [hl] at h1;simp only [DataW.held.injEq] at h1;rw [h1]
def mixW (ws:Int->Mp) (fr:Int->Option Mp) (left:Lit->Bool):Int->Mp:=fun i=>if left (.int .i64 i)=true then ws i else (fr i).getD (ws i)
theorem mixW_step (ws:Int->Mp) (fr:Int->Option Mp) (left:Lit->Bool) {i:Int} {u:Mp} (h:fr i=some u):upd (mixW ws fr left) i u=mixW ws fr (fun z=>left z && !z.sameKey (.int .i64 i)):=by
 funext j
 unfold upd mixW;by_cases e:j=i
 ·subst e;rw [if_pos rfl,if_neg (by simp [Lit.sameKey]),h];rfl
 ·rw [if_neg e];have:(Lit.int .i64 j).sameKey (.int .i64 i)=false:=by simp [Lit.sameKey,e]
  simp only [this,Bool.not_false,Bool.and_true]
theorem make_fresh (w:World):(Instr.makeMap tFresh none).run Tryz.prog w=.ok (.map (some w.heap.size)) (w.alloc (.map #[] 0)):=rfl
theorem TurnP.up {S S2:Bset} {w w':World} (h:TurnP S S w w') (hs:∀ k,S k->S2 k):TurnP S2 S2 w w':=⟨h.os,h.tape,h.output,h.size,fun k hk hn=>⟨hn,(h.far k hk fun e=>hn (hs k e)).2⟩⟩
theorem flat_step {rs:List RwV} {j:Nat} (hj:j<rs.length) {q:RwV} (hq:rs[rs.length - 1 - j]?=some q):((rs.map (·.l)).reverse.take (j+1)).flatten=((rs.map (·.l)).reverse.take j).flatten++q.l:=by
 rw [List.take_add_one,List.flatten_append]
 congr 1
 have:(rs.map (·.l)).reverse[j]?=some q.l:=by
  rw [List.getElem?_reverse (by simpa using hj),List.length_map,List.getElem?_map,hq];rfl
 rw [this];simp
theorem flat_rest {rs:List RwV} {j:Nat} (hj:j<rs.length) {q:RwV} (hq:rs[rs.length - 1 - j]?=some q) {k:Nat} (hk:k<q.l.length):∃ post,(rs.map (·.l)).reverse.flatten=(((rs.map (·.l)).reverse.take j).flatten++q.l.take k)++q.l[k]::post:=by
 have h1:=flat_step hj hq;refine ⟨q.l.drop (k+1)++((rs.map (·.l)).reverse.drop (j+1)).flatten,?_⟩;have h2:(rs.map (·.l)).reverse.flatten=((rs.map (·.l)).reverse.take (j+1)).flatten++((rs.map (·.l)).reverse.drop (j+1)).flatten:=by rw [← List.flatten_append,List.take_append_drop]
 rw [h2,h1,List.append_assoc,List.append_assoc]
 congr 1
 have h3:q.l=q.l.take k++q.l[k]::q.l.drop (k+1):=by
  rw [← List.drop_eq_getElem_cons hk,List.take_append_drop]
 rw [← List.cons_append,← List.append_assoc,← h3]
theorem BlkT.al {w:World} {k:Nat} {cs:List Value} {T:TypeId} (h:BlkT w k cs T) (o:Obj):BlkT (w.alloc o) k cs T:=BlkT.stays h (Below.heap_alloc w o k (BlkT.inside h))
theorem results_cell_err {fn:Func} {p:Tmp} (h:fn.results=#[.cell p 26]) (tmps:Array Value) (w:World) {g:Nat} {v:Int} (hp:tmps.getD p undef=.pointer (some ⟨g,0,none⟩)) (hc:w.cell? ⟨g,0,none⟩=some (.int .i64 v)) :
  (results fn tmps).run Tryz.prog w=.ok (.int .i64 v) w:=by
 have hp':tmps[p]?.getD undef=.pointer (some ⟨g,0,none⟩):=by simpa using hp
 simp [results,h,hp',asAddr,go_sem,hc]
theorem VM.kind {w:World} {k:Nat} {l:LV} (h:VM w k l):∃ o,w.heap[k]?=some o∧isBk o=false:=by
 obtain ⟨es',clock,h4,_⟩:=h.own;exact ⟨_,h4,rfl⟩
theorem FRm.bk {B:Nat} {w w':World} {mf:Nat} {fr:Int->Option Mp} (h:FRm w mf fr) (hb:Bk B w w'):FRm w' mf fr:=by
 obtain ⟨es,h1,-⟩:=id h;obtain ⟨o,ho,hn⟩:=h1.kind;exact h.stays ((hb.keep ho hn).trans ho.symm)
theorem FRm.put {w:World} {mf:Nat} {fr:Int->Option Mp} (h:FRm w mf fr) {t:T} (hs:∀ j,fr j≠none->has t j=true) (hn:t.length<=100000) {i:Int} (hi:I64 i) (u:Mp) :
  ∃ w',(Instr.mapUpdate tFresh (.map (some mf)) (.int .i64 i) (.agg u.cs.toArray)).run Tryz.prog w=.ok () w'∧FRm w' mf (upd fr i (some u))∧w.grownBy w' (some mf):=by
 obtain ⟨es,h1,h2⟩:=h;have hle:=es_le (t:=t) h1.rises fun j hj=>hs j fun e=>by rw [h2,e] at hj;exact hj rfl
 obtain ⟨w',hrun,hm,hg⟩:=h1.store und_fresh hi (.agg u.cs.toArray) (by have:=vput_len i (.agg u.cs.toArray) es;omega);refine ⟨w',hrun,⟨_,hm,fun j=>?_⟩,hg⟩;rw [omap.look_put];unfold upd;by_cases e:j=i
 ·rw [if_pos e,if_pos e];rfl
 ·rw [if_neg e,if_neg e,h2]
theorem FRm.kb {w w':World} {mf:Nat} {fr:Int->Option Mp} (h:FRm w mf fr) (hg:w.grownBy w' (some mf)):KB w w':=KB.of_grown hg fun j o e ho=>by
 obtain rfl:=Option.some.inj e;obtain ⟨es,h1,-⟩:=h;obtain ⟨o',h4,h5⟩:=h1.kind;rw [ho] at h4;cases h4;exact h5
theorem TurnP.growNew {S S':Bset} {w w1 w2:World} {row:Option Nat} (h:TurnP S S' w w1) (hg:w1.grownBy w2 row) (hr:∀ k,row=some k->w.heap.size<=k):TurnP S S' w w2:=
 ⟨hg.os.trans h.os,hg.tape.trans h.tape,hg.output.trans h.output,Nat.le_trans h.size hg.size,fun k hk hn=>⟨(h.far k hk hn).1,(hg.block k (Nat.lt_of_lt_of_le hk h.size) fun e=>by have:=hr k e.symm;omega).trans (h.far k hk hn).2⟩⟩
theorem TurnP.setNew {S S':Bset} {w w1:World} {a:Addr} (h:TurnP S S' w w1) (hn:w.heap.size<=a.block) (u:Value):TurnP S S' w (w1.setCell a u):=
 ⟨h.os,h.tape,h.output,by simpa [World.setCell] using h.size,fun k hk hk2=>⟨(h.far k hk hk2).1,(Below.heap_setCell w1 a u k (by omega)).trans (h.far k hk hk2).2⟩⟩
structure StJ (g b m:Nat) (s:Sh) (Z:ZZ) (x x':PSc) (i d:Bool) (w:World):Prop where
 no:d=false->SceneAt w g b m s Z x
 yes:d=true->SceneAt w g b m s Z x'
 o:d=true->i=true
theorem StJ.lo {g b m:Nat} {s:Sh} {Z:ZZ} {x x':PSc} {i d:Bool} {w:World} (h:StJ g b m s Z x x' i d w) (hi:i=false):SceneAt w g b m s Z x:=h.no (by
 cases hd:d with
 | false=>rfl
 | true=>have:=h.o hd;rw [hi] at this;cases this)
theorem StJ.fi {g b m:Nat} {s:Sh} {Z:ZZ} {x x':PSc} {i d:Bool} {w:World} (h:StJ g b m s Z x x' i d w):StJ g b m s Z x x' true d w:=⟨h.no,h.yes,fun _=>rfl⟩
theorem ranges_of {H:Type} {P:Program} {k:TypeId} {R:Value->Option (DataW H×List MemPlace)} {w w':World} {b r n:Nat} {D:DataW H} {left:Lit->Bool} {cnt:Nat} (h:w.ranges P k R b r n D left cnt) (h1:w'.heap[b]?=w.heap[b]?) (h2:w'.heap[r]?=w.heap[r]?):w'.ranges P k R b r n D left cnt:=by
 obtain ⟨es,clock,since,seen,c0,hb,F,hs,hD,hr,rest⟩:=h;exact ⟨es,clock,since,seen,c0,h1.trans hb,F,hs,hD,h2.trans hr,rest⟩
def One (k:Nat):Bset:=fun q=>q=k
def Two2 (k j:Nat):Bset:=fun q=>q=k∨q=j
def StI1 (x:PSc) (rs:List RwV) (mf:Nat) (w3:World) (k:Nat) (W:World):Prop:=∃ fr,TurnP (One mf) (One mf) w3 W∧FRm W mf fr∧FrI x (((rs.map (fun q:RwV=>q.l)).reverse.take k).flatten) fr
def StX1 (x:PSc) (mf rc:Nat) (w3:World) (co:Code) (W:World):Prop:=co=.ret∧TurnP (Two2 mf rc) (Two2 mf rc) w3 W∧BlkT W rc [.int .i64 35] 26∧∃ i,has x.t i=true∧worldOf x.t x.nd i=none
section
variable {w:World} {g b m:Nat} {s:Sh} {Z:ZZ} {x:PSc}
theorem settle_any (h:SceneAt w g b m s Z x) (hn:x.t.length<=900) (hg:Good x) (l:List OpR) (A:Option Addr) (c:Nat) (ho:OpsAt (SFoot b m s x.t) w A l) (hok:∀ q∈l,OpOk q.o) (hl:l.length<=1024) (hst:Settled x (tch (l.map (·.o)))) :
  Calls Tryz.prog 74 #[.pointer (some ⟨g,0,none⟩),.slice A l.length c] w (SetQ g b m Z s x (setSt x) w):=by
 have HS:=Hd h;have HN:=Hd hn;have HG:=Hd hg;have HO:=Hd ho;have HOK:=Hd hok;have HL:=Hd hl;have HST:=Hd hst;have hmf:=fun w=>make_fresh w;clear h hn hg ho hok hl hst;refine calls_of_marks Tryz.func74 rfl ?_;simp only [Tryz.ntmps74,List.size_toArray,List.length_cons,List.length_nil,Nat.reduceAdd,Nat.reduceSub,Array.replicate_succ,Array.replicate_zero,List.push_toArray,List.append_toArray,List.nil_append,List.cons_append]
 go_upto_region 2 with (fail)
 clear hmf;have hb0:Below w.heap.size w ((((w.alloc (.cells #[.pointer (some ⟨g,0,none⟩)] 25)).alloc (.cells #[.int .i64 0] 26)).alloc (.map #[] 0)).alloc (.cells #[.map (some (w.heap.size+1+1))] tFresh)):=(((bR.alloc nR _).alloc (by simp) _).alloc (by simp;omega) _).alloc (by simp;omega) _;have HB0:=Hd hb0;have HSZ:Hid (((((w.alloc (.cells #[.pointer (some ⟨g,0,none⟩)] 25)).alloc (.cells #[.int .i64 0] 26)).alloc (.map #[] 0)).alloc (.cells #[.map (some (w.heap.size+1+1))] tFresh)).heap.size=w.heap.size+4):=by show _=_;simp
 have HKB:Hid (BlkT ((((w.alloc (.cells #[.pointer (some ⟨g,0,none⟩)] 25)).alloc (.cells #[.int .i64 0] 26)).alloc (.map #[] 0)).alloc (.cells #[.map (some (w.heap.size+1+1))] tFresh)) w.heap.size [.pointer (some ⟨g,0,none⟩)] 25):=BlkT.al (BlkT.al (BlkT.al (BlkT.new w [.pointer (some ⟨g,0,none⟩)] _) _) _) _
 have HKR:Hid (BlkT ((((w.alloc (.cells #[.pointer (some ⟨g,0,none⟩)] 25)).alloc (.cells #[.int .i64 0] 26)).alloc (.map #[] 0)).alloc (.cells #[.map (some (w.heap.size+1+1))] tFresh)) (w.heap.size+1) [.int .i64 0] 26):=by
  have:=(BlkT.new (w.alloc (.cells #[.pointer (some ⟨g,0,none⟩)] 25)) [.int .i64 0] 26)
  rw [World.size_alloc] at this;exact BlkT.al (BlkT.al this _) _
 have HMF:Hid (FRm ((((w.alloc (.cells #[.pointer (some ⟨g,0,none⟩)] 25)).alloc (.cells #[.int .i64 0] 26)).alloc (.map #[] 0)).alloc (.cells #[.map (some (w.heap.size+1+1))] tFresh)) (w.heap.size+1+1) (fun _=>none)):=by
  have:=VM.made ((w.alloc (.cells #[.pointer (some ⟨g,0,none⟩)] 25)).alloc (.cells #[.int .i64 0] 26));rw [World.size_alloc,World.size_alloc] at this;exact ⟨[],this.below (bR.alloc nR _),fun j=>by simp [omap.look_nil]⟩
 have HKF:Hid (BlkT ((((w.alloc (.cells #[.pointer (some ⟨g,0,none⟩)] 25)).alloc (.cells #[.int .i64 0] 26)).alloc (.map #[] 0)).alloc (.cells #[.map (some (w.heap.size+1+1))] tFresh)) (w.heap.size+1+1+1) [.map (some (w.heap.size+1+1))] tFresh):=by
  have:=(BlkT.new (((w.alloc (.cells #[.pointer (some ⟨g,0,none⟩)] 25)).alloc (.cells #[.int .i64 0] 26)).alloc (.map #[] 0)) [.map (some (w.heap.size+1+1))] tFresh)
  rw [World.size_alloc,World.size_alloc,World.size_alloc] at this;exact this
 clear hb0;generalize ((((w.alloc (.cells #[.pointer (some ⟨g,0,none⟩)] 25)).alloc (.cells #[.int .i64 0] 26)).alloc (.map #[] 0)).alloc (.cells #[.map (some (w.heap.size+1+1))] tFresh))=W0 at *
 obtain ⟨fb,hfb⟩:∃ fb,w.heap.size+1+1+1=fb:=⟨_,rfl⟩
 obtain ⟨mf,hmf⟩:∃ mf,w.heap.size+1+1=mf:=⟨_,rfl⟩
 obtain ⟨rc,hrc⟩:∃ rc,w.heap.size+1=rc:=⟨_,rfl⟩
 have HNO:Hid (rc=w.heap.size+1∧mf=w.heap.size+2∧fb=w.heap.size+3):=⟨by omega,by omega,by omega⟩
 rw [hfb,hmf] at HKF;rw [hmf] at HMF;rw [hrc] at HKR;rw [hfb,hmf,hrc];clear hfb hmf hrc;have HSC:=Hd (stale_any (w:=W0) (fun W hb=>HS.out.below (HB0.out.trans (hb.mono HB0.out.size))) HN.out l A c (HO.out.turn (TurnP.below HB0.out)) HOK.out HL.out);unfold StQ at HSC;have c0:=HKB.out.blk.cell 0;have i0:=HKB.out.inside;simp only [List.getElem?_cons_zero] at c0;go_wp2_with (fail);refine HSC.out.mono ?_;rintro e w2 ⟨U,uc,rs,Sn,rfl,hu,hr,hsti,hrl,hb2⟩;have HSTI:=Hd hsti;have HU:=Hd hu;have HR:=Hd hr;have HRL:=Hd hrl;have HB2:=Hd hb2;clear hsti hu hr hrl hb2 HSC c0 i0;go_wp2_with (fail)
 refine (backr_call U rs.length uc w2).mono ?_;rintro e w3 ⟨rfl,hw3⟩;have hb3:Below w2.heap.size w2 w3:=by rw [hw3];exact bR.alloc nR _
 have hx3:BlkT w3 w2.heap.size [.slice U rs.length uc] 223:=by rw [hw3];exact BlkT.new w2 _ _
 obtain ⟨bx,hbx⟩:∃ bx,w2.heap.size=bx:=⟨_,rfl⟩
 have HBX:Hid (W0.heap.size<=bx∧bx<w3.heap.size):=by rw [← hbx];exact ⟨HB2.out.size,hx3.inside⟩
 rw [hbx] at hx3;have HX3:=Hd hx3;have HB03:Hid (Below W0.heap.size W0 w3):=HB2.out.trans (hb3.mono HB2.out.size);have HBW3:=Hd (HB0.out.trans (HB03.out.mono HB0.out.size));have HU3:=Hd (SOwn.below HU.out hb3);have HR3:Hid (∀ q∈rs,IOwn w3 W0.heap.size q.v q.l):=fun q hq=>SOwn.below (HR.out q hq) hb3;have HNB:Hid (∀ k,One mf k->w.heap.size<=k∧k<W0.heap.size):=fun k e=>by have:=HNO.out;have:=HSZ.out;unfold One at e;omega
 have HNB2:Hid (∀ k,Two2 mf rc k->w.heap.size<=k∧k<W0.heap.size):=fun k e=>by have:=HNO.out;have:=HSZ.out;unfold Two2 at e;omega
 have FBW:Hid (∀ W,TurnP (Two2 mf rc) (Two2 mf rc) w3 W->Below w.heap.size w W):=fun W ht=>HBW3.out.trans (ht.to_below HBW3.out.size fun k e=>(HNB2.out k e).1);have FUP:Hid (∀ W,TurnP (One mf) (One mf) w3 W->TurnP (Two2 mf rc) (Two2 mf rc) w3 W):=fun W ht=>ht.up fun k e=>.inl e
 have FBK:Hid (∀ W,TurnP (Two2 mf rc) (Two2 mf rc) w3 W->BackR bx U uc (rs.map RwV.v) W):=fun W ht=>by
  have hne:∀ k,W0.heap.size<=k->¬ Two2 mf rc k:=fun k hk e=>by have:=(HNB2.out k e).2;omega
  refine ⟨?_,fun j hj=>?_⟩
  ·have:=(HX3.out.stays (ht.far bx HBX.out.2 (hne _ HBX.out.1)).2).blk.cell 0;rw [List.length_map];exact this
  ·rw [List.length_map] at hj;have hu:RwOwn W W0.heap.size (.slice U rs.length uc) rs:=SOwn.stays HU3.out fun k hk=>(ht.far k (SOwn.block HU3.out hk).2 (hne _ (SOwn.block HU3.out hk).1)).2;obtain ⟨g9,c9,e9,-,-,hrow⟩:=SOwn.row0 hu RwV.cs_len (by omega)
   injection e9 with e9 _ _
   obtain ⟨b9,o9,e8,hc⟩:=hrow (by omega)
   injection e8 with e8
   injection e8 with e8 e7
   refine ⟨g9,e9,?_⟩;have:=hc j hj 0 (rs[j].v) rfl;rw [← e8,← e7] at this
   simpa using this
 have FRW:Hid (∀ W,TurnP (Two2 mf rc) (Two2 mf rc) w3 W->∀ q∈rs,Row eI W q.A q.l):=fun W ht q hq=>by
  have h1:=HR3.out q hq;have h2:IOwn W W0.heap.size q.v q.l:=SOwn.stays h1 fun k hk=>(ht.far k (SOwn.block h1 hk).2 fun e=>by have:=(HNB2.out k e).2;have:=(SOwn.block h1 hk).1;omega).2;obtain ⟨A9,c9,e9,-,-,hrow⟩:=IOwn.irow h2;unfold RwV.v at e9
  injection e9 with e9 _ _
  rw [e9];exact hrow
 have FSC:Hid (∀ W,TurnP (Two2 mf rc) (Two2 mf rc) w3 W->SceneAt W g b m s Z x):=fun W ht=>HS.out.below (FBW.out W ht)
 have FCE:Hid (∀ W,TurnP (One mf) (One mf) w3 W->BlkT W w.heap.size [.pointer (some ⟨g,0,none⟩)] 25∧BlkT W fb [.map (some mf)] tFresh∧BlkT W rc [.int .i64 0] 26):=fun W ht=>by
  have h0:=HNO.out;have hst:∀ k,k<W0.heap.size->k≠mf->W.heap[k]?=W0.heap[k]?:=fun k hk hne=>(ht.far k (Nat.lt_of_lt_of_le hk HB03.out.size) hne).2.trans (HB03.out.block k hk);have k1:=HKB.out.stays (hst _ HKB.out.inside (by omega));have k2:=HKF.out.stays (hst _ HKF.out.inside (by omega));exact ⟨k1,k2,HKR.out.stays (hst _ HKR.out.inside (by omega))⟩
 have HM3:Hid (FRm w3 mf (fun _=>none)):=HMF.out.below HB03.out;have HLE:Hid ((rs.map RwV.v).length<=100000):=by show _<=_;rw [List.length_map];have:=HRL.out;rw [List.length_map] at this;have:=HL.out;omega
 rw [hbx];clear hw3 hb3 hx3 hbx HU HR HX3 HU3 HR3 HB2 HKB HKF HKR HMF;go_wp2_with (fail)
 refine wp_range (gf:=136) (lb:=#[.pointer (some ⟨bx,0,none⟩)]) rfl (enters_of Tryz.func136 (by kernel_rfl) rfl) (es:=backrE (rs.map RwV.v)) (R:=fun _=>Eq) (Kp:=fun A B=>BackR bx U uc (rs.map RwV.v) A->BackR bx U uc (rs.map RwV.v) B)
  (fun W1 hb=>backr_iter HLE.out ((FBK.out w3 (TurnP.refl _ _)).bk hb)) (fun h k x=>k (h x)) (fun A B hb h=>h.bk hb) (fun n A B e k o _ hk _=>e ▸ hk)
  (fun e he=>by obtain ⟨j,_,rfl⟩:=List.mem_map.1 he;rfl)
  (StI1 x rs mf w3) (fun co k W=>StX1 x mf rc w3 co W) (fun k A B h hr=>?hI) (fun co k A B h hr=>?hIx) ⟨_,TurnP.refl _ _,HM3.out,FrI.start x⟩ ?a1 ?assign ?body ?done ?stopd
 case hI=>
  obtain ⟨fr,h1,h2,h3⟩:=h;rcases hr with ⟨n,hn,rfl⟩ | hb
  ·exact ⟨fr,h1,h2,h3⟩
  ·exact ⟨fr,h1.bk hb nR,h2.bk hb,h3⟩
 case hIx=>
  obtain ⟨h1,h2,h3,h4⟩:=h;rcases hr with ⟨n,hn,rfl⟩ | hb
  ·exact ⟨h1,h2,h3,h4⟩
  ·exact ⟨h1,h2.bk hb nR,h3.bk hb,h4⟩
 case assign=>
  intro l j hj W9 KK hKK;rw [backrE_at]
  gi_wp2_with (fail)
  exact hKK
 case stopd=>
  rintro D co k W9 hD hle ⟨rfl,ht,hrc,i,hi,hw⟩ hd;have HT:=Hd ht;have HRC:=Hd hrc;have HE:Hid (setSt x=(x,35)):=setSt_bad hi hw;clear ht hrc hi hw;go_wp2_with (fail)
  refine postM_ret w3.heap.size ⟨⟨D,rfl,hD,hd,by simp⟩,trivial⟩ fun w' hb=>⟨_,results_cell_err rfl _ _ rfl ((HRC.out.bk hb).blk.cell 0),?_⟩
  rw [HE.out];have h1:=FBW.out _ HT.out;exact ⟨s,rfl,(FSC.out _ HT.out).bk hb,TurnP.below (h1.trans (hb.below HBW3.out.size h1.size))⟩
 case body=>
  rintro l2 j hj W9 ⟨fr,h1,h2,h3⟩;rw [backrE_len,List.length_map] at hj
  obtain ⟨q,hq⟩:∃ q,rs[rs.length - 1 - j]?=some q:=⟨_,List.getElem?_eq_getElem (by omega)⟩
  have HQM:Hid (q∈rs):=List.mem_of_getElem? hq;have hv:(Option.map RwV.v rs[rs.length - 1 - j]?).getD undef=.slice q.A q.l.length q.c:=by rw [hq];rfl
  have HFR:Hid (∀ k (hk:k<q.l.length),∃ post,(rs.map (fun q:RwV=>q.l)).reverse.flatten=(((rs.map (fun q:RwV=>q.l)).reverse.take j).flatten++q.l.take k)++q.l[k]::post):=fun k hk=>flat_rest hj hq hk;have HFS:Hid (((rs.map (fun q:RwV=>q.l)).reverse.take (j+1)).flatten=((rs.map (fun q:RwV=>q.l)).reverse.take j).flatten++q.l):=flat_step hj hq;have HQ64:Hid (∀ i∈q.l,I64 i):=fun i hi=>has_64 HS.out.tree.ok (HSTI.out.hs i ((HSTI.out.mem i).2 ⟨q.l,List.mem_map.2 ⟨q,HQM.out,rfl⟩,hi⟩))
  have HQL:Hid (q.l.length<=x.t.length+1):=by
   have hnd:q.l.Nodup:=(List.pairwise_flatten.1 HSTI.out.nd).1 q.l (by rw [List.mem_reverse];exact List.mem_map.2 ⟨q,HQM.out,rfl⟩)
   have:=len_of_sub (m:=0::ids x.t) hnd fun i hi=>by
    rcases has_iff.1 (HSTI.out.hs i ((HSTI.out.mem i).2 ⟨q.l,List.mem_map.2 ⟨q,HQM.out,rfl⟩,hi⟩)) with e | e
    ·exact List.mem_cons.2 (.inl e)
    ·exact List.mem_cons_of_mem _ e
   rwa [List.length_cons,ids_len] at this
  rw [hv];clear hv hq hj;generalize ((rs.map (fun q:RwV=>q.l)).reverse.take j).flatten=pre at *;have HT9:=Hd h1;have HM9:=Hd h2;have HF9:=Hd h3;clear h1 h2 h3;have hqb:(q.l.length:Int)<=100000:=by have:=HQL.out;have:=HN.out;omega
  gi_wp2_with (fail)
  gi_loopw [23] (fun x23 wr=>∃ (j2:Nat) (fr:Int->Option Mp),j2<=q.l.length∧x23=.int .i64 j2∧Hid (TurnP (One mf) (One mf) w3 wr)∧Hid (FRm wr mf fr)∧Hid (FrI x (pre++q.l.take j2) fr)∧Hid (KB W9 wr)) (fun x23 _=>q.l.length - (intOf x23).toNat)
  case atStart=>exact ⟨0,fr,Nat.zero_le _,rfl,HT9.out,HM9.out,by show FrI _ _ _;simpa using HF9.out,KB.refl _⟩
  case round=>
   obtain ⟨j2,fr2,hj2,rfl,HT,HM,HF,HK⟩:=hrel;generalize wr=wA at *;clear HT9 HM9 HF9;by_cases hlt:j2<q.l.length
   ·have t1:decide (j2<q.l.length)=true:=by simpa using hlt
    have HLT:=Hd hlt;obtain ⟨rb,ro,rA,rcell⟩:=(FRW.out wA (FUP.out _ HT.out) q HQM.out).at_ hlt
    obtain ⟨i,hi⟩:∃ i,i=q.l[j2]'hlt:=⟨_,rfl⟩
    have HI64:Hid (I64 i):=by rw [hi];exact HQ64.out _ (List.getElem_mem hlt)
    have HPO:Hid (∃ post,(rs.map (fun q:RwV=>q.l)).reverse.flatten=(pre++q.l.take j2)++i::post):=by rw [hi];exact HFR.out j2 hlt
    have HTK:Hid (q.l.take (j2+1)=q.l.take j2++[i]):=by rw [hi];exact List.take_succ_eq_append_getElem hlt
    have HRK:=Hd (reckon_any (FSC.out wA (FUP.out _ HT.out)) i HI64.out HM.out)
    have HSP:Hid (((reckonS x fr2 i).2=0∧FrI x ((pre++q.l.take j2)++[i]) (upd fr2 i (some (reckonS x fr2 i).1)))∨((reckonS x fr2 i).2=35∧has x.t i=true∧worldOf x.t x.nd i=none)):=by
     obtain ⟨post,hp⟩:=HPO.out;exact HF.out.step HS.out.tree.ok HG.out HSTI.out HST.out hp
    obtain ⟨R,hR⟩:∃ R,reckonS x fr2 i=R:=⟨_,rfl⟩
    rw [hR] at HRK HSP;obtain ⟨RM,RE⟩:=R;have hic:wA.cell? ⟨rb,ro+j2,none⟩=some (.int .i64 i):=by rw [hi];exact rcell
    obtain ⟨k0,k1,-⟩:=FCE.out wA HT.out;have c0:=k0.blk.cell 0;have i0:=k0.inside;have c1:=k1.blk.cell 0;have i1:=k1.inside;simp only [List.getElem?_cons_zero] at c0 c1;clear k0 k1;clear hi hR hlt rcell;unfold Mp.cs at HRK
    dsimp only at HRK HSP
    have HPH:Hid (∀ j,fr2 j≠none->has x.t j=true):=fun j hj=>by
     by_cases hm:j∈pre++q.l.take j2
     ·obtain ⟨post,hp⟩:=HPO.out;have:j∈(rs.map (fun q:RwV=>q.l)).reverse.flatten:=by rw [hp];exact List.mem_append_left _ hm
      obtain ⟨r,h1,h2⟩:=List.mem_flatten.1 this;exact HSTI.out.hs j ((HSTI.out.mem j).2 ⟨r,List.mem_reverse.1 h1,h2⟩)
     ·exact absurd (HF.out.no j hm) hj
    clear HPO
    gi_wp2_with (fail)
    refine ⟨trivial,rfl,CallsIn.inRound l2 ((callsIn_wide (n:=0)).2 (HRK.out.mono ?_))⟩;rintro e wB ⟨rfl,hbB⟩;obtain ⟨u1,u2,u3,u4,u5,u6⟩:=RM
    dsimp only at HSP ⊢
    have hbC:Below wB.heap.size wB (wB.alloc (.cells (Vd u1 u2 u3 u4 u5 u6).toArray 65)):=bR.alloc nR _;have HBC:Hid (Below wA.heap.size wA (wB.alloc (.cells (Vd u1 u2 u3 u4 u5 u6).toArray 65))):=hbB.trans (hbC.mono hbB.size);clear hbB hbC HRK c0 i0 c1 i1 hic;have HTC:Hid (TurnP (One mf) (One mf) w3 (wB.alloc (.cells (Vd u1 u2 u3 u4 u5 u6).toArray 65))):=HT.out.trans (TurnP.below HBC.out);have HMC:=Hd (HM.out.below HBC.out);have HKC:Hid (KB W9 (wB.alloc (.cells (Vd u1 u2 u3 u4 u5 u6).toArray 65))):=HK.out.trans (KB.below HBC.out);obtain ⟨-,k1,crc⟩:=FCE.out _ HTC.out
    have c1:=k1.blk.cell 0;have i1:=k1.inside;simp only [List.getElem?_cons_zero] at c1;clear k1;have HCR:=Hd crc;clear crc;rcases HSP.out with ⟨rfl,hfr⟩ | ⟨rfl,hxi,hwi⟩
    ·have HFC:=Hd hfr;obtain ⟨wD,hrun,hmD,hgD⟩:=HMC.out.put HPH.out (by have:=HN.out;omega) HI64.out ⟨u1,u2,u3,u4,u5,u6⟩;have HTD:Hid (TurnP (One mf) (One mf) w3 wD):=HTC.out.trans (TurnP.grown hgD fun k e=>(Option.some.inj e).symm);have HMD:=Hd hmD;have HKD:Hid (KB W9 wD):=HKC.out.trans (HMC.out.kb hgD);have HFD:Hid (FrI x (pre++q.l.take (j2+1)) (upd fr2 i (some ⟨u1,u2,u3,u4,u5,u6⟩))):=by rw [HTK.out,← List.append_assoc];exact HFC.out
     clear hfr hmD hgD HSP HMC HTC HKC HFC HM HT HK HF HBC HCR HPH;unfold Mp.cs at hrun
     gi_wp2_with (fail)
     go_roundw
     case rel=>exact ⟨_,_,_,_,⟨j2+1,HLT.out,by go_num,_,HMD,HFD⟩,rfl,rfl,rfl,rfl⟩
     case measure=>have:=HLT.out;simp [intOf];omega
    ·have HX:=Hd (And.intro hxi hwi);have f0:=HCR.out.blk.free 0;have c0:=HCR.out.blk.cell 0;have i0:=HCR.out.inside;simp only [List.getElem?_cons_zero] at c0;clear hxi hwi HSP HM HT HK HF HBC HPH
     have HEND:Hid (KB W9 ((wB.alloc (.cells (Vd u1 u2 u3 u4 u5 u6).toArray 65)).setCell ⟨rc,0,none⟩ (.int .i64 35))∧StX1 x mf rc w3 .ret ((wB.alloc (.cells (Vd u1 u2 u3 u4 u5 u6).toArray 65)).setCell ⟨rc,0,none⟩ (.int .i64 35))):=
      ⟨HKC.out.trans (KB.set (a:=⟨rc,0,none⟩) HCR.out rfl _),rfl,(FUP.out _ HTC.out).trans (TurnP.set (a:=⟨rc,0,none⟩) (.inr rfl) _),HCR.out.set 0 _,i,HX.out⟩
     gi_wp2_with (fail)
     exact HEND.out
   ·obtain rfl:j2=q.l.length:=by omega
    have t1:decide (q.l.length<q.l.length)=false:=by simp
    have HI:Hid (StI1 x rs mf w3 (j+1) wA):=⟨fr2,HT.out,HM.out,by rw [HFS.out];have:=HF.out;rwa [List.take_length] at this⟩
    have HKP:Hid (BackR bx U uc (rs.map RwV.v) wA):=FBK.out _ (FUP.out _ HT.out);clear hlt
    gi_wp2_with (fail)
    exact ⟨HK.out,fun _=>HKP.out,HI.out⟩
 case done=>
  rintro D W9 hD ⟨fr,h1,h2,h3⟩ hd;rw [backrE_len,List.length_map,List.take_of_length_le (by simp)] at h3;have HDN:=Hd (h3.done HS.out.tree.ok HSTI.out HST.out);have HT9:=Hd h1;have HM9:=Hd h2;have HD9:=Hd hd
  have HPH:Hid (∀ j,fr j≠none->has x.t j=true):=fun j hj=>by
   by_cases hm:j∈(rs.map (fun q:RwV=>q.l)).reverse.flatten
   ·obtain ⟨r,h4,h5⟩:=List.mem_flatten.1 hm;exact HSTI.out.hs j ((HSTI.out.mem j).2 ⟨r,List.mem_reverse.1 h4,h5⟩)
   ·exact absurd (h3.no j hm) hj
  obtain ⟨k0,k1,k2⟩:=FCE.out _ h1;have HK0:=Hd k0;have HK2:=Hd k2;have c1:=k1.blk.cell 0;have i1:=k1.inside;simp only [List.getElem?_cons_zero] at c1;have HSI:Hid (∀ k,SFoot b m s x.t k->k<w.heap.size):=HS.out.inside;have HZI:Hid (∀ k,Z.3 k->k<w.heap.size):=fun k hk=>(HS.out.old k hk).1;have HW9:=Hd (FBW.out _ (FUP.out _ h1));have HS9:=Hd (FSC.out _ (FUP.out _ h1));have HL3:Hid (w3.heap.size<=W9.heap.size):=h1.size;clear h1 h2 h3 hd k0 k1 k2;obtain ⟨es,hvm,hvl⟩:=HM9.out;have HVM:=Hd hvm;have HVL:=Hd hvl;have hown:=hvm.own;clear hvm hvl FBK FRW FSC FCE FBW FUP HM3 HLE HBX HM9 HT9
  go_wp2_with (at_range;refine wpList_range_own _ rfl _ tFresh rfl 3 65 keyedI und_fresh anyE mf es.length (mapV es) rfl hown ?_;intro w0 hrg0 hg0 hs0)
  go_frame
  obtain ⟨r,hr⟩:∃ r,W9.heap.size=r:=⟨_,rfl⟩
  have HR:Hid (r=W9.heap.size):=hr.symm;rw [hr] at hrg0 ⊢;have HRG:=Hd hrg0;have hw0:Below w.heap.size w w0:=HW9.out.trans ⟨hg0.os,hg0.tape,hg0.output,hg0.size,fun k hk=>hg0.block k (Nat.lt_of_lt_of_le hk HW9.out.size) (by simp)⟩
  have HS0:Hid (SceneAt w0 g b m s ⟨Z.1,Z.2,fun k=>Z.3 k∨(w.heap.size<=k∧k<=r)⟩ x):=HS.out.part (fun k h1 _=>hw0.block k h1) fun k hk=>by
   have h2:=hg0.size;have h3:=hs0;rcases hk with e | e
   ·exact ⟨Nat.lt_of_lt_of_le (HS.out.old k e).1 hw0.size,.inl e⟩
   ·exact ⟨by omega,.inr e.1⟩
  have HT0:Hid (TurnP (SFoot b m s x.t) (SFoot b m s x.t) W9 w0):=⟨hg0.os,hg0.tape,hg0.output,hg0.size,fun k hk hn=>⟨hn,hg0.block k hk (by simp)⟩⟩
  clear hrg0 hg0 hs0 hr c1 i1 hown hw0
  go_loopw [] (fun wr=>∃ (left:Lit->Bool) (cnt:Nat),Hid (wr.ranges Tryz.prog 3 anyE mf r es.length (mapV es) left cnt)∧Hid (SceneAt wr g b m s ⟨Z.1,Z.2,fun k=>Z.3 k∨(w.heap.size<=k∧k<=r)⟩ ⟨x.t,x.nd,mixW x.ws fr left⟩)∧Hid (TurnP (SFoot b m s x.t) (SFoot b m s x.t) W9 wr)) (fun wr=>wr.rangeLeft mf r)
  case atStart=>
   refine ⟨_,_,HRG.out,HS0.out.like ⟨HS0.out.tree.ok,fun _=>rfl,fun _ _=>rfl,fun i hi=>?_⟩,HT0.out⟩;show mixW x.ws fr _ i=x.ws i;unfold mixW;by_cases h:Maps.has (mapV es) (.int .i64 i)=true
   ·rw [if_pos h]
   ·rw [if_neg h];have h2:=HVL.out i;rw [has_mapV] at h;cases hl:omap.look es i with
    | none=>
     rw [hl] at h2;cases hf:fr i with
     | none=>rfl
     | some u=>rw [hf] at h2;cases h2
    | some v=>rw [hl] at h;exact absurd rfl h
  case round=>
   obtain ⟨left,cnt,hrg,hsc,htw⟩:=hrel;generalize wr=wA at *;clear HRG HS0 HT0;go_wp2_with (at_next;refine wpList_next_ranges _ rfl _ rfl 3 keyedI anyE (Value.int .i64) id (fun key kl hk=>by obtain ⟨x,hx,_⟩:=Maps.keyOf_int_inv Tryz.underlying3 hk;exact ⟨x,hx⟩) (fun v y hv=>⟨v,rfl⟩) mf r es.length (mapV es) left cnt rfl hrg.out ?_ ?_)
   ·intro _ hl0;have HL0:=Hd hl0;have k2:BlkT wA rc [.int .i64 0] 26:=HK2.out.off (fun e=>by have:=HSI.out _ e;have:=HNO.out;omega) htw.out;have f0:=k2.blk.free 0;have c0:=k2.blk.cell 0;have i0:=k2.inside;simp only [List.getElem?_cons_zero] at c0;have HB2:Hid (BlkT (wA.setCell ⟨rc,0,none⟩ (.int .i64 0)) rc [.int .i64 0] 26):=k2.set 0 _;have HTF:Hid (TurnP (SFoot b m s x.t) (SFoot b m s x.t) w (wA.setCell ⟨rc,0,none⟩ (.int .i64 0))):=((TurnP.below HW9.out).trans htw.out).setNew (by have:=HNO.out;show _<=rc;omega) _
    have HSF:Hid (SceneAt (wA.setCell ⟨rc,0,none⟩ (.int .i64 0)) g b m s Z (setSt x).1):=by
     have h1:SceneAt (wA.setCell ⟨rc,0,none⟩ (.int .i64 0)) g b m s ⟨Z.1,Z.2,Z.3⟩ ⟨x.t,x.nd,mixW x.ws fr left⟩:=hsc.out.part (fun k _ hk=>Below.heap_setCell wA ⟨rc,0,none⟩ _ k fun e=>hk (.inr ⟨by have e':k=rc:=e;have:=HNO.out;omega,by have e':k=rc:=e;have:=HNO.out;have:=HR.out;have:=HK2.out.inside;omega⟩)) fun k hk=>⟨by have:=(hsc.out.old k (.inl hk)).1;simpa [World.setCell] using this,.inl (.inl hk)⟩
     rw [HDN.out.1];refine SceneAt.like h1 ⟨h1.tree.ok,fun _=>rfl,fun _ _=>rfl,fun i hi=>?_⟩;show (worldOf x.t x.nd i).getD (x.ws i)=mixW x.ws fr left i;unfold mixW;rw [if_neg (by rw [HL0.out];simp),HDN.out.2 i hi]
    have HDD:Hid ((wA.setCell ⟨rc,0,none⟩ (.int .i64 0)).heap[D]?=some (.deferred (some []))):=by
     have h1:D<W9.heap.size:=(Array.getElem?_eq_some_iff.1 HD9.out).1;have h2:¬ SFoot b m s x.t D:=fun e=>by have:=HSI.out _ e;have:=HBW3.out.size;omega
     have h3:=(htw.out.far D h1 h2).2.trans HD9.out;exact (Below.heap_setCell wA ⟨rc,0,none⟩ _ D (fun e=>by have e':D=rc:=e;have:=HNO.out;have:=HSZ.out;have:=HB03.out.size;omega)).trans h3
    have HZ:Hid ((setSt x).2=0):=by show _=_;rw [HDN.out.1]
    clear hl0 k2;go_wp2_with (fail)
    refine postM_ret w3.heap.size ⟨⟨D,rfl,hD,HDD.out,by simp⟩,trivial⟩ fun w' hb=>⟨_,results_cell_err rfl _ _ rfl ((HB2.out.bk hb).blk.cell 0),?_⟩
    rw [← HZ.out];refine ⟨s,rfl,HSF.out.bk hb,?_⟩;rw [setSt_t];exact HTF.out.bk hb HBW3.out.size
   ·intro x2 c2 kl yd yp w2 cnt1 hkey hlk hv hat hrg1 hlt hg1 hs1 hen;obtain ⟨rfl,hx64,hlb⟩:=cameV hkey hv hat
    obtain ⟨u,hu,rfl⟩:∃ u,fr x2=some u∧c2=.agg u.cs.toArray:=by
     have h2:=HVL.out x2;rw [hlb] at h2;cases hf:fr x2 with
     | none=>rw [hf] at h2;cases h2
     | some u=>rw [hf] at h2;exact ⟨u,rfl,Option.some.inj h2⟩
    have HX64:=Hd hx64;have HHX:Hid (has x.t x2=true):=HPH.out x2 (by rw [hu];simp);have HMX:Hid (upd (mixW x.ws fr left) x2 u=mixW x.ws fr (fun z=>left z && !z.sameKey (.int .i64 x2))):=mixW_step x.ws fr left hu;have HRG1:=Hd hrg1;have HME:Hid (w2.rangeLeft mf r<wA.rangeLeft mf r):=by show _<_;rw [hrg1.left_eq,hrg.out.left_eq];exact hlt
    have HT2:Hid (TurnP (SFoot b m s x.t) (SFoot b m s x.t) W9 w2):=htw.out.growNew hg1 fun k e=>by have:=Option.some.inj e;have:=HR.out;omega
    have HS2:Hid (SceneAt w2 g b m s ⟨Z.1,Z.2,fun k=>Z.3 k∨(w.heap.size<=k∧k<=r)⟩ ⟨x.t,x.nd,mixW x.ws fr left⟩):=hsc.out.part (fun k hk hn=>hg1.block k hk fun e=>hn (.inr (by have e':k=r:=Option.some.inj e;have:=HR.out;have:=HW9.out.size;omega))) fun k hk=>⟨Nat.lt_of_lt_of_le (hsc.out.old k hk).1 hg1.size,.inl hk⟩
    have hbC:Below w2.heap.size w2 (w2.alloc (.cells (Vd u.a u.b u.c u.d u.e u.f).toArray 65)):=bR.alloc nR _;have HKC:Hid (Blk (w2.alloc (.cells (Vd u.a u.b u.c u.d u.e u.f).toArray 65)) w2.heap.size u.cs):=blk_new w2 u.cs _;have HBC:=Hd hbC;have HL2:Hid (w.heap.size<=w2.heap.size):=Nat.le_trans HW9.out.size HT2.out.size;unfold Mp.cs at hen;clear hkey hlk hv hat hrg1 hlt hg1 hs1 hlb hx64 hu hbC
    go_upto_region 15 with (fail)
    generalize (w2.alloc (.cells (Vd u.a u.b u.c u.d u.e u.f).toArray 65))=wC at *
    obtain ⟨k13,hk13⟩:∃ k13,w2.heap.size=k13:=⟨_,rfl⟩
    have HL13:Hid (w.heap.size<=k13):=by rw [← hk13];exact HL2.out
    rw [hk13] at HKC ⊢;have HSC2:Hid (SceneAt wC g b m s ⟨Z.1,Z.2,fun k=>Z.3 k∨(w.heap.size<=k∧k<=r)⟩ ⟨x.t,x.nd,mixW x.ws fr left⟩):=HS2.out.below HBC.out;have HTC:Hid (TurnP (SFoot b m s x.t) (SFoot b m s x.t) W9 wC):=HT2.out.trans (TurnP.below HBC.out);have HRC1:Hid (wC.ranges Tryz.prog 3 anyE mf r es.length (mapV es) (fun z=>left z && !z.sameKey (.int .i64 x2)) cnt1):=HRG1.out.kept (below_grown HBC.out) (by simp) (by simp);have HME2:Hid (wC.rangeLeft mf r<wA.rangeLeft mf r):=by show _<_;rw [HRC1.out.left_eq,← HRG1.out.left_eq];exact HME.out
    clear hk13 HL2 HS2 HT2 HRG1 HBC HME hen hrg hsc htw;obtain ⟨An,cn,hlk⟩:=HSC2.out.look_b HX64.out HHX.out;have HKB:Hid (BlkT wC w.heap.size [.pointer (some ⟨g,0,none⟩)] 25):=HK0.out.off (fun e=>by have:=HSI.out _ e;omega) HTC.out
    have HBB:Hid (∀ W,TurnP (SFoot b m s x.t) (SFoot b m s x.t) wC W->Blk W w.heap.size [.pointer (some ⟨g,0,none⟩)]∧Blk W k13 u.cs):=fun W ht=>⟨(HKB.out.off (fun e=>by have:=HSI.out _ e;omega) ht).blk,HKC.out.stays (ht.far k13 HKC.out.inside fun e=>by have:=HSI.out _ e;have:=HL13.out;omega).2⟩
    have HGT:=Hd HSC2.out.blk;have HNG:=Hd HSC2.out.gfar
    obtain ⟨n0,hn0⟩:∃ n0,x.nd x2=n0:=⟨_,rfl⟩
    have HND:Hid (x.nd x2=n0):=hn0;have HNF:Hid (NdOff (fun k=>Z.3 k∨(w.heap.size<=k∧k<=r)) (SFoot b m s x.t) wC n0 An):=by rw [← hn0];exact (hlk wC bR).2.2
    obtain ⟨u0,hu0⟩:∃ u0,mixW x.ws fr left x2=u0:=⟨_,rfl⟩
    have HLKA:Hid (∀ W,SceneAt W g b m s ⟨Z.1,Z.2,fun k=>Z.3 k∨(w.heap.size<=k∧k<=r)⟩ ⟨x.t,x.nd,mixW x.ws fr left⟩->∃ A c,(Instr.lookup tPlaces (.map (some m)) (.int .i64 x2) false).run Tryz.prog W=.ok (.agg (plcs n0 A c u0).toArray) W∧NdOff (fun k=>Z.3 k∨(w.heap.size<=k∧k<=r)) (SFoot b m s x.t) W n0 A):=fun W hs=>by
     obtain ⟨A,c,hl⟩:=hs.look_b HX64.out HHX.out;have h2:=hl W bR;rw [show (⟨x.t,x.nd,mixW x.ws fr left⟩:PSc).nd x2=n0 from hn0,show (⟨x.t,x.nd,mixW x.ws fr left⟩:PSc).ws x2=u0 from hu0] at h2;exact ⟨A,c,h2.1,h2.2.2⟩
    clear hlk hn0 hu0
    refine wR (TurnP (SFoot b m s x.t) (SFoot b m s x.t)) (fun L wx=>StJ g b m s ⟨Z.1,Z.2,fun k=>Z.3 k∨(w.heap.size<=k∧k<=r)⟩ ⟨x.t,x.nd,mixW x.ws fr left⟩ ⟨x.t,upd x.nd x2 n0,upd (mixW x.ws fr left) x2 u⟩ (L 10) (L 14) wx) [48,49,50,51,52,53,54,55,56,57,58,59,60,61] (fun _=>TurnP.refl _ _) (fun _ _ _ h k=>h.trans k) (fun i=>match i with
     |0|1|5|6=>rp g 0
     |2|7=>rp g 5
     |3|8=>rV (.map (some m))
     |4|9=>rV (.int .i64 x2)
     | 10=>(⟨fun v wv=>∃ A c,v=.agg (plcs n0 A c u0).toArray∧NdOff (fun k=>Z.3 k∨(w.heap.size<=k∧k<=r)) (SFoot b m s x.t) wv n0 A,fun v w1 w2 h hb=>h.elim fun A h=>h.elim fun c h=>⟨A,c,h.1,h.2.turn hb⟩⟩:regs.Say (TurnP (SFoot b m s x.t) (SFoot b m s x.t)))
     | 11=>(⟨fun v wv=>∃ A c,v=.agg (n0.cs A c).toArray∧NdOff (fun k=>Z.3 k∨(w.heap.size<=k∧k<=r)) (SFoot b m s x.t) wv n0 A,fun v w1 w2 h hb=>h.elim fun A h=>h.elim fun c h=>⟨A,c,h.1,h.2.turn hb⟩⟩:regs.Say (TurnP (SFoot b m s x.t) (SFoot b m s x.t)))
     |12=>rV (.agg (u.cs).toArray)
     | 13=>(⟨fun v wv=>∃ A c,v=.agg (plcs n0 A c u).toArray∧NdOff (fun k=>Z.3 k∨(w.heap.size<=k∧k<=r)) (SFoot b m s x.t) wv n0 A,fun v w1 w2 h hb=>h.elim fun A h=>h.elim fun c h=>⟨A,c,h.1,h.2.turn hb⟩⟩:regs.Say (TurnP (SFoot b m s x.t) (SFoot b m s x.t)))
     | _=>ra) (TurnP.below bR.drew) (⟨fun _=>HSC2.out.below bR.drew,nofun,nofun⟩) ⟨?_,?_,?_,?_,?_,?_,?_,?_,?_,?_,?_,?_,?_,?_,?_,trivial⟩ ?_
    any_goals (first|refine zp fun L a w1 hh=>?_|fail)
    have h2:=hh.p 2 w.heap.size 0;have ⟨c0,i0⟩:=((HBB.out _ hh.rel).1).ci 0 rfl;rotate_left;have h48:=rq (hh.d 0 48);rotate_left;have h49:=rq (hh.d 1 49);have i0:=((BlkT.off HGT.out HNG.out hh.rel).blk).inside;rotate_left;have h50:=rq (hh.d 2 50);have ⟨c0,i0⟩:=((BlkT.off HGT.out HNG.out hh.rel).blk).ci 5 rfl;rotate_left;have h12:=hh.o 12 (v:=.int .i64 x2) rfl;rotate_left;have h2:=hh.p 2 w.heap.size 0;have ⟨c0,i0⟩:=((HBB.out _ hh.rel).1).ci 0 rfl;rotate_left;have h53:=rq (hh.d 5 53);rotate_left;have h54:=rq (hh.d 6 54);have i0:=((BlkT.off HGT.out HNG.out hh.rel).blk).inside;rotate_left
    have h55:=rq (hh.d 7 55);have ⟨c0,i0⟩:=((BlkT.off HGT.out HNG.out hh.rel).blk).ci 5 rfl;rotate_left;have h12:=hh.o 12 (v:=.int .i64 x2) rfl;rotate_left
    ·have h56:=rq (hh.d 8 56);have h57:=rq (hh.d 9 57);obtain ⟨A8,c8,hlk,hn8⟩:=HLKA.out w1 (hh.st.lo hh.un);have hJ:=hh.j;clear hh;go_simp;exact ⟨_,rfl,TurnP.refl _ _,⟨A8,⟨c8,rfl⟩,hn8⟩,hJ.out.fi⟩
    ·obtain ⟨A8,c8,e8,hn8⟩:=(show ∃ A c,(a.tmps.getD 58 undef)=.agg (plcs n0 A c u0).toArray∧NdOff (fun k=>Z.3 k∨(w.heap.size<=k∧k<=r)) (SFoot b m s x.t) w1 n0 A from hh.d 10 58)
     have h58:a.tmps[58]?.getD undef=.agg (plcs n0 A8 c8 u0).toArray:=rq (e8);have hf1:=field_node n0 A8 c8 u0 w1;have hJ:=hh.j;clear hh;go_simp;exact ⟨_,rfl,TurnP.refl _ _,⟨A8,⟨c8,rfl⟩,hn8⟩,hJ.out⟩
    ·have h13:=hh.p 13 k13 0;have hB:=Hd ((HBB.out _ hh.rel).2);have hJ:=Hd hh.st;exact wp_take 65 _ rfl k13 0 (by simpa [go_sem] using h13) _ hB.out (u.cs) rfl _ Tryz.underlying65 rfl (by kernel_rfl) ⟨_,rfl,TurnP.refl _ _,rfl,hJ.out⟩
    ·have h60:=rq (hh.d 12 60)
     obtain ⟨A8,c8,e8,hn8⟩:=(show ∃ A c,(a.tmps.getD 59 undef)=.agg (n0.cs A c).toArray∧NdOff (fun k=>Z.3 k∨(w.heap.size<=k∧k<=r)) (SFoot b m s x.t) w1 n0 A from hh.d 11 59)
     have h59:a.tmps[59]?.getD undef=.agg (n0.cs A8 c8).toArray:=rq (e8);have hJ:=Hd hh.st;exact wp_build _ _ rfl (by simp [go_sem,h59,h60]) (build_placed n0 A8 c8 u w1) ⟨_,rfl,TurnP.refl _ _,⟨A8,c8,rfl,hn8⟩,hJ.out⟩
    ·have h51:=rq (hh.d 3 51);have h52:=rq (hh.d 4 52)
     obtain ⟨A8,c8,e8,hn8⟩:=(show ∃ A c,(a.tmps.getD 61 undef)=.agg (plcs n0 A c u).toArray∧NdOff (fun k=>Z.3 k∨(w.heap.size<=k∧k<=r)) (SFoot b m s x.t) w1 n0 A from hh.d 13 61)
     have h61:a.tmps[61]?.getD undef=.agg (plcs n0 A8 c8 u).toArray:=rq (e8);obtain ⟨w9,hrun,hs9,ht9⟩:=(hh.st.no hh.un).store (by have:=HN.out;show x.t.length<=_;omega) HX64.out HHX.out (show PlAt _ (SFoot b m s x.t) w1 (.agg (plcs n0 A8 c8 u).toArray) n0 u from ⟨_,_,rfl,hn8⟩);have hS9:=Hd hs9;have hT9:=Hd ht9;have hO9:=Hd (hh.up 10 (by kernel_rfl));clear hh hs9 ht9;go_simp;exact ⟨hT9.out,⟨undef,trivial⟩,nofun,fun _=>hS9.out,fun _=>hO9.out⟩
    any_goals (have hJ:=hh.j;clear hh;go_simp;exact ⟨_,rfl,TurnP.refl _ _,rfl,hJ.out⟩)
    intro L w11 val hL hJ hR hv;have HR11:=Hd hR;have HJ11:=Hd (hJ.yes (hL 14 (by decide)));clear hv hL hJ hR;simp only [regs.putAll,List.map_cons,List.map_nil];simp only [Act.put,List.setIfInBounds_toArray,List.set_cons_zero,List.set_cons_succ]
    skip
    have HS11:Hid (SceneAt w11 g b m s ⟨Z.1,Z.2,fun k=>Z.3 k∨(w.heap.size<=k∧k<=r)⟩ ⟨x.t,x.nd,mixW x.ws fr (fun z=>left z && !z.sameKey (.int .i64 x2))⟩):=by
     have h1:=HJ11.out;rw [← HND.out,upd_self,HMX.out] at h1;exact h1
    have HT11:Hid (TurnP (SFoot b m s x.t) (SFoot b m s x.t) W9 w11):=HTC.out.trans HR11.out
    have HRG11:Hid (w11.ranges Tryz.prog 3 anyE mf r es.length (mapV es) (fun z=>left z && !z.sameKey (.int .i64 x2)) cnt1):=by
     have h1:=HRC1.out.lt;have h2:=HRC1.out.owns.lt;refine ranges_of HRC1.out (HR11.out.far mf h2 fun e=>?_).2 (HR11.out.far r h1 fun e=>?_).2
     ·have:=HSI.out _ e;have:=HNO.out;omega
     ·have:=HSI.out _ e;have:=HR.out;have:=HW9.out.size;omega
    have HME11:Hid (w11.rangeLeft mf r<wA.rangeLeft mf r):=by show _<_;rw [HRG11.out.left_eq,← HRC1.out.left_eq];exact HME2.out
    clear HJ11 HBB HKB HKC HLKA HNF HGT HNG HSC2 HTC HRC1 HME2 HR11;go_wp2_with (fail)
    go_roundw
    case rel=>exact ⟨_,_,HRG11,HS11,HT11⟩
    case measure=>exact HME11.out
end
end
section
open Go.Shelf
end
section
open Go.RowKit pxm imm trm Go.Maps
structure CpJ (base:Nat) (Z:ZZ) (t:T) (es:LV) (i8 i13 i14 i15:Bool) (v11 v16 v17 v2:Value) (w:World):Prop where
 bsz:base<=w.heap.size
 tree:i8=true->∃ b s,v11=.pointer (some ⟨b,0,none⟩)∧TreeAt w b s t∧(∀ k,FootT b s t k->base<=k)∧(i13=true->∀ m,v16=.map (some m)->¬ FootT b s t m)
 map:i13=true->∃ m,v16=.map (some m)∧VM w m es∧base<=m
 scn:i14=true->∃ g b s m,v17=.pointer (some ⟨g,0,none⟩)∧base<=g∧BlkT w g (sccs b m Z) tScene∧TreeAt w b s t∧VM w m es∧(∀ k,SFoot b m s t k->base<=k)∧¬ FootT b s t m∧¬ SFoot b m s t g
 out:i15=true->v2=v17
 o14:i14=true->i8=true∧i13=true
 o15:i15=true->i14=true
section
variable {base:Nat} {Z:ZZ} {t:T} {es:LV} {i8 i13 i14 i15:Bool} {v11 v16 v17 v2:Value} {w w':World}
theorem CpJ.slots {u11 u16 u17 u2:Value} (h:CpJ base Z t es i8 i13 i14 i15 v11 v16 v17 v2 w) (e1:u11=v11) (e2:u16=v16) (e3:u17=v17) (e4:u2=v2):CpJ base Z t es i8 i13 i14 i15 u11 u16 u17 u2 w:=by
 rw [e1,e2,e3,e4];exact h
theorem CpJ.below (h:CpJ base Z t es i8 i13 i14 i15 v11 v16 v17 v2 w) (hb:Below w.heap.size w w'):CpJ base Z t es i8 i13 i14 i15 v11 v16 v17 v2 w' where
 bsz:=Nat.le_trans h.bsz hb.size
 tree e:=by
  obtain ⟨b,s,h1,h2,h3⟩:=h.tree e;exact ⟨b,s,h1,h2.below hb,h3⟩
 map e:=by
  obtain ⟨m,h1,h2,h3⟩:=h.map e;exact ⟨m,h1,h2.below hb,h3⟩
 scn e:=by
  obtain ⟨g,b,s,m,h1,h2,h3,h4,h5,h6⟩:=h.scn e;exact ⟨g,b,s,m,h1,h2,h3.stays (hb.block _ h3.inside),h4.below hb,h5.below hb,h6⟩
 out:=h.out
 o14:=h.o14
 o15:=h.o15
theorem CpJ.start (hb:base<=w.heap.size):CpJ base Z t es false false false false v11 v16 v17 v2 w:=
 ⟨hb,nofun,nofun,nofun,nofun,nofun,nofun⟩
theorem CpJ.grow (h:CpJ base Z t es i8 i13 i14 i15 v11 v16 v17 v2 w) (h8:i8=false) {b:Nat} {s:Sh} {u11:Value} (hb:Below w.heap.size w w') (h1:TreeAt w' b s t) (h2:∀ k,FootT b s t k->w.heap.size<=k) (e11:u11=.pointer (some ⟨b,0,none⟩)):CpJ base Z t es true i13 i14 i15 u11 v16 v17 v2 w':=
 have h14:=not_of (fun e=>(h.o14 e).1) h8;have h15:=not_of h.o15 h14;have h':=h.below hb
 ⟨h'.bsz,fun _=>⟨b,s,e11,h1,fun k hk=>Nat.le_trans h.bsz (h2 k hk),fun e m em hm=>by
  obtain ⟨m',e1,e2,-⟩:=h.map e;rw [em] at e1
  injection e1 with e1
  injection e1 with e1
  have:=h2 m hm;have:=e2.inside
  omega⟩,h'.map,(fun e=>by rw [h14] at e;cases e),(fun e=>by rw [h15] at e;cases e),(fun e=>⟨rfl,(h'.o14 e).2⟩),h'.o15⟩
theorem CpJ.make {u16:Value} (h:CpJ base Z t es i8 i13 i14 i15 v11 v16 v17 v2 w) (h13:i13=false) (hb:Below w.heap.size w w') (h1:VM w' w.heap.size es) (e16:u16=.map (some w.heap.size)):CpJ base Z t es i8 true i14 i15 v11 u16 v17 v2 w':=by
 have h14:=not_of (fun e=>(h.o14 e).2) h13;subst e16 h13 h14;have h':=h.below hb;refine ⟨h'.bsz,fun e=>?_,fun _=>⟨_,rfl,h1,h.bsz⟩,h'.scn,h'.out,nofun,h'.o15⟩;obtain ⟨b0,s0,h10,h20,h30,-⟩:=h.tree e;refine ⟨b0,s0,h10,h20.below hb,h30,fun _ m em hm=>?_⟩
 injection em with em
 injection em with em
 have:=h20.raw.inside m hm;omega
theorem CpJ.last (h:CpJ base Z t es i8 i13 i14 i15 v11 v16 v17 v2 w) (h8:i8=true) (h13:i13=true) (h14:i14=false):∃ b m,v11=.pointer (some ⟨b,0,none⟩)∧v16=.map (some m)∧∀ e w',OfQ b m Z w e w'->∃ u,e=.returned u∧Below w.heap.size w w'∧CpJ base Z t es i8 i13 true i15 v11 v16 u v2 w':=by
 have h15:=not_of h.o15 h14;subst h8 h13 h14;obtain ⟨b,s,e1,e2,e3,e4⟩:=h.tree rfl;obtain ⟨m,f1,f2,f3⟩:=h.map rfl;refine ⟨b,m,e1,f1,?_⟩;rintro e w' ⟨g,rfl,g1,g2,g3⟩;have h':=h.below g3;have hnf:=e4 rfl m f1;refine ⟨_,rfl,g3,⟨h'.bsz,h'.tree,h'.map,fun _=>⟨g,b,s,m,rfl,Nat.le_trans h.bsz g1,g2,e2.below g3,f2.below g3,fun k hk=>?_,hnf,fun hk=>?_⟩,(fun e=>by rw [h15] at e;cases e),(fun _=>⟨rfl,rfl⟩),(fun _=>rfl)⟩⟩
 ·rcases hk with e | e
  ·rw [e];exact f3
  ·exact e3 k e
 ·rcases hk with e | e
  ·have:=f2.inside;omega
  ·have:=e2.raw.inside g e;omega
theorem CpJ.tell {u2:Value} (h:CpJ base Z t es i8 i13 i14 i15 v11 v16 v17 v2 w) (h14:i14=true) (e2:u2=v17):CpJ base Z t es i8 i13 i14 true v11 v16 v17 u2 w:=⟨h.bsz,h.tree,h.map,h.scn,fun _=>e2,h.o14,fun _=>h14⟩
end
section
variable {w:World} {g b m:Nat} {s:Sh} {Z:ZZ} {x:PSc}
end
end
section
open Go.RowKit pxm imm trm Go.Maps
theorem room_len {M:Int} {x:PSc} {l:List Op9} (ok:Ok x.t) (h:Room M x l.length):(allS M x l).1.t.length<=900:=by
 obtain ⟨h1,h2⟩:=h;rcases h2 with h2 | ⟨h2,h3⟩
 ·have:=allS_len (M:=M) l ok;omega
 ·rcases allS_room (M:=M) l ok with h4 | h4
  ·omega
  ·omega
structure Sane (x:PSc):Prop where
 ok:Ok x.t
 good:Good x
 set:Settled x fun _=>False
 fit:∀ i,Fit (x.nd i)
theorem Settled.ops {M:Int} {x:PSc} {l:List Op9} (h:Sane x) (hz:(allS M x l).2.2=0):Settled (allS M x l).1 (tch l):=
 (Settled.all l h.ok h.set hz).mono fun _ hj=>hj.elim (fun e=>e.elim) id
theorem setSt_ok {x:PSc} (h:Ok x.t):Ok (setSt x).1.t:=by rw [setSt_t];exact h
theorem Sane.apply {M:Int} {x:PSc} (h:Sane x) {l:List Op9} (ho:∀ o∈l,OpOk o):Sane (applyS M setSt x l).1:=by
 unfold applyS;split
 ·exact h
 split
 ·exact h
 split
 ·exact h
 ·rename_i h1 h2 h3
  have hz:(setSt (allS M x l).1).2=0:=by simpa using h3
  refine ⟨setSt_ok (allS_ok l h.ok),fun i=>?_,setSt_settled hz,fun i=>?_⟩
  ·show ((setSt (allS M x l).1).1.nd i).chk=0;rw [setSt_nd];exact allS_good l h.good i
  ·show Fit ((setSt (allS M x l).1).1.nd i);rw [setSt_nd];exact allS_fit l ho h.fit i
theorem applied {w:World} {g b m:Nat} {s:Sh} {Z:ZZ} {x:PSc} (h:SceneAt w g b m s Z x) (hx:Sane x) (l:List OpR) (A:Option Addr) (c:Nat) (ho:OpsAt (SFoot b m s x.t) w A l) (hok:∀ q∈l,OpOk q.o) (hn:l.length<=1024->Room Z.2.2 x l.length) (hlen:l.length<=1000000) :
  Calls Tryz.prog 31 #[.pointer (some ⟨g,0,none⟩),.slice A l.length c] w (ApplyQ g b m Z s x (applyS Z.2.2 setSt x (l.map (·.o))) w):=by
 have hok':∀ o∈l.map (·.o),OpOk o:=fun o ho'=>by
  obtain ⟨q,h1,h2⟩:=List.mem_map.1 ho';rw [← h2];exact hok q h1
 refine apply_any h l A c ho hok hx.fit hn hlen setSt (fun W s1 E hl hz hs hoA=>?_) (fun e=>setSt_not e);have hr:=hn hl;exact settle_any (Z:=⟨Z.1,Z.2,E⟩) hs (room_len h.tree.ok (by rw [List.length_map];exact hr)) (allS_good _ hx.good) l A c hoA hok hl (Settled.ops hx hz)
end
section
open Go.RowKit pxm imm trm Go.Maps
section
variable {w:World} {g b m:Nat} {s:Sh} {Z:ZZ} {x:PSc} {g2 b2 m2:Nat} {s2:Sh} {Z2:ZZ} {y:PSc}
end
end
section
open Go.RowKit pxm imm trm Go.Maps
def same (x y:PSc):Prop:=(∀ q,kids x.t q=kids y.t q)∧∀ i,has x.t i=true->eqN (x.nd i) (y.nd i)=true
section
variable {w:World} {g b m:Nat} {s:Sh} {Z:ZZ} {x:PSc} {g2 b2 m2:Nat} {s2:Sh} {Z2:ZZ} {y:PSc}
end
end
section
open Go.RowKit pxm imm trm Go.Maps
theorem eqN_iff {n1 n2:Nd}:eqN n1 n2=true↔n1=n2:=by
 obtain ⟨m1,o1,h1,c1,r1,k1,W1,H1,p1,iw1,ih1,l1⟩:=n1;obtain ⟨m2,o2,h2,c2,r2,k2,W2,H2,p2,iw2,ih2,l2⟩:=n2;unfold eqN eqNd eqLk eqB;simp only [Bool.and_eq_true,decide_eq_true_eq,beq_iff_eq,Nd.mk.injEq,Lk.mk.injEq];constructor
 ·rintro ⟨a,b,c,d,e,f,g,h,i,j,k,l⟩;exact ⟨a,c,d,e,b,f,g,h,by omega,j,k,l⟩
 ·rintro ⟨a,b,c,d,e,f,g,h,i,j,k,l⟩;exact ⟨a,e,b,c,d,f,g,h,by omega,j,k,l⟩
theorem eqN_self (n:Nd):eqN n n=true:=eqN_iff.2 rfl
def Lk.o:Lk:=⟨0,0,0,0,0,0,[]⟩
def Op9.o:Op9:=⟨0,0,0,0,Mp.o,Bx.o,false,0,Lk.o⟩
def PSc.new:PSc:=⟨[],fun _=>Nd.plain,fun _=>Mp.one⟩
theorem fit_lko:Fit { Nd.plain with lk:=Lk.o }:=⟨by decide,(by intro z hz;cases hz),by decide⟩
theorem PSc.new_sane:Sane PSc.new:=⟨ok_nil,fun _=>plain_chk,fun i hi _ _=>by
 have:i=0:=by
  rcases has_iff.1 hi with e | e
  ·exact e
  ·cases e
 subst this;rw [worldOf_0]
 rfl,fun _=>fit_plain⟩
def awT:T:=[(1,0)]
theorem aw_ids:1∈ids awT:=by decide
theorem aw_okT:Ok awT:=(addS_ok ok_nil 1 0 0).1
theorem aw_has {i:Int} (h:has awT i=true):i=0∨i=1:=by
 rcases has_iff.1 h with e | e
 ·exact .inl e
 ·right
  simpa [awT,ids] using e
end
section
open Go.RowKit pxm imm trm Go.Maps
structure MyS (w0:World) (g b m:Nat) (s:Sh) (Z:ZZ) (x:PSc) (w:World):Prop where
 at_:SceneAt w g b m s Z x
 ft:∀ k,SFoot b m s x.t k->w0.heap.size<=k
 bel:Below w0.heap.size w0 w
section
variable {w0 w w':World} {g b m:Nat} {s s':Sh} {Z:ZZ} {x x':PSc}
theorem MyS.below (h:MyS w0 g b m s Z x w) (hb:Below w.heap.size w w'):MyS w0 g b m s Z x w':=⟨h.at_.below hb,h.ft,h.bel.trans (hb.mono h.bel.size)⟩
theorem MyS.turn (h:MyS w0 g b m s Z x w) (hs:SceneAt w' g b m s' Z x') (ht:TurnP (SFoot b m s x.t) (SFoot b m s' x'.t) w w'):MyS w0 g b m s' Z x' w':=
 ⟨hs,fun k hk=>by
  by_cases hlt:k<w0.heap.size
  ·exact absurd hk (ht.far k (Nat.lt_of_lt_of_le hlt h.bel.size) fun e=>by have:=h.ft k e;omega).1
  ·omega,h.bel.trans (ht.to_below h.bel.size h.ft)⟩
end
abbrev tOps:TypeId:=38
def oN (o:Op9):OpR:=⟨o,none,0⟩
theorem opsAt_new {w:World} {S:Bset} (hS:∀ k,S k->k<w.heap.size) (l:List OpR) (hl:∀ q∈l,q.o.lk.l=[]):OpsAt S (w.alloc (.cells (l.flatMap OpR.cs).toArray 99)) (some ⟨w.heap.size,0,none⟩) l:=
 ⟨srow_new (enc:=OpR.cs) OpR.cs_len w l _ rfl,fun a e _ hk=>by
  obtain rfl:=Option.some.inj e;have:=hS _ hk
  simp at this,fun q hq=>⟨by rw [hl q hq];intro hn;exact absurd hn (by simp),fun _ _ hne=>absurd (hl q hq) hne⟩⟩
end
section
open Go.RowKit pxm imm trm Go.Maps
abbrev tDoc:TypeId:=34
abbrev tDNs:TypeId:=32
structure PxR (w:World) (A:Option Addr) (l:List Nat):Prop where
 row:Row eW w A l
 typ:∀ a,A=some a->l≠[]->∃ cs fz,w.heap[a.block]?=some (.cells cs 49 fz)
theorem PxR.stays {w w':World} {A:Option Addr} {l:List Nat} (h:PxR w A l) (hb:∀ a,A=some a->l≠[]->w'.heap[a.block]?=w.heap[a.block]?):PxR w' A l:=⟨Row.stays h.row hb,fun a ea hne=>by rw [hb a ea hne];exact h.typ a ea hne⟩
theorem PxR.below {w w':World} {A:Option Addr} {l:List Nat} (h:PxR w A l) (hb:Below w.heap.size w w'):PxR w' A l:=h.stays fun _ ea hne=>hb.block _ (Row.lt h.row ea hne)
theorem PxR.none_ {w:World} {A:Option Addr} {l:List Nat} (h:l.length=0):PxR w A l:=⟨Row.none_ h,fun _ _ hne=>absurd (List.eq_nil_of_length_eq_zero h) hne⟩
def DPl (w:World) (v:Value) (n:Nd):Prop:=∃ A c,v=n.v A c∧PxR w A n.lk.l
theorem DPl.below {w w':World} {v:Value} {n:Nd} (h:DPl w v n) (hb:Below w.heap.size w w'):DPl w' v n:=by
 obtain ⟨A,c,e,hr⟩:=h;exact ⟨A,c,e,hr.below hb⟩
structure DMap (w:World) (m:Nat) (H:Int->Bool) (nd:Int->Nd):Prop where
 ex:∃ es,VM w m es∧(∀ i,omap.look es i≠none->H i=true)∧∀ i,H i=true->∃ v,omap.look es i=some v∧DPl w v (nd i)
theorem DMap.below {w w':World} {m:Nat} {H:Int->Bool} {nd:Int->Nd} (h:DMap w m H nd) (hb:Below w.heap.size w w'):DMap w' m H nd:=by
 obtain ⟨es,h1,h2,h3⟩:=h.ex
 exact ⟨es,h1.below hb,h2,fun i hi=>by
  obtain ⟨v,e,hv⟩:=h3 i hi
  exact ⟨v,e,hv.below hb⟩⟩
theorem DMap.inside {w:World} {m:Nat} {H:Int->Bool} {nd:Int->Nd} (h:DMap w m H nd):m<w.heap.size:=h.ex.elim fun _ h=>h.1.inside
def DocAt (w:World) (v:Value) (a b M:Int) (x:PSc):Prop:=∃ tv m,v=.agg #[.int .i64 a,.int .i64 b,.int .i64 M,tv,.map (some m)]∧DTree w tv x.t∧DMap w m (has x.t) x.nd
theorem DocAt.below {w w':World} {v:Value} {a b M:Int} {x:PSc} (h:DocAt w v a b M x) (hb:Below w.heap.size w w'):DocAt w' v a b M x:=by
 obtain ⟨tv,m,e,h1,h2⟩:=h;exact ⟨tv,m,e,h1.below hb,h2.below hb⟩
end
section
open Go.RowKit pxm imm trm Go.Maps
def refN (o:Op9):Nd:=⟨o.m,o.N,o.on,o.on,o.r,o.lk⟩
def Op9.dcs (o:Op9) (A:Option Addr) (c:Nat):List Value:=.int .i64 o.k::.int .i64 o.i::.int .i64 o.p::.int .i64 o.n::(refN o).cs A c
theorem Op9.done (o:Op9) (A:Option Addr) (c:Nat):(o.dcs A c).all (·.oneCell')=true:=rfl
end
section
open Go.RowKit pxm imm trm Go.Maps
theorem zero_dn (w:World):(zeroValue 54).run Tryz.prog w=.ok (.agg (Nd.zero.cs none 0).toArray) w:=by kernel_rfl
theorem DPl.zero (w:World):DPl w (.agg (Nd.zero.cs none 0).toArray) Nd.zero:=⟨none,0,rfl,PxR.none_ rfl⟩
def First (l:List Int) (k:Nat) (val:Int->Value) (es:LV):Prop:=es.length<=k∧∀ i,omap.look es i=if i∈l.take k then some (val i) else none
theorem First.start (l:List Int) (val:Int->Value):First l 0 val []:=⟨nR,fun i=>by rw [List.take_zero,if_neg (by simp)];rfl⟩
theorem First.step {l:List Int} {k:Nat} {val:Int->Value} {es:LV} (h:First l k val es) (hk:k<l.length):First l (k+1) val (omap.put lt l[k] (val l[k]) es):=by
 refine ⟨Nat.le_trans (vput_len _ _ _) (Nat.succ_le_succ h.1),fun i=>?_⟩;rw [omap.look_put,h.2 i,List.take_succ_eq_append_getElem hk];by_cases e:i=l[k]
 ·rw [if_pos e,if_pos (by rw [e];exact List.mem_append_right _ (List.mem_singleton.2 rfl)),e]
 ·rw [if_neg e];by_cases h2:i∈l.take k
  ·rw [if_pos h2,if_pos (List.mem_append_left _ h2)]
  ·rw [if_neg h2,if_neg (by simp only [List.mem_append,List.mem_singleton];exact fun h=>h.elim h2 e)]
end
section
open Go.RowKit pxm imm trm Go.Maps
theorem OpR.cs_plain (q:OpR):∀ u∈q.cs,u.oneCell'=true:=fun u hu=>List.all_eq_true.1 (Op9.one _ _ _) u hu
end
section
open Go.RowKit pxm imm trm Go.Maps
structure OpL where
 A:Option Addr
 c:Nat
 l:List OpR
def OpL.cs (q:OpL):List Value:=[.slice q.A q.l.length q.c]
theorem OpL.cs_len (q:OpL):q.cs.length=1:=rfl
theorem OpL.cs_plain (q:OpL):∀ u∈q.cs,u.oneCell'=true:=by
 intro u hu;rw [List.mem_singleton.1 hu];rfl
structure OpRaw (o:Op9):Prop where
 i:I64 o.i
 p:I64 o.p
 c:o.lk.p<4294967296
 l:∀ z∈o.lk.l,z<4294967296
 len:o.lk.l.length<=maxLen
theorem OpRaw.ok {o:Op9} (h:OpRaw o) (hl:o.lk.l.length<=300):OpOk o:=⟨h.i,h.p,h.c,h.l,hl⟩
structure OpsR (w:World) (A:Option Addr) (l:List OpR):Prop where
 row:SRow 23 OpR.cs w A l
 px:∀ q∈l,Row eW w q.A q.o.lk.l∧OpRaw q.o
theorem OpsR.below {w w':World} {A:Option Addr} {l:List OpR} (h:OpsR w A l) (hb:Below w.heap.size w w'):OpsR w' A l:=⟨SRow.below h.row hb,fun q hq=>⟨Row.below (h.px q hq).1 hb,(h.px q hq).2⟩⟩
theorem OpsR.at_ {w w':World} {A:Option Addr} {l:List OpR} {S:Bset} (h:OpsR w A l) (hb:Below w.heap.size w w') (hS:∀ k,S k->w.heap.size<=k):OpsAt S w' A l:=
 ⟨SRow.below h.row hb,fun a e hne hk=>by
  have h1:=h.row.blt (fun _=>⟨_,_,rfl⟩) e hne;have h2:=hS _ hk
  omega,fun q hq=>⟨Row.below (h.px q hq).1 hb,fun a e hne hk=>by
  have h1:=Row.lt (h.px q hq).1 e hne;have h2:=hS _ hk
  omega⟩⟩
structure TrAt (w:World) (A:Option Addr) (L:List OpL):Prop where
 row:SRow 1 OpL.cs w A L
 ops:∀ q∈L,OpsR w q.A q.l
 few:∀ q∈L,q.l.length<=1099511627776
 most:L.length<=9223372036854775807
theorem TrAt.below {w w':World} {A:Option Addr} {L:List OpL} (h:TrAt w A L) (hb:Below w.heap.size w w'):TrAt w' A L:=⟨SRow.below h.row hb,fun q hq=>(h.ops q hq).below hb,h.few,h.most⟩
end
section
open Go.RowKit pxm imm trm Go.Maps
def likeW (x y:PSc):Prop:=x.t=y.t∧x.nd=y.nd
theorem likeW.refl (x:PSc):likeW x x:=⟨rfl,rfl⟩
end
section
open Go.RowKit pxm imm trm Go.Maps
theorem DMap.alike {w:World} {m:Nat} {H H':Int->Bool} {nd nd':Int->Nd} (h:DMap w m H nd) (hH:∀ i,H' i=H i) (hn:∀ i,H i=true->nd' i=nd i):DMap w m H' nd':=by
 obtain ⟨es,h1,h2,h3⟩:=h.ex
 exact ⟨es,h1,fun i hi=>(hH i).trans (h2 i hi),fun i hi=>by
  rw [hH i] at hi;rw [hn i hi]
  exact h3 i hi⟩
theorem VM.no_cell {w:World} {m:Nat} {es:LV} (h:VM w m es) (j:Nat):w.cell? ⟨m,j,none⟩=none:=by
 obtain ⟨es',clock,h1,_⟩:=h.own;unfold World.cell?;rw [h1]
theorem DPl.grown {w w':World} {m:Nat} {es:LV} {v:Value} {n:Nd} (h:DPl w v n) (hm:VM w m es) (hg:w.grownBy w' (some m)):DPl w' v n:=by
 obtain ⟨A,c,e,hr⟩:=h;refine ⟨A,c,e,hr.stays fun a ea hne=>hg.block _ (Row.lt hr.row ea hne) fun e2=>?_⟩;obtain ⟨b,off,e3,hc⟩:=hr.row (List.length_pos_iff.2 hne);rw [ea] at e3;obtain rfl:=Option.some.inj e3;have h1:=hc 0 (List.length_pos_iff.2 hne);obtain rfl:b=m:=by simpa using e2
 rw [hm.no_cell] at h1;cases h1
theorem DMap.store {w:World} {m:Nat} {H:Int->Bool} {nd:Int->Nd} (h:DMap w m H nd) {t:T} (hH:∀ i,H i=has t i) (hn:t.length<=100000) {i:Int} (hi:I64 i) (hh:H i=true) {v:Value} {n:Nd} (hv:DPl w v n) :
  ∃ w',(Instr.mapUpdate tDNs (.map (some m)) (.int .i64 i) v).run Tryz.prog w=.ok () w'∧DMap w' m H (upd nd i n)∧w.grownBy w' (some m):=by
 obtain ⟨es,h1,h2,h3⟩:=h.ex;have hl:=es_le (t:=t) h1.rises fun j hj=>(hH j).symm.trans (h2 j hj);obtain ⟨w',hrun,hm,hg⟩:=h1.store (t:=tDNs) (E:=54) Tryz.underlying32 hi v (by have:=vput_len i v es;omega);refine ⟨w',hrun,⟨_,hm,fun j hj=>?_,fun j hj=>?_⟩,hg⟩
 ·rw [omap.look_put] at hj;by_cases e:j=i
  ·rw [e];exact hh
  ·rw [if_neg e] at hj;exact h2 j hj
 ·rw [omap.look_put];by_cases e:j=i
  ·rw [if_pos e,e,upd_same];exact ⟨v,rfl,hv.grown h1 hg⟩
  ·rw [if_neg e,upd_ne _ e];obtain ⟨u,e2,hu⟩:=h3 j hj;exact ⟨u,e2,hu.grown h1 hg⟩
theorem DMap.look {w:World} {m:Nat} {H:Int->Bool} {nd:Int->Nd} (h:DMap w m H nd) {i:Int} (hi:I64 i) (hh:H i=true) :
  ∃ A c,PxR w A (nd i).lk.l∧∀ W,Below w.heap.size w W->(Instr.lookup tDNs (.map (some m)) (.int .i64 i) false).run Tryz.prog W=.ok (.agg ((nd i).cs A c).toArray) W:=by
 obtain ⟨es,h1,h2,h3⟩:=h.ex;obtain ⟨v,e,A,c,rfl,hr⟩:=h3 i hh;refine ⟨A,c,hr,fun W hb=>?_⟩;rw [(h1.below hb).lookup (t:=tDNs) (E:=54) Tryz.underlying32 (zero_dn W) hi,e];rfl
theorem DocAt.like {w:World} {v:Value} {wi hei M:Int} {x y:PSc} (h:DocAt w v wi hei M x) (h1:y.t=x.t) (h2:y.nd=x.nd):DocAt w v wi hei M y:=by
 obtain ⟨t,nd,ws⟩:=x;obtain ⟨t',nd',ws'⟩:=y;obtain rfl:t'=t:=h1;obtain rfl:nd'=nd:=h2;exact h
end
section
open Go.RowKit pxm imm trm Go.Maps
theorem VM.not_b {w:World} {m g:Nat} {es:LV} {cs:List Value} (h:VM w m es) (hb:Blk w g cs):g≠m:=fun e=>by
 obtain ⟨es',clock,h1,_⟩:=h.own;obtain ⟨T,hT⟩:=hb;rw [e] at hT;have:=hT.symm.trans h1;cases this
theorem DMap.not_b {w:World} {m g:Nat} {H:Int->Bool} {nd:Int->Nd} {cs:List Value} (h:DMap w m H nd) (hb:Blk w g cs):g≠m:=by
 obtain ⟨es,h1,-⟩:=h.ex;exact h1.not_b hb
def noPx (cs:List Value):Prop:=∀ c∈cs,∀ z,c≠.int .u32 z
theorem DPl.wrote {w w':World} {g:Nat} {cs:List Value} {v:Value} {n:Nd} (h:DPl w v n) (hb:Blk w g cs) (hc:noPx cs) (hW:Wrote g w w'):DPl w' v n:=by
 obtain ⟨A,c,e,hr⟩:=h;refine ⟨A,c,e,hr.stays fun a ea hne=>hW.far fun e2=>?_⟩;obtain ⟨b,off,e3,hcl⟩:=hr.row (List.length_pos_iff.2 hne);rw [ea] at e3;obtain rfl:=Option.some.inj e3;have h1:=hcl 0 (List.length_pos_iff.2 hne);obtain rfl:b=g:=e2;have h2:=hb.cell (off+0);rw [h1] at h2;exact hc _ (List.mem_of_getElem? h2.symm) _ rfl
theorem DMap.wrote {w w':World} {m g:Nat} {H:Int->Bool} {nd:Int->Nd} {cs:List Value} (h:DMap w m H nd) (hb:Blk w g cs) (hc:noPx cs) (hW:Wrote g w w'):DMap w' m H nd:=by
 have hne:=h.not_b hb;obtain ⟨es,h1,h2,h3⟩:=h.ex;refine ⟨es,h1.stays (hW.far (Ne.symm hne)),h2,fun i hi=>?_⟩;obtain ⟨v,e,hv⟩:=h3 i hi;exact ⟨v,e,hv.wrote hb hc hW⟩
theorem DTree.wrote {w w':World} {g:Nat} {v:Value} {t:T} {cs:List Value} {T:TypeId} (h:DTree w v t) (hb:BlkT w g cs T) (hT:T≠132) (hW:Wrote g w w'):DTree w' v t:=
 h.stays fun _ _ _ _ hy ea=>hW.far (hy.not_blk ea hb hT)
theorem DTree.grown {w w':World} {m:Nat} {v:Value} {t:T} {H:Int->Bool} {nd:Int->Nd} (h:DTree w v t) (hm:DMap w m H nd) (hg:w.grownBy w' (some m)):DTree w' v t:=
 h.stays fun _ _ a _ hy ea=>hg.block _ (by obtain ⟨cs,fz,h1⟩:=hy a ea;exact lt_of_block h1) fun e=>by
  obtain ⟨cs,fz,h1⟩:=hy a ea;obtain ⟨es,⟨_,⟨es',clock,h2,_⟩,_⟩,_⟩:=hm.ex;have e3:a.block=m:=by simpa using e
  rw [e3] at h1;have:=h1.symm.trans h2;cases this
theorem DocAt.wrote {w w':World} {v:Value} {wi hei M:Int} {x:PSc} {g:Nat} {cs:List Value} {T:TypeId} (h:DocAt w v wi hei M x) (hb:BlkT w g cs T) (hT:T≠132) (hc:noPx cs) (hW:Wrote g w w'):DocAt w' v wi hei M x:=by
 obtain ⟨tv,m,e,h1,h2⟩:=h;exact ⟨tv,m,e,h1.wrote hb hT hW,h2.wrote hb.blk hc hW⟩
theorem blkT_at (w:World) (g:Nat) (hg:g=w.heap.size) (cs:List Value) (T:TypeId):BlkT (w.alloc (.cells cs.toArray T)) g cs T:=hg ▸ BlkT.new w cs T
structure MJ (B:Nat) (old:List (Nat×List Value)) (m:Nat) (H:Int->Bool) (nd nd':Int->Nd) (tv:Value) (t:T) (gr:Nat) (d:Bool) (w:World):Prop where
 old:JBs old w
 bsz:B<=w.heap.size
 no:d=false->DMap w m H nd
 yes:d=true->DMap w m H nd'
 tr:DTree w tv t
 rt:BlkT w gr [.int .i64 0,.int .i64 0,.int .i64 0,.slice none 0 0,.map none] tDoc
theorem MJ.below {B:Nat} {old:List (Nat×List Value)} {m:Nat} {H:Int->Bool} {nd nd':Int->Nd} {tv:Value} {t:T} {gr:Nat} {d:Bool} {w w':World} (h:MJ B old m H nd nd' tv t gr d w) (hb:Below w.heap.size w w'):MJ B old m H nd nd' tv t gr d w':=
 ⟨h.old.below hb,Nat.le_trans h.bsz hb.size,fun e=>(h.no e).below hb,fun e=>(h.yes e).below hb,h.tr.below hb,h.rt.stays (hb.block _ h.rt.inside)⟩
theorem JBs.grown {w w':World} {m:Nat} {H:Int->Bool} {nd:Int->Nd} (hm:DMap w m H nd) (hg:w.grownBy w' (some m)):∀ {old:List (Nat×List Value)},JBs old w->JBs old w'
 | [],_=>trivial
 | _::_,h=>⟨h.1.stays (hg.block _ h.1.inside fun e=>hm.not_b h.1 (Option.some.inj e)),JBs.grown hm hg h.2⟩
theorem MJ.store {B:Nat} {old:List (Nat×List Value)} {m:Nat} {H:Int->Bool} {nd:Int->Nd} {tv:Value} {u t:T} {gr:Nat} {w:World} {i:Int} {n:Nd} {v:Value} (h:MJ B old m H nd (upd nd i n) tv u gr false w) (hH:∀ i,H i=has t i) (hn:t.length<=100000) (hi:I64 i) (hh:H i=true) (hv:DPl w v n) (hm:B<=m) :
  ∃ w',(Instr.mapUpdate tDNs (.map (some m)) (.int .i64 i) v).run Tryz.prog w=.ok () w'∧MJ B old m H nd (upd nd i n) tv u gr true w'∧Below B w w':=by
 have h0:=h.no rfl;obtain ⟨w',hrun,hd,hg⟩:=h0.store hH hn hi hh hv;refine ⟨w',hrun,⟨JBs.grown h0 hg h.old,Nat.le_trans h.bsz hg.size,nofun,fun _=>hd,h.tr.grown h0 hg,h.rt.stays (hg.block _ h.rt.inside fun e=>h0.not_b h.rt.blk (Option.some.inj e))⟩,bR.grown hg h.bsz fun j e=>by cases e;exact hm⟩
end
end Go.Proofs.YthoildbfghfhpaaGreat
