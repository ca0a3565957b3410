import Derived.Test.YthmegninhpihkaaGreatVScg
import Derived.Shelf.SlMaps.Clone
set_option maxHeartbeats 16000000
set_option maxRecDepth 100000
open Go.Proofs.Tryz
namespace Go.Proofs.YthmegninhpihkaaGreat
section
open Go.RowKit fG gm aF Go.Maps xk Go.Shelf
attribute [local go_sem] Oper.semAt_some
theorem a2k{l:LV}{x:Int}{c:Value}{kl:Lit}{y:DataW Value×List MemPlace}(hk:keyOf prog 3 (.int .i64 x)=some kl)(hv:vY c=some y)(hat:∀zd,(lL l).atKey kl zd=y.1):kl=.int .i64 x∧I64 x∧omap.look l x=some c:=by
 obtain⟨x',ex,rfl,hwf⟩:=Maps.keyOf_int_inv underlying3 hk
 injection ex with _ ex
 subst ex;simp only[Lit.wf]at hwf;rw[Bool.and_eq_true,decide_eq_true_eq,decide_eq_true_eq]at hwf;refine⟨rfl,hwf,?_⟩;unfold vY at hv;simp only[Option.some.injEq]at hv;have h1:=hat .nil;rw[rY,←hv]at h1;cases hl:omap.look l x with
 |none=>rw[hl]at h1;cases h1
 |some g=>rw[hl]at h1;simp only[DataW.held.injEq]at h1;rw[h1]
def nH(ws:Int->Mp)(fr:Int->Option Mp)(left:Lit->Bool):Int->Mp:=fun i=>if left (.int .i64 i)=true then ws i else (fr i).getD (ws i)
theorem OT(ws:Int->Mp)(fr:Int->Option Mp)(left:Lit->Bool){i:Int}{u:Mp}(h:fr i=some u):upd (nH ws fr left) i u=nH ws fr (fun z=>left z && !z.sameKey (.int .i64 i)):=by
 funext j
 unfold upd nH;by_cases e:j=i
 ·subst e;rw[if_pos rfl,if_neg (by simp[Lit.sameKey]),h];rfl
 ·rw[if_neg e];have:(Lit.int .i64 j).sameKey (.int .i64 i)=false:=by simp[Lit.sameKey,e]
  simp only[this,Bool.not_false,Bool.and_true]
theorem JA(w:World):(Instr.makeMap iP none).run prog w=.ok (.map (some w.heap.size)) (w.alloc (.map #[] 0)):=rfl
theorem ae.up{S S2:bF}{w w':World}(h:ae S S w w')(hs:∀k,S k->S2 k):ae S2 S2 w w':=⟨h.os,h.tape,h.output,h.size,fun k hk hn=>⟨hn,(h.far k hk fun e=>hn (hs k e)).2⟩⟩
theorem Df{rs:List jk}{j:Nat}(hj:j<rs.length){q:jk}(hq:rs[rs.length - 1 - j]?=some q):((rs.map (·.l)).reverse.take (j+1)).flatten=((rs.map (·.l)).reverse.take j).flatten++q.l:=by
 rw[List.take_add_one,List.flatten_append]
 congr 1
 have:(rs.map (·.l)).reverse[j]?=some q.l:=by
  rw[List.getElem?_reverse (by simpa using hj),List.length_map,List.getElem?_map,hq];rfl
 rw[this];simp
theorem Pq{rs:List jk}{j:Nat}(hj:j<rs.length){q:jk}(hq:rs[rs.length - 1 - j]?=some q){k:Nat}(hk:k<q.l.length):∃post,(rs.map (·.l)).reverse.flatten=(((rs.map (·.l)).reverse.take j).flatten++q.l.take k)++q.l[k]::post:=by
 have h1:=Df hj hq;refine⟨q.l.drop (k+1)++((rs.map (·.l)).reverse.drop (j+1)).flatten,?_⟩;have h2:(rs.map (·.l)).reverse.flatten=((rs.map (·.l)).reverse.take (j+1)).flatten++((rs.map (·.l)).reverse.drop (j+1)).flatten:=by rw[←List.flatten_append,List.take_append_drop]
 rw[h2,h1,List.append_assoc,List.append_assoc]
 congr 1
 have h3:q.l=q.l.take k++q.l[k]::q.l.drop (k+1):=by
  rw[←List.drop_eq_getElem_cons hk,List.take_append_drop]
 rw[←List.cons_append,←List.append_assoc,←h3]
theorem au.al{w:World}{k:Nat}{cs:List Value}{T:TypeId}(h:au w k cs T)(o:Obj):au (w.alloc o) k cs T:=au.stays h (Below.heap_alloc w o k (au.inside h))
theorem nG{fn:Func}{p:Tmp}(h:fn.results=#[.cell p 81])(tmps:Array Value)(w:World){g:Nat}{v:Int}(hp:tmps.getD p undef=.pointer (some ⟨g,0,none⟩))(hc:w.cell? ⟨g,0,none⟩=some (.int .i64 v)) :
  (results fn tmps).run prog w=.ok (.int .i64 v) w:=by
 have hp':tmps[p]?.getD undef=.pointer (some ⟨g,0,none⟩):=by simpa using hp
 simp[results,h,hp',asAddr,go_sem,hc]
theorem VM.kind{w:World}{k:Nat}{l:LV}(h:VM w k l):∃o,w.heap[k]?=some o∧uf o=false:=by
 obtain⟨es',clock,h4,_⟩:=h.own;exact⟨_,h4,rfl⟩
theorem Bc.bk{B:Nat}{w w':World}{mf:Nat}{fr:Int->Option Mp}(h:Bc w mf fr)(hb:Bk B w w'):Bc w' mf fr:=by
 obtain⟨es,h1,-⟩:=id h;obtain⟨o,ho,hn⟩:=h1.kind;exact h.stays ((hb.keep ho hn).trans ho.symm)
theorem Bc.put{w:World}{mf:Nat}{fr:Int->Option Mp}(h:Bc w mf fr){t:T}(hs:∀j,fr j≠none->has t j=true)(hn:t.length<=100000){i:Int}(hi:I64 i)(u:Mp) :
  ∃w',(Instr.mapUpdate iP (.map (some mf)) (.int .i64 i) (.agg u.cs.toArray)).run prog w=.ok () w'∧Bc w' mf (upd fr i (some u))∧w.grownBy w' (some mf):=by
 obtain⟨es,h1,h2⟩:=h;have hle:=Hf (t:=t) h1.rises fun j hj=>hs j fun e=>by rw[h2,e]at hj;exact hj rfl
 obtain⟨w',hrun,hm,hg⟩:=h1.store uV hi (.agg u.cs.toArray) (by have:=iF i (.agg u.cs.toArray) es;omega);refine⟨w',hrun,⟨_,hm,fun j=>?_⟩,hg⟩;rw[omap.dw];unfold upd;by_cases e:j=i
 ·rw[if_pos e,if_pos e];rfl
 ·rw[if_neg e,if_neg e,h2]
theorem Bc.kb{w w':World}{mf:Nat}{fr:Int->Option Mp}(h:Bc w mf fr)(hg:w.grownBy w' (some mf)):KB w w':=KB.yY hg fun j o e ho=>by
 obtain rfl:=Option.some.inj e;obtain⟨es,h1,-⟩:=h;obtain⟨o',h4,h5⟩:=h1.kind;rw[ho]at h4;cases h4;exact h5
theorem ae.Xo{S S':bF}{w w1 w2:World}{row:Option Nat}(h:ae S S' w w1)(hg:w1.grownBy w2 row)(hr:∀k,row=some k->w.heap.size<=k):ae S S' w w2:=
 ⟨hg.os.trans h.os,hg.tape.trans h.tape,hg.output.trans h.output,Nat.le_trans h.size hg.size,fun k hk hn=>⟨(h.far k hk hn).1,(hg.block k (Nat.lt_of_lt_of_le hk h.size) fun e=>by have:=hr k e.symm;omega).trans (h.far k hk hn).2⟩⟩
theorem ae.ZI{S S':bF}{w w1:World}{a:Addr}(h:ae S S' w w1)(hn:w.heap.size<=a.block)(u:Value):ae S S' w (w1.setCell a u):=
 ⟨h.os,h.tape,h.output,by simpa[World.setCell]using h.size,fun k hk hk2=>⟨(h.far k hk hk2).1,(Below.heap_setCell w1 a u k (by omega)).trans (h.far k hk hk2).2⟩⟩
structure StJ(g b m:Nat)(s:Sh)(Z:ZZ)(x x':aJ)(i d:Bool)(w:World):Prop where
 no:d=false->ak w g b m s Z x
 yes:d=true->ak w g b m s Z x'
 o:d=true->i=true
theorem StJ.lo{g b m:Nat}{s:Sh}{Z:ZZ}{x x':aJ}{i d:Bool}{w:World}(h:StJ g b m s Z x x' i d w)(hi:i=false):ak w g b m s Z x:=h.no (by
 cases hd:d with
 |false=>rfl
 |true=>have:=h.o hd;rw[hi]at this;cases this)
theorem StJ.fi{g b m:Nat}{s:Sh}{Z:ZZ}{x x':aJ}{i d:Bool}{w:World}(h:StJ g b m s Z x x' i d w):StJ g b m s Z x x' true d w:=⟨h.no,h.yes,fun _=>rfl⟩
theorem Oz{H:Type}{P:Program}{k:TypeId}{R:Value->Option (DataW H×List MemPlace)}{w w':World}{b r n:Nat}{D:DataW H}{left:Lit->Bool}{cnt:Nat}(h:w.ranges P k R b r n D left cnt)(h1:w'.heap[b]?=w.heap[b]?)(h2:w'.heap[r]?=w.heap[r]?):w'.ranges P k R b r n D left cnt:=by
 obtain⟨es,clock,since,seen,c0,hb,F,hs,hD,hr,rest⟩:=h;exact⟨es,clock,since,seen,c0,h1.trans hb,F,hs,hD,h2.trans hr,rest⟩
def One(k:Nat):bF:=fun q=>q=k
def rZ(k j:Nat):bF:=fun q=>q=k∨q=j
def a2r(x:aJ)(rs:List jk)(mf:Nat)(w3:World)(k:Nat)(W:World):Prop:=∃fr,ae (One mf) (One mf) w3 W∧Bc W mf fr∧NV x (((rs.map (fun q:jk=>q.l)).reverse.take k).flatten) fr
def a2q(x:aJ)(mf rc:Nat)(w3:World)(co:Code)(W:World):Prop:=co=.ret∧ae (rZ mf rc) (rZ mf rc) w3 W∧au W rc [.int .i64 35] 81∧∃i,has x.t i=true∧aN x.t x.nd i=none
section
variable {w:World}{g b m:Nat}{s:Sh}{Z:ZZ}{x:aJ}
theorem Jh(h:ak w g b m s Z x)(hn:x.t.length<=900)(hg:Good x)(l:List iK)(A:Option Addr)(c:Nat)(ho:pY (af b m s x.t) w A l)(hok:∀q∈l,kK q.o)(hl:l.length<=1024)(hst:dC x (Bj (l.map (·.o)))) :
  Calls prog 48 #[.pointer (some ⟨g,0,none⟩),.slice A l.length c] w (a0I g b m Z s x (setSt x) w):=by
 have HS:=Hd h;have HN:=Hd hn;have HG:=Hd hg;have HO:=Hd ho;have dY:=Hd hok;have HL:=Hd hl;have HST:=Hd hst;have hmf:=fun w=>JA w;clear h hn hg ho hok hl hst;refine bQ func48 rfl ?_;simp only[ntmps48,List.size_toArray,List.length_cons,List.length_nil,Nat.reduceAdd,Nat.reduceSub,Array.replicate_succ,Array.replicate_zero,List.push_toArray,List.append_toArray,List.nil_append,List.cons_append]
 go_upto_region 2 with(fail)
 clear hmf;have hb0:bz w ((((w.alloc (.cells #[.pointer (some ⟨g,0,none⟩)] 25)).alloc (.cells #[.int .i64 0] 81)).alloc (.map #[] 0)).alloc (.cells #[.map (some (w.heap.size+1+1))] iP)):=(((bR.alloc nR _).alloc (by simp) _).alloc (by simp;omega) _).alloc (by simp;omega) _;have HB0:=Hd hb0;have iL:Hid (((((w.alloc (.cells #[.pointer (some ⟨g,0,none⟩)] 25)).alloc (.cells #[.int .i64 0] 81)).alloc (.map #[] 0)).alloc (.cells #[.map (some (w.heap.size+1+1))] iP)).heap.size=w.heap.size+4):=by show _=_;simp
 have HKB:Hid (au ((((w.alloc (.cells #[.pointer (some ⟨g,0,none⟩)] 25)).alloc (.cells #[.int .i64 0] 81)).alloc (.map #[] 0)).alloc (.cells #[.map (some (w.heap.size+1+1))] iP)) w.heap.size [.pointer (some ⟨g,0,none⟩)] 25):=au.al (au.al (au.al (au.new w [.pointer (some ⟨g,0,none⟩)] _) _) _) _
 have Dx:Hid (au ((((w.alloc (.cells #[.pointer (some ⟨g,0,none⟩)] 25)).alloc (.cells #[.int .i64 0] 81)).alloc (.map #[] 0)).alloc (.cells #[.map (some (w.heap.size+1+1))] iP)) (w.heap.size+1) [.int .i64 0] 81):=by
  have:=(au.new (w.alloc (.cells #[.pointer (some ⟨g,0,none⟩)] 25)) [.int .i64 0] 81)
  rw[World.size_alloc]at this;exact au.al (au.al this _) _
 have HMF:Hid (Bc ((((w.alloc (.cells #[.pointer (some ⟨g,0,none⟩)] 25)).alloc (.cells #[.int .i64 0] 81)).alloc (.map #[] 0)).alloc (.cells #[.map (some (w.heap.size+1+1))] iP)) (w.heap.size+1+1) (fun _=>none)):=by
  have:=VM.made ((w.alloc (.cells #[.pointer (some ⟨g,0,none⟩)] 25)).alloc (.cells #[.int .i64 0] 81));rw[World.size_alloc,World.size_alloc]at this;exact⟨[],this.below (bR.alloc nR _),fun j=>by simp[omap.look_nil]⟩
 have HKF:Hid (au ((((w.alloc (.cells #[.pointer (some ⟨g,0,none⟩)] 25)).alloc (.cells #[.int .i64 0] 81)).alloc (.map #[] 0)).alloc (.cells #[.map (some (w.heap.size+1+1))] iP)) (w.heap.size+1+1+1) [.map (some (w.heap.size+1+1))] iP):=by
  have:=(au.new (((w.alloc (.cells #[.pointer (some ⟨g,0,none⟩)] 25)).alloc (.cells #[.int .i64 0] 81)).alloc (.map #[] 0)) [.map (some (w.heap.size+1+1))] iP)
  rw[World.size_alloc,World.size_alloc,World.size_alloc]at this;exact this
 clear hb0;generalize ((((w.alloc (.cells #[.pointer (some ⟨g,0,none⟩)] 25)).alloc (.cells #[.int .i64 0] 81)).alloc (.map #[] 0)).alloc (.cells #[.map (some (w.heap.size+1+1))] iP))=W0 at*
 obtain⟨fb,hfb⟩:=aC (w.heap.size+1+1+1)
 obtain⟨mf,hmf⟩:=aC (w.heap.size+1+1)
 obtain⟨rc,hrc⟩:=aC (w.heap.size+1)
 have uQ:Hid (rc=w.heap.size+1∧mf=w.heap.size+2∧fb=w.heap.size+3):=⟨by omega,by omega,by omega⟩
 rw[hfb,hmf]at HKF;rw[hmf]at HMF;rw[hrc]at Dx;rw[hfb,hmf,hrc];clear hfb hmf hrc;have V4:=Hd (Oh (w:=W0) (fun W hb=>HS.o.below (HB0.o.trans (hb.mono HB0.o.size))) HN.o l A c (HO.o.turn (ae.below HB0.o)) dY.o HL.o);unfold StQ at V4;have c0:=HKB.o.blk.cell 0;have i0:=HKB.o.inside;simp only[List.getElem?_cons_zero]at c0;go_wp2_with (fail);refine V4.o.mono ?_;rintro e w2 ⟨U,uc,rs,Sn,rfl,hu,hr,a1Q,hrl,hb2⟩;have AQ:=Hd a1Q;have HU:=Hd hu;have HR:=Hd hr;have qU:=Hd hrl;have HB2:=Hd hb2;clear a1Q hu hr hrl hb2 V4 c0 i0;go_wp2_with (fail)
 refine(Kv U rs.length uc w2).mono ?_;rintro e w3 ⟨rfl,hw3⟩;have hb3:Below w2.heap.size w2 w3:=by rw[hw3];exact bR.alloc nR _
 have hx3:au w3 w2.heap.size [.slice U rs.length uc] 185:=by rw[hw3];exact au.new w2 _ _
 obtain⟨bx,hbx⟩:=aC w2.heap.size
 have Lt:Hid (W0.heap.size<=bx∧bx<w3.heap.size):=by rw[←hbx];exact⟨HB2.o.size,hx3.inside⟩
 rw[hbx]at hx3;have HX3:=Hd hx3;have kZ:Hid (bz W0 w3):=HB2.o.trans (hb3.mono HB2.o.size);have AZ:=Hd (HB0.o.trans (kZ.o.mono HB0.o.size));have Ir:=Hd (ax.below HU.o hb3);have HR3:Hid (∀q∈rs,aU w3 W0.heap.size q.v q.l):=fun q hq=>ax.below (HR.o q hq) hb3;have sJ:Hid (∀k,One mf k->w.heap.size<=k∧k<W0.heap.size):=fun k e=>by have:=uQ.o;have:=iL.o;unfold One at e;omega
 have U3:Hid (∀k,rZ mf rc k->w.heap.size<=k∧k<W0.heap.size):=fun k e=>by have:=uQ.o;have:=iL.o;unfold rZ at e;omega
 have FBW:Hid (∀W,ae (rZ mf rc) (rZ mf rc) w3 W->bz w W):=fun W ht=>AZ.o.trans (ht.aQ AZ.o.size fun k e=>(U3.o k e).1);have FUP:Hid (∀W,ae (One mf) (One mf) w3 W->ae (rZ mf rc) (rZ mf rc) w3 W):=fun W ht=>ht.up fun k e=>.inl e
 have FBK:Hid (∀W,ae (rZ mf rc) (rZ mf rc) w3 W->o6 bx U uc (rs.map jk.v) W):=fun W ht=>by
  have hne:∀k,W0.heap.size<=k->¬rZ mf rc k:=fun k hk e=>by have:=(U3.o k e).2;omega
  refine⟨?_,fun j hj=>?_⟩
  ·have:=(HX3.o.stays (ht.far bx Lt.o.2 (hne _ Lt.o.1)).2).blk.cell 0;rw[List.length_map];exact this
  ·rw[List.length_map]at hj;have hu:Du W W0.heap.size (.slice U rs.length uc) rs:=ax.stays Ir.o fun k hk=>(ht.far k (ax.block Ir.o hk).2 (hne _ (ax.block Ir.o hk).1)).2;obtain⟨g9,c9,e9,-,-,hrow⟩:=ax.row0 hu jk.bZ (by omega)
   injection e9 with e9 _ _
   obtain⟨b9,o9,e8,hc⟩:=hrow (by omega)
   injection e8 with e8
   injection e8 with e8 e7
   refine⟨g9,e9,?_⟩;have:=hc j hj 0 (rs[j].v) rfl;rw[←e8,←e7]at this
   simpa using this
 have FRW:Hid (∀W,ae (rZ mf rc) (rZ mf rc) w3 W->∀q∈rs,Row eI W q.A q.l):=fun W ht q hq=>by
  have h1:=HR3.o q hq;have h2:aU W W0.heap.size q.v q.l:=ax.stays h1 fun k hk=>(ht.far k (ax.block h1 hk).2 fun e=>by have:=(U3.o k e).2;have:=(ax.block h1 hk).1;omega).2;obtain⟨A9,c9,e9,-,-,hrow⟩:=aU.lM h2;unfold jk.v at e9
  injection e9 with e9 _ _
  rw[e9];exact hrow
 have FSC:Hid (∀W,ae (rZ mf rc) (rZ mf rc) w3 W->ak W g b m s Z x):=fun W ht=>HS.o.below (FBW.o W ht)
 have FCE:Hid (∀W,ae (One mf) (One mf) w3 W->au W w.heap.size [.pointer (some ⟨g,0,none⟩)] 25∧au W fb [.map (some mf)] iP∧au W rc [.int .i64 0] 81):=fun W ht=>by
  have h0:=uQ.o;have hst:∀k,k<W0.heap.size->k≠mf->W.heap[k]?=W0.heap[k]?:=fun k hk hne=>(ht.far k (Nat.lt_of_lt_of_le hk kZ.o.size) hne).2.trans (kZ.o.block k hk);have k1:=HKB.o.stays (hst _ HKB.o.inside (by omega));have k2:=HKF.o.stays (hst _ HKF.o.inside (by omega));exact⟨k1,k2,Dx.o.stays (hst _ Dx.o.inside (by omega))⟩
 have sK:Hid (Bc w3 mf (fun _=>none)):=HMF.o.below kZ.o;have EI:Hid ((rs.map jk.v).length<=100000):=by show _<=_;rw[List.length_map];have:=qU.o;rw[List.length_map]at this;have:=HL.o;omega
 rw[hbx];clear hw3 hb3 hx3 hbx HU HR HX3 Ir HR3 HB2 HKB HKF Dx HMF;go_wp2_with (fail)
 refine jZ (gf:=99) (lb:=#[.pointer (some ⟨bx,0,none⟩)]) rfl (enters_of func99 ag rfl) (es:=oL (rs.map jk.v)) (R:=fun _=>Eq) (Kp:=fun A B=>o6 bx U uc (rs.map jk.v) A->o6 bx U uc (rs.map jk.v) B)
  (fun W1 hb=>Ku EI.o ((FBK.o w3 (ae.refl _ _)).bk hb)) (fun h k x=>k (h x)) (fun A B hb h=>h.bk hb) (fun n A B e k o _ hk _=>e ▸ hk)
  (fun e he=>by obtain⟨j,_,rfl⟩:=List.mem_map.1 he;rfl)
  (a2r x rs mf w3) (fun co k W=>a2q x mf rc w3 co W) (fun k A B h hr=>?hI) (fun co k A B h hr=>?hIx) ⟨_,ae.refl _ _,sK.o,NV.start x⟩ ?a1 ?assign ?body ?done ?a1v
 case hI=>
  obtain⟨fr,h1,h2,h3⟩:=h;rcases hr with ⟨n,hn,rfl⟩|hb
  ·exact⟨fr,h1,h2,h3⟩
  ·exact⟨fr,h1.bk hb nR,h2.bk hb,h3⟩
 case hIx=>
  obtain⟨h1,h2,h3,h4⟩:=h;rcases hr with ⟨n,hn,rfl⟩|hb
  ·exact⟨h1,h2,h3,h4⟩
  ·exact⟨h1,h2.bk hb nR,h3.bk hb,h4⟩
 case assign=>
  intro l j hj W9 KK Ef;rw[Dj]
  gi_wp2_with (fail)
  exact Ef
 case a1v=>
  rintro D co k W9 hD hle ⟨rfl,ht,hrc,i,hi,hw⟩ hd;have HT:=Hd ht;have QR:=Hd hrc;have HE:Hid (setSt x=(x,35)):=CB hi hw;clear ht hrc hi hw;go_wp2_with (fail)
  refine dG w3.heap.size ⟨⟨D,rfl,hD,hd,by simp⟩,trivial⟩ fun w' hb=>⟨_,nG rfl _ _ rfl ((QR.o.bk hb).blk.cell 0),?_⟩
  rw[HE.o];have h1:=FBW.o _ HT.o;exact⟨s,rfl,(FSC.o _ HT.o).bk hb,ae.below (h1.trans (hb.below AZ.o.size h1.size))⟩
 case body=>
  rintro l2 j hj W9 ⟨fr,h1,h2,h3⟩;rw[lS,List.length_map]at hj
  obtain⟨q,hq⟩:∃q,rs[rs.length - 1 - j]?=some q:=⟨_,List.getElem?_eq_getElem (by omega)⟩
  have BK:Hid (q∈rs):=List.mem_of_getElem? hq;have hv:(Option.map jk.v rs[rs.length - 1 - j]?).getD undef=.slice q.A q.l.length q.c:=by rw[hq];rfl
  have HFR:Hid (∀k (hk:k<q.l.length),∃post,(rs.map (fun q:jk=>q.l)).reverse.flatten=(((rs.map (fun q:jk=>q.l)).reverse.take j).flatten++q.l.take k)++q.l[k]::post):=fun k hk=>Pq hj hq hk;have IQ:Hid (((rs.map (fun q:jk=>q.l)).reverse.take (j+1)).flatten=((rs.map (fun q:jk=>q.l)).reverse.take j).flatten++q.l):=Df hj hq;have a4p:Hid (∀i∈q.l,I64 i):=fun i hi=>mX HS.o.tree.ok (AQ.o.hs i ((AQ.o.mem i).2 ⟨q.l,List.mem_map.2 ⟨q,BK.o,rfl⟩,hi⟩))
  have HQL:Hid (q.l.length<=x.t.length+1):=by
   have hnd:q.l.Nodup:=(List.pairwise_flatten.1 AQ.o.nd).1 q.l (by rw[List.mem_reverse];exact List.mem_map.2 ⟨q,BK.o,rfl⟩)
   have:=dK (m:=0::ids x.t) hnd fun i hi=>by
    rcases ah.1 (AQ.o.hs i ((AQ.o.mem i).2 ⟨q.l,List.mem_map.2 ⟨q,BK.o,rfl⟩,hi⟩)) with e|e
    ·exact List.mem_cons.2 (.inl e)
    ·exact List.mem_cons_of_mem _ e
   rwa [List.length_cons,Eb]at this
  rw[hv];clear hv hq hj;generalize ((rs.map (fun q:jk=>q.l)).reverse.take j).flatten=pre at*;have XR:=Hd h1;have EZ:=Hd h2;have HF9:=Hd h3;clear h1 h2 h3;have hqb:(q.l.length:Int)<=100000:=by have:=HQL.o;have:=HN.o;omega
  gi_wp2_with (fail)
  gi_loopw [23] (fun x23 wr=>∃(j2:Nat) (fr:Int->Option Mp),j2<=q.l.length∧x23=.int .i64 j2∧Hid (ae (One mf) (One mf) w3 wr)∧Hid (Bc wr mf fr)∧Hid (NV x (pre++q.l.take j2) fr)∧Hid (KB W9 wr)) (fun x23 _=>q.l.length - (intOf x23).toNat)
  case atStart=>exact⟨0,fr,Nat.zero_le _,rfl,XR.o,EZ.o,by show NV _ _ _;simpa using HF9.o,KB.refl _⟩
  case round=>
   obtain⟨j2,Y1,hj2,rfl,HT,HM,HF,HK⟩:=hrel;generalize wr=wA at*;clear XR EZ HF9;by_cases hlt:j2<q.l.length
   ·have t1:decide (j2<q.l.length)=true:=by simpa using hlt
    have gQ:=Hd hlt;obtain⟨rb,ro,rA,YH⟩:=(FRW.o wA (FUP.o _ HT.o) q BK.o).at_ hlt
    obtain⟨i,hi⟩:∃i,i=q.l[j2]'hlt:=⟨_,rfl⟩
    have Ls:Hid (I64 i):=by rw[hi];exact a4p.o _ (List.getElem_mem hlt)
    have HPO:Hid (∃post,(rs.map (fun q:jk=>q.l)).reverse.flatten=(pre++q.l.take j2)++i::post):=by rw[hi];exact HFR.o j2 hlt
    have uO:Hid (q.l.take (j2+1)=q.l.take j2++[i]):=by rw[hi];exact List.take_succ_eq_append_getElem hlt
    have HRK:=Hd (Jo (FSC.o wA (FUP.o _ HT.o)) i Ls.o HM.o)
    have EE:Hid (((gu x Y1 i).2=0∧NV x ((pre++q.l.take j2)++[i]) (upd Y1 i (some (gu x Y1 i).1)))∨((gu x Y1 i).2=35∧has x.t i=true∧aN x.t x.nd i=none)):=by
     obtain⟨post,hp⟩:=HPO.o;exact HF.o.step HS.o.tree.ok HG.o AQ.o HST.o hp
    obtain⟨R,hR⟩:=aC (gu x Y1 i)
    rw[hR]at HRK EE;obtain⟨RM,RE⟩:=R;have hic:wA.cell? ⟨rb,ro+j2,none⟩=some (.int .i64 i):=by rw[hi];exact YH
    obtain⟨k0,k1,-⟩:=FCE.o wA HT.o;have c0:=k0.blk.cell 0;have i0:=k0.inside;have c1:=k1.blk.cell 0;have i1:=k1.inside;simp only[List.getElem?_cons_zero]at c0 c1;clear k0 k1;clear hi hR hlt YH;unfold Mp.cs at HRK
    dsimp only at HRK EE
    have HPH:Hid (∀j,Y1 j≠none->has x.t j=true):=fun j hj=>by
     by_cases hm:j∈pre++q.l.take j2
     ·obtain⟨post,hp⟩:=HPO.o;have:j∈(rs.map (fun q:jk=>q.l)).reverse.flatten:=by rw[hp];exact List.mem_append_left _ hm
      obtain⟨r,h1,h2⟩:=List.mem_flatten.1 this;exact AQ.o.hs j ((AQ.o.mem j).2 ⟨r,List.mem_reverse.1 h1,h2⟩)
     ·exact absurd (HF.o.no j hm) hj
    clear HPO
    gi_wp2_with (fail)
    refine⟨trivial,rfl,CallsIn.inRound l2 ((callsIn_wide (n:=0)).2 (HRK.o.mono ?_))⟩;rintro e wB ⟨rfl,hbB⟩;obtain⟨u1,u2,u3,u4,u5,u6⟩:=RM
    dsimp only at EE ⊢
    have hbC:bz wB (wB.alloc (.cells (Vh u1 u2 u3 u4 u5 u6).toArray 67)):=bR.alloc nR _;have EL:Hid (bz wA (wB.alloc (.cells (Vh u1 u2 u3 u4 u5 u6).toArray 67))):=hbB.trans (hbC.mono hbB.size);clear hbB hbC HRK c0 i0 c1 i1 hic;have AP:Hid (ae (One mf) (One mf) w3 (wB.alloc (.cells (Vh u1 u2 u3 u4 u5 u6).toArray 67))):=HT.o.trans (ae.below EL.o);have HMC:=Hd (HM.o.below EL.o);have EJ:Hid (KB W9 (wB.alloc (.cells (Vh u1 u2 u3 u4 u5 u6).toArray 67))):=HK.o.trans (KB.below EL.o);obtain⟨-,k1,crc⟩:=FCE.o _ AP.o
    have c1:=k1.blk.cell 0;have i1:=k1.inside;simp only[List.getElem?_cons_zero]at c1;clear k1;have HCR:=Hd crc;clear crc;rcases EE.o with ⟨rfl,hfr⟩|⟨rfl,hxi,hwi⟩
    ·have HFC:=Hd hfr;obtain⟨wD,hrun,hmD,hgD⟩:=HMC.o.put HPH.o (by have:=HN.o;omega) Ls.o ⟨u1,u2,u3,u4,u5,u6⟩;have HTD:Hid (ae (One mf) (One mf) w3 wD):=AP.o.trans (ae.grown hgD fun k e=>(Option.some.inj e).symm);have HMD:=Hd hmD;have lD:Hid (KB W9 wD):=EJ.o.trans (HMC.o.kb hgD);have HFD:Hid (NV x (pre++q.l.take (j2+1)) (upd Y1 i (some ⟨u1,u2,u3,u4,u5,u6⟩))):=by rw[uO.o,←List.append_assoc];exact HFC.o
     clear hfr hmD hgD EE HMC AP EJ HFC HM HT HK HF EL HCR HPH;unfold Mp.cs at hrun
     gi_wp2_with (fail)
     go_roundw
     case rel=>exact⟨_,_,_,_,⟨j2+1,gQ.o,by go_num,_,HMD,HFD⟩,rfl,rfl,rfl,rfl⟩
     case measure=>have:=gQ.o;simp[intOf];omega
    ·have HX:=Hd (And.intro hxi hwi);have f0:=HCR.o.blk.free 0;have c0:=HCR.o.blk.cell 0;have i0:=HCR.o.inside;simp only[List.getElem?_cons_zero]at c0;clear hxi hwi EE HM HT HK HF EL HPH
     have a4I:Hid (KB W9 ((wB.alloc (.cells (Vh u1 u2 u3 u4 u5 u6).toArray 67)).setCell ⟨rc,0,none⟩ (.int .i64 35))∧a2q x mf rc w3 .ret ((wB.alloc (.cells (Vh u1 u2 u3 u4 u5 u6).toArray 67)).setCell ⟨rc,0,none⟩ (.int .i64 35))):=
      ⟨EJ.o.trans (KB.set (a:=⟨rc,0,none⟩) HCR.o rfl _),rfl,(FUP.o _ AP.o).trans (ae.set (a:=⟨rc,0,none⟩) (.inr rfl) _),HCR.o.set 0 _,i,HX.o⟩
     gi_wp2_with (fail)
     exact a4I.o
   ·obtain rfl:j2=q.l.length:=by omega
    have t1:decide (q.l.length<q.l.length)=false:=by simp
    have HI:Hid (a2r x rs mf w3 (j+1) wA):=⟨Y1,HT.o,HM.o,by rw[IQ.o];have:=HF.o;rwa [List.take_length]at this⟩
    have HKP:Hid (o6 bx U uc (rs.map jk.v) wA):=FBK.o _ (FUP.o _ HT.o);clear hlt
    gi_wp2_with (fail)
    exact⟨HK.o,fun _=>HKP.o,HI.o⟩
 case done=>
  rintro D W9 hD ⟨fr,h1,h2,h3⟩ hd;rw[lS,List.length_map,List.take_of_length_le (by simp)]at h3;have HDN:=Hd (h3.done HS.o.tree.ok AQ.o HST.o);have XR:=Hd h1;have EZ:=Hd h2;have HD9:=Hd hd
  have HPH:Hid (∀j,fr j≠none->has x.t j=true):=fun j hj=>by
   by_cases hm:j∈(rs.map (fun q:jk=>q.l)).reverse.flatten
   ·obtain⟨r,h4,h5⟩:=List.mem_flatten.1 hm;exact AQ.o.hs j ((AQ.o.mem j).2 ⟨r,List.mem_reverse.1 h4,h5⟩)
   ·exact absurd (h3.no j hm) hj
  obtain⟨k0,k1,k2⟩:=FCE.o _ h1;have oh:=Hd k0;have dE:=Hd k2;have c1:=k1.blk.cell 0;have i1:=k1.inside;simp only[List.getElem?_cons_zero]at c1;have kG:Hid (∀k,af b m s x.t k->k<w.heap.size):=HS.o.inside;have HZI:Hid (∀k,Z.3 k->k<w.heap.size):=fun k hk=>(HS.o.old k hk).1;have QP:=Hd (FBW.o _ (FUP.o _ h1));have HS9:=Hd (FSC.o _ (FUP.o _ h1));have HL3:Hid (w3.heap.size<=W9.heap.size):=h1.size;clear h1 h2 h3 hd k0 k1 k2;obtain⟨es,hvm,hvl⟩:=EZ.o;have XM:=Hd hvm;have Zg:=Hd hvl;have hown:=hvm.own;clear hvm hvl FBK FRW FSC FCE FBW FUP sK EI Lt EZ XR
  go_wp2_with (at_range;refine wpList_range_own _ rfl _ iP rfl 3 67 oG uV vY mf es.length (lL es) rfl hown ?_;intro w0 hrg0 hg0 hs0)
  go_frame
  obtain⟨r,hr⟩:=aC W9.heap.size
  have HR:Hid (r=W9.heap.size):=hr.symm;rw[hr]at hrg0 ⊢;have oZ:=Hd hrg0;have hw0:bz w w0:=QP.o.trans ⟨hg0.os,hg0.tape,hg0.output,hg0.size,fun k hk=>hg0.block k (Nat.lt_of_lt_of_le hk QP.o.size) (by simp)⟩
  have uP:Hid (ak w0 g b m s ⟨Z.1,Z.2,fun k=>Z.3 k∨(w.heap.size<=k∧k<=r)⟩ x):=HS.o.part (fun k h1 _=>hw0.block k h1) fun k hk=>by
   have h2:=hg0.size;have h3:=hs0;rcases hk with e|e
   ·exact⟨Nat.lt_of_lt_of_le (HS.o.old k e).1 hw0.size,.inl e⟩
   ·exact⟨by omega,.inr e.1⟩
  have HT0:Hid (ae (af b m s x.t) (af b m s x.t) W9 w0):=⟨hg0.os,hg0.tape,hg0.output,hg0.size,fun k hk hn=>⟨hn,hg0.block k hk (by simp)⟩⟩
  clear hrg0 hg0 hs0 hr c1 i1 hown hw0
  go_loopw [] (fun wr=>∃(left:Lit->Bool) (cnt:Nat),Hid (wr.ranges prog 3 vY mf r es.length (lL es) left cnt)∧Hid (ak wr g b m s ⟨Z.1,Z.2,fun k=>Z.3 k∨(w.heap.size<=k∧k<=r)⟩ ⟨x.t,x.nd,nH x.ws fr left⟩)∧Hid (ae (af b m s x.t) (af b m s x.t) W9 wr)) (fun wr=>wr.rangeLeft mf r)
  case atStart=>
   refine⟨_,_,oZ.o,uP.o.like ⟨uP.o.tree.ok,fun _=>rfl,fun _ _=>rfl,fun i hi=>?_⟩,HT0.o⟩;show nH x.ws fr _ i=x.ws i;unfold nH;by_cases h:Maps.has (lL es) (.int .i64 i)=true
   ·rw[if_pos h]
   ·rw[if_neg h];have h2:=Zg.o i;rw[GV]at h;cases hl:omap.look es i with
    |none=>
     rw[hl]at h2;cases hf:fr i with
     |none=>rfl
     |some u=>rw[hf]at h2;cases h2
    |some v=>rw[hl]at h;exact absurd rfl h
  case round=>
   obtain⟨left,cnt,hrg,hsc,htw⟩:=hrel;generalize wr=wA at*;clear oZ uP HT0;go_wp2_with (at_next;refine wpList_next_ranges _ rfl _ rfl 3 oG vY (Value.int .i64) id (fun key kl hk=>by obtain⟨x,hx,_⟩:=Maps.keyOf_int_inv underlying3 hk;exact⟨x,hx⟩) (fun v y hv=>⟨v,rfl⟩) mf r es.length (lL es) left cnt rfl hrg.o ?_ ?_)
   ·intro _ hl0;have HL0:=Hd hl0;have k2:au wA rc [.int .i64 0] 81:=dE.o.off (fun e=>by have:=kG.o _ e;have:=uQ.o;omega) htw.o;have f0:=k2.blk.free 0;have c0:=k2.blk.cell 0;have i0:=k2.inside;simp only[List.getElem?_cons_zero]at c0;have HB2:Hid (au (wA.setCell ⟨rc,0,none⟩ (.int .i64 0)) rc [.int .i64 0] 81):=k2.set 0 _;have HTF:Hid (ae (af b m s x.t) (af b m s x.t) w (wA.setCell ⟨rc,0,none⟩ (.int .i64 0))):=((ae.below QP.o).trans htw.o).ZI (by have:=uQ.o;show _<=rc;omega) _
    have HSF:Hid (ak (wA.setCell ⟨rc,0,none⟩ (.int .i64 0)) g b m s Z (setSt x).1):=by
     have h1:ak (wA.setCell ⟨rc,0,none⟩ (.int .i64 0)) g b m s ⟨Z.1,Z.2,Z.3⟩ ⟨x.t,x.nd,nH x.ws fr left⟩:=hsc.o.part (fun k _ hk=>Below.heap_setCell wA ⟨rc,0,none⟩ _ k fun e=>hk (.inr ⟨by have e':k=rc:=e;have:=uQ.o;omega,by have e':k=rc:=e;have:=uQ.o;have:=HR.o;have:=dE.o.inside;omega⟩)) fun k hk=>⟨by have:=(hsc.o.old k (.inl hk)).1;simpa[World.setCell]using this,.inl (.inl hk)⟩
     rw[HDN.o.1];refine ak.like h1 ⟨h1.tree.ok,fun _=>rfl,fun _ _=>rfl,fun i hi=>?_⟩;show(aN x.t x.nd i).getD (x.ws i)=nH x.ws fr left i;unfold nH;rw[if_neg (by rw[HL0.o];simp),HDN.o.2 i hi]
    have VG:Hid ((wA.setCell ⟨rc,0,none⟩ (.int .i64 0)).heap[D]?=some (.deferred (some []))):=by
     have h1:D<W9.heap.size:=(Array.getElem?_eq_some_iff.1 HD9.o).1;have h2:¬af b m s x.t D:=fun e=>by have:=kG.o _ e;have:=AZ.o.size;omega
     have h3:=(htw.o.far D h1 h2).2.trans HD9.o;exact(Below.heap_setCell wA ⟨rc,0,none⟩ _ D (fun e=>by have e':D=rc:=e;have:=uQ.o;have:=iL.o;have:=kZ.o.size;omega)).trans h3
    have HZ:Hid ((setSt x).2=0):=by show _=_;rw[HDN.o.1]
    clear hl0 k2;go_wp2_with (fail)
    refine dG w3.heap.size ⟨⟨D,rfl,hD,VG.o,by simp⟩,trivial⟩ fun w' hb=>⟨_,nG rfl _ _ rfl ((HB2.o.bk hb).blk.cell 0),?_⟩
    rw[←HZ.o];refine⟨s,rfl,HSF.o.bk hb,?_⟩;rw[sU];exact HTF.o.bk hb AZ.o.size
   ·intro x2 c2 kl yd yp w2 cnt1 hkey hlk hv hat hrg1 hlt hg1 hs1 hen;obtain⟨rfl,a1P,hlb⟩:=a2k hkey hv hat
    obtain⟨u,hu,rfl⟩:∃u,fr x2=some u∧c2=.agg u.cs.toArray:=by
     have h2:=Zg.o x2;rw[hlb]at h2;cases hf:fr x2 with
     |none=>rw[hf]at h2;cases h2
     |some u=>rw[hf]at h2;exact⟨u,rfl,Option.some.inj h2⟩
    have a0J:=Hd a1P;have HHX:Hid (has x.t x2=true):=HPH.o x2 (by rw[hu];simp);have HMX:Hid (upd (nH x.ws fr left) x2 u=nH x.ws fr (fun z=>left z && !z.sameKey (.int .i64 x2))):=OT x.ws fr left hu;have a0O:=Hd hrg1;have Yc:Hid (w2.rangeLeft mf r<wA.rangeLeft mf r):=by show _<_;rw[hrg1.left_eq,hrg.o.left_eq];exact hlt
    have HT2:Hid (ae (af b m s x.t) (af b m s x.t) W9 w2):=htw.o.Xo hg1 fun k e=>by have:=Option.some.inj e;have:=HR.o;omega
    have HS2:Hid (ak w2 g b m s ⟨Z.1,Z.2,fun k=>Z.3 k∨(w.heap.size<=k∧k<=r)⟩ ⟨x.t,x.nd,nH x.ws fr left⟩):=hsc.o.part (fun k hk hn=>hg1.block k hk fun e=>hn (.inr (by have e':k=r:=Option.some.inj e;have:=HR.o;have:=QP.o.size;omega))) fun k hk=>⟨Nat.lt_of_lt_of_le (hsc.o.old k hk).1 hg1.size,.inl hk⟩
    have hbC:Below w2.heap.size w2 (w2.alloc (.cells (Vh u.a u.b u.c u.d u.e u.f).toArray 67)):=bR.alloc nR _;have EJ:Hid (az (w2.alloc (.cells (Vh u.a u.b u.c u.d u.e u.f).toArray 67)) w2.heap.size u.cs):=aA w2 u.cs _;have EL:=Hd hbC;have HL2:Hid (w.heap.size<=w2.heap.size):=Nat.le_trans QP.o.size HT2.o.size;unfold Mp.cs at hen;clear hkey hlk hv hat hrg1 hlt hg1 hs1 hlb a1P hu hbC
    go_upto_region 15 with(fail)
    generalize (w2.alloc (.cells (Vh u.a u.b u.c u.d u.e u.f).toArray 67))=wC at*
    obtain⟨k13,a0k⟩:=aC w2.heap.size
    have a4z:Hid (w.heap.size<=k13):=by rw[←a0k];exact HL2.o
    rw[a0k]at EJ ⊢;have UO:Hid (ak wC g b m s ⟨Z.1,Z.2,fun k=>Z.3 k∨(w.heap.size<=k∧k<=r)⟩ ⟨x.t,x.nd,nH x.ws fr left⟩):=HS2.o.below EL.o;have AP:Hid (ae (af b m s x.t) (af b m s x.t) W9 wC):=HT2.o.trans (ae.below EL.o);have Qr:Hid (wC.ranges prog 3 vY mf r es.length (lL es) (fun z=>left z && !z.sameKey (.int .i64 x2)) cnt1):=a0O.o.kept (below_grown EL.o) (by simp) (by simp);have a2O:Hid (wC.rangeLeft mf r<wA.rangeLeft mf r):=by show _<_;rw[Qr.o.left_eq,←a0O.o.left_eq];exact Yc.o
    clear a0k HL2 HS2 HT2 a0O EL Yc hen hrg hsc htw;obtain⟨An,cn,hlk⟩:=UO.o.zn a0J.o HHX.o;have HKB:Hid (au wC w.heap.size [.pointer (some ⟨g,0,none⟩)] 25):=oh.o.off (fun e=>by have:=kG.o _ e;omega) AP.o
    have IV:Hid (∀W,ae (af b m s x.t) (af b m s x.t) wC W->az W w.heap.size [.pointer (some ⟨g,0,none⟩)]∧az W k13 u.cs):=fun W ht=>⟨(HKB.o.off (fun e=>by have:=kG.o _ e;omega) ht).blk,EJ.o.stays (ht.far k13 EJ.o.inside fun e=>by have:=kG.o _ e;have:=a4z.o;omega).2⟩
    have wQ:=Hd UO.o.blk;have wK:=Hd UO.o.jh
    obtain⟨n0,hn0⟩:=aC (x.nd x2)
    have EX:Hid (x.nd x2=n0):=hn0;have V9:Hid (dD (fun k=>Z.3 k∨(w.heap.size<=k∧k<=r)) (af b m s x.t) wC n0 An):=by rw[←hn0];exact(hlk wC bR).2.2
    obtain⟨u0,hu0⟩:=aC (nH x.ws fr left x2)
    have a2R:Hid (∀W,ak W g b m s ⟨Z.1,Z.2,fun k=>Z.3 k∨(w.heap.size<=k∧k<=r)⟩ ⟨x.t,x.nd,nH x.ws fr left⟩->∃A c,(Instr.lookup eY (.map (some m)) (.int .i64 x2) false).run prog W=.ok (.agg (dZ n0 A c u0).toArray) W∧dD (fun k=>Z.3 k∨(w.heap.size<=k∧k<=r)) (af b m s x.t) W n0 A):=fun W hs=>by
     obtain⟨A,c,hl⟩:=hs.zn a0J.o HHX.o;have h2:=hl W bR;rw[show(⟨x.t,x.nd,nH x.ws fr left⟩:aJ).nd x2=n0 from hn0,show(⟨x.t,x.nd,nH x.ws fr left⟩:aJ).ws x2=u0 from hu0]at h2;exact⟨A,c,h2.1,h2.2.2⟩
    clear hlk hn0 hu0
    refine wR (ae (af b m s x.t) (af b m s x.t)) (fun L wx=>StJ g b m s ⟨Z.1,Z.2,fun k=>Z.3 k∨(w.heap.size<=k∧k<=r)⟩ ⟨x.t,x.nd,nH x.ws fr left⟩ ⟨x.t,upd x.nd x2 n0,upd (nH x.ws fr left) x2 u⟩ (L 10) (L 14) wx) [48,49,50,51,52,53,54,55,56,57,58,59,60,61] (fun _=>ae.refl _ _) (fun _ _ _ h k=>h.trans k) (fun i=>match i with
     |0|1|5|6=>rp g 0
     |2|7=>rp g 5
     |3|8=>rV (.map (some m))
     |4|9=>rV (.int .i64 x2)
     |10=>(⟨fun v wv=>∃A c,v=.agg (dZ n0 A c u0).toArray∧dD (fun k=>Z.3 k∨(w.heap.size<=k∧k<=r)) (af b m s x.t) wv n0 A,fun v w1 w2 h hb=>h.elim fun A h=>h.elim fun c h=>⟨A,c,h.1,h.2.turn hb⟩⟩:regs.kW (ae (af b m s x.t) (af b m s x.t)))
     |11=>(⟨fun v wv=>∃A c,v=.agg (n0.cs A c).toArray∧dD (fun k=>Z.3 k∨(w.heap.size<=k∧k<=r)) (af b m s x.t) wv n0 A,fun v w1 w2 h hb=>h.elim fun A h=>h.elim fun c h=>⟨A,c,h.1,h.2.turn hb⟩⟩:regs.kW (ae (af b m s x.t) (af b m s x.t)))
     |12=>rV (.agg (u.cs).toArray)
     |13=>(⟨fun v wv=>∃A c,v=.agg (dZ n0 A c u).toArray∧dD (fun k=>Z.3 k∨(w.heap.size<=k∧k<=r)) (af b m s x.t) wv n0 A,fun v w1 w2 h hb=>h.elim fun A h=>h.elim fun c h=>⟨A,c,h.1,h.2.turn hb⟩⟩:regs.kW (ae (af b m s x.t) (af b m s x.t)))
     |_=>ra) (ae.below bR.drew) (⟨fun _=>UO.o.below bR.drew,nofun,nofun⟩) ⟨?_,?_,?_,?_,?_,?_,?_,?_,?_,?_,?_,?_,?_,?_,?_,trivial⟩ ?_
    any_goals (first|refine zp fun L a w1 hh=>?_|fail)
    have h2:=hh.p 2 w.heap.size 0;have ⟨c0,i0⟩:=((IV.o _ hh.rel).1).ci 0 rfl;rotate_left;have h48:=rq (hh.d 0 48);rotate_left;have h49:=rq (hh.d 1 49);have i0:=((au.off wQ.o wK.o hh.rel).blk).inside;rotate_left;have h50:=rq (hh.d 2 50);have ⟨c0,i0⟩:=((au.off wQ.o wK.o hh.rel).blk).ci 5 rfl;rotate_left;have h12:=hh.o 12 (v:=.int .i64 x2) rfl;rotate_left;have h2:=hh.p 2 w.heap.size 0;have ⟨c0,i0⟩:=((IV.o _ hh.rel).1).ci 0 rfl;rotate_left;have h53:=rq (hh.d 5 53);rotate_left;have h54:=rq (hh.d 6 54);have i0:=((au.off wQ.o wK.o hh.rel).blk).inside;rotate_left
    have h55:=rq (hh.d 7 55);have ⟨c0,i0⟩:=((au.off wQ.o wK.o hh.rel).blk).ci 5 rfl;rotate_left;have h12:=hh.o 12 (v:=.int .i64 x2) rfl;rotate_left
    ·have h56:=rq (hh.d 8 56);have h57:=rq (hh.d 9 57);obtain⟨A8,c8,hlk,Ph⟩:=a2R.o w1 (hh.st.lo hh.un);have hJ:=hh.j;clear hh;go_simp;exact⟨_,rfl,ae.refl _ _,⟨A8,⟨c8,rfl⟩,Ph⟩,hJ.o.fi⟩
    ·obtain⟨A8,c8,e8,Ph⟩:=(show ∃A c,(a.tmps.getD 58 undef)=.agg (dZ n0 A c u0).toArray∧dD (fun k=>Z.3 k∨(w.heap.size<=k∧k<=r)) (af b m s x.t) w1 n0 A from hh.d 10 58)
     have h58:a.tmps[58]?.getD undef=.agg (dZ n0 A8 c8 u0).toArray:=rq (e8);have hf1:=zQ n0 A8 c8 u0 w1;have hJ:=hh.j;clear hh;go_simp;exact⟨_,rfl,ae.refl _ _,⟨A8,⟨c8,rfl⟩,Ph⟩,hJ.o⟩
    ·have h13:=hh.p 13 k13 0;have hB:=Hd ((IV.o _ hh.rel).2);have hJ:=Hd hh.st;exact aK 67 _ rfl k13 0 (by simpa[go_sem]using h13) _ hB.o (u.cs) rfl _ underlying67 rfl ag ⟨_,rfl,ae.refl _ _,rfl,hJ.o⟩
    ·have h60:=rq (hh.d 12 60)
     obtain⟨A8,c8,e8,Ph⟩:=(show ∃A c,(a.tmps.getD 59 undef)=.agg (n0.cs A c).toArray∧dD (fun k=>Z.3 k∨(w.heap.size<=k∧k<=r)) (af b m s x.t) w1 n0 A from hh.d 11 59)
     have h59:a.tmps[59]?.getD undef=.agg (n0.cs A8 c8).toArray:=rq (e8);have hJ:=Hd hh.st;exact wp_build _ _ rfl (by simp[go_sem,h59,h60]) (kV n0 A8 c8 u w1) ⟨_,rfl,ae.refl _ _,⟨A8,c8,rfl,Ph⟩,hJ.o⟩
    ·have h51:=rq (hh.d 3 51);have h52:=rq (hh.d 4 52)
     obtain⟨A8,c8,e8,Ph⟩:=(show ∃A c,(a.tmps.getD 61 undef)=.agg (dZ n0 A c u).toArray∧dD (fun k=>Z.3 k∨(w.heap.size<=k∧k<=r)) (af b m s x.t) w1 n0 A from hh.d 13 61)
     have h61:a.tmps[61]?.getD undef=.agg (dZ n0 A8 c8 u).toArray:=rq (e8);obtain⟨w9,hrun,hs9,lu⟩:=(hh.st.no hh.un).store (by have:=HN.o;show x.t.length<=_;omega) a0J.o HHX.o (show wH _ (af b m s x.t) w1 (.agg (dZ n0 A8 c8 u).toArray) n0 u from⟨_,_,rfl,Ph⟩);have Pn:=Hd hs9;have Pm:=Hd lu;have hO9:=Hd (hh.up 10 ag);clear hh hs9 lu;go_simp;exact⟨Pm.o,⟨undef,trivial⟩,nofun,fun _=>Pn.o,fun _=>hO9.o⟩
    any_goals (have hJ:=hh.j;clear hh;go_simp;exact⟨_,rfl,ae.refl _ _,rfl,hJ.o⟩)
    intro L BZ val hL hJ hR hv;have mg:=Hd hR;have IM:=Hd (hJ.yes (hL 14 (by decide)));clear hv hL hJ hR;simp only[regs.aG,List.map_cons,List.map_nil];simp only[Act.put,List.setIfInBounds_toArray,List.set_cons_zero,List.set_cons_succ]
    skip
    have a4m:Hid (ak BZ g b m s ⟨Z.1,Z.2,fun k=>Z.3 k∨(w.heap.size<=k∧k<=r)⟩ ⟨x.t,x.nd,nH x.ws fr (fun z=>left z && !z.sameKey (.int .i64 x2))⟩):=by
     have h1:=IM.o;rw[←EX.o,jy,HMX.o]at h1;exact h1
    have a0L:Hid (ae (af b m s x.t) (af b m s x.t) W9 BZ):=AP.o.trans mg.o
    have Zl:Hid (BZ.ranges prog 3 vY mf r es.length (lL es) (fun z=>left z && !z.sameKey (.int .i64 x2)) cnt1):=by
     have h1:=Qr.o.lt;have h2:=Qr.o.owns.lt;refine Oz Qr.o (mg.o.far mf h2 fun e=>?_).2 (mg.o.far r h1 fun e=>?_).2
     ·have:=kG.o _ e;have:=uQ.o;omega
     ·have:=kG.o _ e;have:=HR.o;have:=QP.o.size;omega
    have a2P:Hid (BZ.rangeLeft mf r<wA.rangeLeft mf r):=by show _<_;rw[Zl.o.left_eq,←Qr.o.left_eq];exact a2O.o
    clear IM IV HKB EJ a2R V9 wQ wK UO AP Qr a2O mg;go_wp2_with (fail)
    go_roundw
    case rel=>exact⟨_,_,Zl,a4m,a0L⟩
    case measure=>exact a2P.o
end
end
end Go.Proofs.YthmegninhpihkaaGreat

namespace Go.Proofs.YthmegninhpihkaaGreat
section
open Go.RowKit fG gm aF Go.Maps
structure Dz(base:Nat)(Z:ZZ)(t:T)(es:LV)(i8 i13 i14 i15:Bool)(v11 v16 v17 v2:Value)(w:World):Prop where
 jr:base<=w.heap.size
 tree:i8=true->∃b s,v11=.pointer (some ⟨b,0,none⟩)∧aX w b s t∧(∀k,gq b s t k->base<=k)∧(i13=true->∀m,v16=.map (some m)->¬gq b s t m)
 map:i13=true->∃m,v16=.map (some m)∧VM w m es∧base<=m
 Rq:i14=true->∃g b s m,v17=.pointer (some ⟨g,0,none⟩)∧base<=g∧au w g (sccs b m Z) rE∧aX w b s t∧VM w m es∧(∀k,af b m s t k->base<=k)∧¬gq b s t m∧¬af b m s t g
 o:i15=true->v2=v17
 OJ:i14=true->i8=true∧i13=true
 OI:i15=true->i14=true
section
variable {base:Nat}{Z:ZZ}{t:T}{es:LV}{i8 i13 i14 i15:Bool}{v11 v16 v17 v2:Value}{w w':World}
theorem Dz.slots{u11 u16 u17 u2:Value}(h:Dz base Z t es i8 i13 i14 i15 v11 v16 v17 v2 w)(e1:u11=v11)(e2:u16=v16)(e3:u17=v17)(e4:u2=v2):Dz base Z t es i8 i13 i14 i15 u11 u16 u17 u2 w:=by
 rw[e1,e2,e3,e4];exact h
theorem Dz.below(h:Dz base Z t es i8 i13 i14 i15 v11 v16 v17 v2 w)(hb:bz w w'):Dz base Z t es i8 i13 i14 i15 v11 v16 v17 v2 w' where
 jr:=Nat.le_trans h.jr hb.size
 tree e:=by
  obtain⟨b,s,h1,h2,h3⟩:=h.tree e;exact⟨b,s,h1,h2.below hb,h3⟩
 map e:=by
  obtain⟨m,h1,h2,h3⟩:=h.map e;exact⟨m,h1,h2.below hb,h3⟩
 Rq e:=by
  obtain⟨g,b,s,m,h1,h2,h3,h4,h5,h6⟩:=h.Rq e;exact⟨g,b,s,m,h1,h2,h3.stays (hb.block _ h3.inside),h4.below hb,h5.below hb,h6⟩
 o:=h.o
 OJ:=h.OJ
 OI:=h.OI
theorem Dz.start(hb:base<=w.heap.size):Dz base Z t es false false false false v11 v16 v17 v2 w:=
 ⟨hb,nofun,nofun,nofun,nofun,nofun,nofun⟩
theorem Dz.grow(h:Dz base Z t es i8 i13 i14 i15 v11 v16 v17 v2 w)(h8:i8=false){b:Nat}{s:Sh}{u11:Value}(hb:bz w w')(h1:aX w' b s t)(h2:∀k,gq b s t k->w.heap.size<=k)(e11:u11=.pointer (some ⟨b,0,none⟩)):Dz base Z t es true i13 i14 i15 u11 v16 v17 v2 w':=
 have xI:=lI (fun e=>(h.OJ e).1) h8;have h15:=lI h.OI xI;have h':=h.below hb
 ⟨h'.jr,fun _=>⟨b,s,e11,h1,fun k hk=>Nat.le_trans h.jr (h2 k hk),fun e m em hm=>by
  obtain⟨m',e1,e2,-⟩:=h.map e;rw[em]at e1
  injection e1 with e1
  injection e1 with e1
  have:=h2 m hm;have:=e2.inside
  omega⟩,h'.map,(fun e=>by rw[xI]at e;cases e),(fun e=>by rw[h15]at e;cases e),(fun e=>⟨rfl,(h'.OJ e).2⟩),h'.OI⟩
theorem Dz.make{u16:Value}(h:Dz base Z t es i8 i13 i14 i15 v11 v16 v17 v2 w)(h13:i13=false)(hb:bz w w')(h1:VM w' w.heap.size es)(e16:u16=.map (some w.heap.size)):Dz base Z t es i8 true i14 i15 v11 u16 v17 v2 w':=by
 have xI:=lI (fun e=>(h.OJ e).2) h13;subst e16 h13 xI;have h':=h.below hb;refine⟨h'.jr,fun e=>?_,fun _=>⟨_,rfl,h1,h.jr⟩,h'.Rq,h'.o,nofun,h'.OI⟩;obtain⟨b0,s0,h10,h20,h30,-⟩:=h.tree e;refine⟨b0,s0,h10,h20.below hb,h30,fun _ m em hm=>?_⟩
 injection em with em
 injection em with em
 have:=h20.raw.inside m hm;omega
theorem Dz.last(h:Dz base Z t es i8 i13 i14 i15 v11 v16 v17 v2 w)(h8:i8=true)(h13:i13=true)(xI:i14=false):∃b m,v11=.pointer (some ⟨b,0,none⟩)∧v16=.map (some m)∧∀e w',OfQ b m Z w e w'->∃u,e=.returned u∧bz w w'∧Dz base Z t es i8 i13 true i15 v11 v16 u v2 w':=by
 have h15:=lI h.OI xI;subst h8 h13 xI;obtain⟨b,s,e1,e2,e3,e4⟩:=h.tree rfl;obtain⟨m,f1,f2,f3⟩:=h.map rfl;refine⟨b,m,e1,f1,?_⟩;rintro e w' ⟨g,rfl,g1,g2,g3⟩;have h':=h.below g3;have hnf:=e4 rfl m f1;refine⟨_,rfl,g3,⟨h'.jr,h'.tree,h'.map,fun _=>⟨g,b,s,m,rfl,Nat.le_trans h.jr g1,g2,e2.below g3,f2.below g3,fun k hk=>?_,hnf,fun hk=>?_⟩,(fun e=>by rw[h15]at e;cases e),(fun _=>⟨rfl,rfl⟩),(fun _=>rfl)⟩⟩
 ·rcases hk with e|e
  ·rw[e];exact f3
  ·exact e3 k e
 ·rcases hk with e|e
  ·have:=f2.inside;omega
  ·have:=e2.raw.inside g e;omega
theorem Dz.tell{u2:Value}(h:Dz base Z t es i8 i13 i14 i15 v11 v16 v17 v2 w)(xI:i14=true)(e2:u2=v17):Dz base Z t es i8 i13 i14 true v11 v16 v17 u2 w:=⟨h.jr,h.tree,h.map,h.Rq,fun _=>e2,h.OJ,fun _=>xI⟩
end
section
variable {w:World}{g b m:Nat}{s:Sh}{Z:ZZ}{x:aJ}
end
end
section
open Go.RowKit fG gm aF Go.Maps
theorem FY{M:Int}{x:aJ}{l:List dH}(ok:Ok x.t)(h:Room M x l.length):(aO M x l).1.t.length<=900:=by
 obtain⟨h1,h2⟩:=h;rcases h2 with h2|⟨h2,h3⟩
 ·have:=Ak (M:=M) l ok;omega
 ·rcases wo (M:=M) l ok with h4|h4
  ·omega
  ·omega
structure lV(x:aJ):Prop where
 ok:Ok x.t
 good:Good x
 set:dC x fun _=>False
 fit:∀i,Fit (x.nd i)
theorem dC.ops{M:Int}{x:aJ}{l:List dH}(h:lV x)(hz:(aO M x l).2.2=0):dC (aO M x l).1 (Bj l):=
 (dC.all l h.ok h.set hz).mono fun _ hj=>hj.elim (fun e=>e.elim) id
theorem Rn{x:aJ}(h:Ok x.t):Ok (setSt x).1.t:=by rw[sU];exact h
theorem lV.apply{M:Int}{x:aJ}(h:lV x){l:List dH}(ho:∀o∈l,kK o):lV (bK M setSt x l).1:=by
 unfold bK;split
 ·exact h
 split
 ·exact h
 split
 ·exact h
 ·rename_i h1 h2 h3
  have hz:(setSt (aO M x l).1).2=0:=by simpa using h3
  refine⟨Rn (yx l h.ok),fun i=>?_,Bo hz,fun i=>?_⟩
  ·show((setSt (aO M x l).1).1.nd i).chk=0;rw[sV];exact nT l h.good i
  ·show Fit ((setSt (aO M x l).1).1.nd i);rw[sV];exact Am l ho h.fit i
theorem KF{M:Int}{x:aJ}{l:List dH}(ok:Ok x.t):(bK M setSt x l).1.t.length<=x.t.length+l.length∧((bK M setSt x l).1.t.length<=x.t.length∨(((bK M setSt x l).1.t.length+1:Nat):Int)<=M):=by
 unfold bK;split
 ·exact⟨Nat.le_add_right _ _,.inl nR⟩
 split
 ·exact⟨Nat.le_add_right _ _,.inl nR⟩
 split
 ·exact⟨Nat.le_add_right _ _,.inl nR⟩
 ·simp only;rw[sU];exact⟨Ak l ok,wo l ok⟩
theorem applied{w:World}{g b m:Nat}{s:Sh}{Z:ZZ}{x:aJ}(h:ak w g b m s Z x)(hx:lV x)(l:List iK)(A:Option Addr)(c:Nat)(ho:pY (af b m s x.t) w A l)(hok:∀q∈l,kK q.o)(hn:l.length<=1024->Room Z.2.2 x l.length)(hlen:l.length<=1000000) :
  Calls prog 22 #[.pointer (some ⟨g,0,none⟩),.slice A l.length c] w (wV g b m Z s x (bK Z.2.2 setSt x (l.map (·.o))) w):=by
 have hok':∀o∈l.map (·.o),kK o:=fun o ho'=>by
  obtain⟨q,h1,h2⟩:=List.mem_map.1 ho';rw[←h2];exact hok q h1
 refine Qh h l A c ho hok hx.fit hn hlen setSt (fun W s1 E hl hz hs hoA=>?_) (fun e=>Om e);have hr:=hn hl;exact Jh (Z:=⟨Z.1,Z.2,E⟩) hs (FY h.tree.ok (by rw[List.length_map];exact hr)) (nT _ hx.good) l A c hoA hok hl (dC.ops hx hz)
end
section
open Go.RowKit fG gm aF Go.Maps
section
variable {w:World}{g b m:Nat}{s:Sh}{Z:ZZ}{x:aJ}{g2 b2 m2:Nat}{s2:Sh}{Z2:ZZ}{y:aJ}
end
end
section
open Go.RowKit fG gm aF Go.Maps
def same(x y:aJ):Prop:=(∀q,kids x.t q=kids y.t q)∧∀i,has x.t i=true->eqN (x.nd i) (y.nd i)=true
section
variable {w:World}{g b m:Nat}{s:Sh}{Z:ZZ}{x:aJ}{g2 b2 m2:Nat}{s2:Sh}{Z2:ZZ}{y:aJ}
end
end
section
open Go.RowKit fG gm aF Go.Maps
def Lk.o:Lk:=⟨0,0,0,0,0,0,[]⟩
def dH.o:dH:=⟨0,0,0,0,Mp.o,Bx.o,false,0,Lk.o⟩
def aJ.new:aJ:=⟨[],fun _=>Nd.plain,fun _=>Mp.one⟩
theorem Xp:Fit { Nd.plain with lk:=Lk.o }:=⟨by decide,(by intro z hz;cases hz),by decide⟩
theorem aJ.zh:lV aJ.new:=⟨Jt,fun _=>vG,fun i hi _ _=>by
 have:i=0:=by
  rcases ah.1 hi with e|e
  ·exact e
  ·cases e
 subst this;rw[jQ]
 rfl,fun _=>vU⟩
end
section
open Go.RowKit fG gm aF Go.Maps
structure UC(w0:World)(g b m:Nat)(s:Sh)(Z:ZZ)(x:aJ)(w:World):Prop where
 at_:ak w g b m s Z x
 ft:∀k,af b m s x.t k->w0.heap.size<=k
 bel:bz w0 w
section
variable {w0 w w':World}{g b m:Nat}{s s':Sh}{Z:ZZ}{x x':aJ}
theorem UC.below(h:UC w0 g b m s Z x w)(hb:bz w w'):UC w0 g b m s Z x w':=⟨h.at_.below hb,h.ft,h.bel.trans (hb.mono h.bel.size)⟩
theorem UC.turn(h:UC w0 g b m s Z x w)(hs:ak w' g b m s' Z x')(ht:ae (af b m s x.t) (af b m s' x'.t) w w'):UC w0 g b m s' Z x' w':=
 ⟨hs,fun k hk=>by
  by_cases hlt:k<w0.heap.size
  ·exact absurd hk (ht.far k (Nat.lt_of_lt_of_le hlt h.bel.size) fun e=>by have:=h.ft k e;omega).1
  ·omega,h.bel.trans (ht.aQ h.bel.size h.ft)⟩
end
abbrev a1t:TypeId:=98
def oN(o:dH):iK:=⟨o,none,0⟩
theorem a0C(a b c:dH)(w:World):(Instr.buildSlice a1t 3 #[(0,.agg (a.cs none 0).toArray),(1,.agg (b.cs none 0).toArray),(2,.agg (c.cs none 0).toArray)]).run prog w=.ok (.slice (some ⟨w.heap.size,0,none⟩) 3 3) (w.alloc (.cells ([oN a,oN b,oN c].flatMap iK.cs).toArray 85)):=by kernel_rfl
theorem a0D(a b:dH)(w:World):(Instr.buildSlice a1t 2 #[(0,.agg (a.cs none 0).toArray),(1,.agg (b.cs none 0).toArray)]).run prog w=.ok (.slice (some ⟨w.heap.size,0,none⟩) 2 2) (w.alloc (.cells ([oN a,oN b].flatMap iK.cs).toArray 85)):=by kernel_rfl
theorem CO{w:World}{S:bF}(hS:∀k,S k->k<w.heap.size)(l:List iK)(hl:∀q∈l,q.o.lk.l=[]):pY S (w.alloc (.cells (l.flatMap iK.cs).toArray 85)) (some ⟨w.heap.size,0,none⟩) l:=
 ⟨jA (enc:=iK.cs) iK.bZ w l _ rfl,fun a e _ hk=>by
  obtain rfl:=Option.some.inj e;have:=hS _ hk
  simp at this,fun q hq=>⟨by rw[hl q hq];intro hn;exact absurd hn (by simp),fun _ _ hne=>absurd (hl q hq) hne⟩⟩
end
section
open Go.RowKit fG gm aF Go.Maps
abbrev DK:TypeId:=30
abbrev yO:TypeId:=28
structure oU(w:World)(A:Option Addr)(l:List Nat):Prop where
 row:Row eW w A l
 typ:∀a,A=some a->l≠[]->∃cs fz,w.heap[a.block]?=some (.cells cs 41 fz)
theorem oU.stays{w w':World}{A:Option Addr}{l:List Nat}(h:oU w A l)(hb:∀a,A=some a->l≠[]->w'.heap[a.block]?=w.heap[a.block]?):oU w' A l:=⟨Row.stays h.row hb,fun a ea hne=>by rw[hb a ea hne];exact h.typ a ea hne⟩
theorem oU.below{w w':World}{A:Option Addr}{l:List Nat}(h:oU w A l)(hb:bz w w'):oU w' A l:=h.stays fun _ ea hne=>hb.block _ (Row.lt h.row ea hne)
theorem oU.none_{w:World}{A:Option Addr}{l:List Nat}(h:l.length=0):oU w A l:=⟨Row.none_ h,fun _ _ hne=>absurd (List.eq_nil_of_length_eq_zero h) hne⟩
def wU(w:World)(v:Value)(n:Nd):Prop:=∃A c,v=n.v A c∧oU w A n.lk.l
theorem wU.below{w w':World}{v:Value}{n:Nd}(h:wU w v n)(hb:bz w w'):wU w' v n:=by
 obtain⟨A,c,e,hr⟩:=h;exact⟨A,c,e,hr.below hb⟩
structure dN(w:World)(m:Nat)(H:Int->Bool)(nd:Int->Nd):Prop where
 ex:∃es,VM w m es∧(∀i,omap.look es i≠none->H i=true)∧∀i,H i=true->∃v,omap.look es i=some v∧wU w v (nd i)
theorem dN.below{w w':World}{m:Nat}{H:Int->Bool}{nd:Int->Nd}(h:dN w m H nd)(hb:bz w w'):dN w' m H nd:=by
 obtain⟨es,h1,h2,h3⟩:=h.ex
 exact⟨es,h1.below hb,h2,fun i hi=>by
  obtain⟨v,e,hv⟩:=h3 i hi
  exact⟨v,e,hv.below hb⟩⟩
theorem dN.inside{w:World}{m:Nat}{H:Int->Bool}{nd:Int->Nd}(h:dN w m H nd):m<w.heap.size:=h.ex.elim fun _ h=>h.1.inside
theorem CS(i:Int)(v:Value)(j:Int):omap.look (omap.put lt i v []) j=if j=i then some v else none:=by
 show omap.look [(i,v)] j=_;rw[omap.dS];by_cases e:j=i
 ·rw[if_pos e,if_pos e.symm]
 ·rw[if_neg e,if_neg fun h=>e h.symm];rfl
def fC(w:World)(v:Value)(a b M:Int)(x:aJ):Prop:=∃tv m,v=.agg #[.int .i64 a,.int .i64 b,.int .i64 M,tv,.map (some m)]∧aP w tv x.t∧dN w m (has x.t) x.nd
theorem fC.below{w w':World}{v:Value}{a b M:Int}{x:aJ}(h:fC w v a b M x)(hb:bz w w'):fC w' v a b M x:=by
 obtain⟨tv,m,e,h1,h2⟩:=h;exact⟨tv,m,e,h1.below hb,h2.below hb⟩
theorem P9(w:World):(Instr.build 37 #[(0,.int .i64 65536),(1,.int .i64 0),(2,.int .i64 0),(3,.int .i64 65536),(4,.int .i64 0),(5,.int .i64 0)]).run prog w=.ok (.agg Mp.one.cs.toArray) w:=by kernel_rfl
theorem P8(w:World):(Instr.build 46 #[(0,.agg Mp.one.cs.toArray),(1,.int .i64 255)]).run prog w=.ok (.agg (Nd.plain.cs none 0).toArray) w:=by kernel_rfl
theorem Qb(a b M:Int)(A:Option Addr)(n c m:Nat)(w:World):(Instr.build DK #[(0,.int .i64 a),(1,.int .i64 b),(2,.int .i64 M),(3,.slice A n c),(4,.map (some m))]).run prog w=.ok (.agg (Vb a b M A n c m).toArray) w:=by kernel_rfl
theorem Gv(w:World):(Instr.makeMap yO none).run prog w=.ok (.map (some w.heap.size)) (w.alloc (.map #[] 0)):=rfl
theorem zW(w:World):Calls prog 53 #[] w (aZ (.agg (Nd.plain.cs none 0).toArray) w):=by
 go_enter func53,ntmps53;have HZ:Hid (az (w.alloc (.cells Va.toArray 46)) w.heap.size Va):=aA w Va _;have HB:Hid (bz w (w.alloc (.cells Va.toArray 46))):=bR.alloc nR _
 go_wp2_with (first|(with_reducible refine gU ?_;refine dQ _ _ rfl rfl (by simp[go_sem]) (P9 _) ?_)|(with_reducible refine gU ?_;refine dQ _ _ rfl rfl (by simp[go_sem]) (P8 _) ?_)|(first|(with_reducible refine gS ?_;first|(refine ay 46 _ _ rfl rfl rfl _ 0 rfl (Nd.plain.cs none 0) rfl (Va) HZ.o (Nd.plain.cs none 0) rfl (nE rfl) ag (Nd.one _ _ _) ?_;intro w1 HW1 og))));exact bJ rfl rfl og.o underlying46 rfl ag ⟨rfl,HW1.o.below HB.o nR⟩
theorem TU(a b M:Int)(w:World):Calls prog 25 (Vq a b M).toArray w fun e w'=>∃v,e=.returned v∧fC w' v a b M aJ.new∧bz w w':=by
 go_enter func25,ntmps25
 go_upto_region 1 with(fail)
 have HZ:Hid (az (w.alloc (.cells Vf.toArray 30)) w.heap.size Vf):=aA w Vf _;have HB:Hid (bz w (w.alloc (.cells Vf.toArray 30))):=bR.alloc nR _;generalize (w.alloc (.cells Vf.toArray 30))=w0 at*;have hmk:=Gv w0;have hm1:VM (w0.alloc (.map #[] 0)) w0.heap.size []:=VM.made w0;have hb1:Below w0.heap.size w0 (w0.alloc (.map #[] 0)):=bR.alloc nR _;have HB1:Hid (bz w (w0.alloc (.map #[] 0))):=HB.o.trans (hb1.mono HB.o.size);have HZ1:=Hd (HZ.o.below' hb1);have E5:=Hd hm1
 have xO:Hid (w.heap.size<w0.heap.size):=HZ.o.inside;clear hm1 hb1;go_wp2_with (fail);refine(zW _).mono ?_;rintro e w2 ⟨rfl,hb2⟩;have Ll:=Hd (E5.o.below hb2);have HZ2:=Hd (HZ1.o.below' hb2);have HB2:=Hd (HB1.o.trans (hb2.mono HB1.o.size));clear hb2 E5 HZ1 HB1 hmk;generalize (w0.alloc (.map #[] 0))=w1 at*
 obtain⟨k1,hk1⟩:=aC w0.heap.size
 rw[hk1]at Ll xO ⊢;clear hk1;obtain⟨w3,hrun,Tq,hg3⟩:=Ll.o.store (t:=yO) (E:=46) underlying28 (i:=0) ⟨by decide,by decide⟩ (.agg (Nd.plain.cs none 0).toArray) (by decide);have sK:=Hd Tq;have HB3:Hid (bz w w3):=HB2.o.grown hg3 HB2.o.size fun k hk=>by cases hk;exact Nat.le_of_lt xO.o
 have HZ3:Hid (az w3 w.heap.size Vf):=HZ2.o.stays (hg3.block _ HZ2.o.inside (fun e=>by cases e;exact Nat.lt_irrefl _ xO.o));clear Tq hg3 Ll HZ2 HB2
 go_wp2_with (first|(with_reducible refine gU ?_;refine dQ _ _ rfl rfl (by simp[go_sem]) (Qb a b M _ _ _ _ _) ?_)|(first|(with_reducible refine gS ?_;first|(refine ay 30 _ _ rfl rfl rfl _ 0 rfl ([.int .i64 a,.int .i64 b,.int .i64 M,.slice none 0 0,.map (some k1)]) rfl (Vf) HZ3.o ([.int .i64 a,.int .i64 b,.int .i64 M,.slice none 0 0,.map (some k1)]) rfl (nE rfl) ag rfl ?_;intro w4 xC nZ))))
 refine bJ rfl rfl nZ.o underlying30 rfl ag ⟨_,rfl,⟨.slice none 0 0,k1,rfl,⟨none,0,rfl,aV.none_ rfl,fun _ e=>nomatch e⟩,⟨_,sK.o.stays (xC.o.far (Nat.ne_of_gt xO.o)),fun i hi=>?_,fun i hi=>?_⟩⟩,xC.o.below HB3.o nR⟩
 ·have h1:=CS 0 (.agg (Nd.plain.cs none 0).toArray) i;rw[h1]at hi;by_cases e:i=0
  ·rw[e];rfl
  ·rw[if_neg e]at hi;exact absurd rfl hi
 ·have e:i=0:=by
   rcases ah.1 hi with e|e
   ·exact e
   ·cases e
  exact⟨(aJ.new.nd i).v none 0,by rw[CS,if_pos e];rfl,none,0,rfl,oU.none_ rfl⟩
end
end Go.Proofs.YthmegninhpihkaaGreat
