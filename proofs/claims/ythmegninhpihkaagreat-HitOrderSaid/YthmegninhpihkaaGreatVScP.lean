import Derived.Test.YthmegninhpihkaaGreatVScq
set_option maxHeartbeats 16000000
set_option maxRecDepth 100000
open Go.Proofs.Tryz
namespace Go.Proofs.YthmegninhpihkaaGreat
section
open Go.RowKit fG gm aF Go.Maps
structure KY(q:Nat)(A W:World):Prop where
 os:W.os=A.os
 tape:W.tape=A.tape
 output:W.output=A.output
 size:A.heap.size<=W.heap.size
 same:∀k,k<A.heap.size->k≠q->W.heap[k]?=A.heap[k]?
section
variable {q:Nat}{A W W':World}
theorem KY.refl(q:Nat)(A:World):KY q A A:=⟨rfl,rfl,rfl,nR,fun _ _ _=>rfl⟩
theorem KY.below(h:KY q A W)(hb:Below A.heap.size W W'):KY q A W':=⟨hb.os.trans h.os,hb.tape.trans h.tape,hb.output.trans h.output,Nat.le_trans h.size hb.size,fun k hk hn=>(hb.block k hk).trans (h.same k hk hn)⟩
theorem KY.trans{B C:World}(h:KY q A B)(k:KY q B C):KY q A C:=
 ⟨k.os.trans h.os,k.tape.trans h.tape,k.output.trans h.output,Nat.le_trans h.size k.size,fun j hj hn=>(k.same j (Nat.lt_of_lt_of_le hj h.size) hn).trans (h.same j hj hn)⟩
theorem KY.wrote(h:Wrote q W W'):KY q W W':=by
 have h1:=h.size;obtain⟨o,l,rfl⟩:=h
 have h2:∀(l:List Value) (o:Nat) (w:World),(dX q w o l).os=w.os∧(dX q w o l).tape=w.tape∧(dX q w o l).output=w.output:=by
  intro l
  induction l with
  |nil=>exact fun _ _=>⟨rfl,rfl,rfl⟩
  |cons v l ih=>exact fun o w=>ih (o+1) (w.setCell ⟨q,o,none⟩ v)
 obtain⟨e1,e2,e3⟩:=h2 l o W;exact⟨e1,e2,e3,Nat.le_of_eq h1.symm,fun k _ hn=>rJ hn l o W⟩
theorem KY.aQ{n:Nat}(h:KY q A W)(hn:n<=q)(hs:n<=A.heap.size):Below n A W:=⟨h.os,h.tape,h.output,h.size,fun k hk=>h.same k (by omega) (by omega)⟩
end
structure JV(g:Nat)(c0 c1:List Value)(d:Bool)(w:World):Prop where
 blk:az w g (bif d then c1 else c0)
theorem JV.below{g:Nat}{c0 c1:List Value}{d:Bool}{w w':World}(h:JV g c0 c1 d w)(hb:bz w w'):JV g c0 c1 d w':=⟨h.blk.below' hb⟩
theorem JL{l:List Int}{i:Int}{k:Nat}(hlt:k<l.length)(h:i∉l.take k)(e:i=l[k]):idx l i=(k:Nat):=by
 have hm:i∈l:=by rw[e];exact List.getElem_mem hlt
 unfold idx;rw[if_pos hm,zy hlt h e.symm]
theorem O9(A:Option Addr)(l:List Int)(c:Nat)(y:Int)(w:World)(hr:Row eI w A l)(hn:l.length<=100000) :
  Calls prog 137 #[.slice A l.length c,.int .i64 y] w (aZ (.int .i64 (idx l y)) w):=by
 have HR:=Hd hr;have HN:=Hd hn;clear hr hn;go_enter func137,ntmps137;go_wp2_with (fail)
 go_loopw [8] (fun x wr=>∃k:Nat,k<=l.length∧x=.int .i64 k∧Hid (y∉l.take k)∧Hid (bz w wr)) (fun x _=>l.length - (intOf x).toNat)
 case atStart=>exact⟨0,Nat.zero_le _,rfl,by show _∉_;simp,bR⟩
 case round=>
  obtain⟨k,hk,rfl,HK,HB⟩:=hrel;by_cases hlt:k<l.length
  ·have t1:decide (k<l.length)=true:=by simpa using hlt
   obtain⟨g,o,rfl,k1⟩:=(Row.below HR.o HB.o).at_ hlt;have hkb:(k:Int)<=100000:=by have:=HN.o;omega
   have HS:Hid (y≠l[k]->y∉l.take (k+1)):=fun e=>by
    rw[List.take_succ_eq_append_getElem hlt,List.mem_append,List.mem_singleton];rintro(h|h)
    ·exact HK.o h
    ·exact e h
   have HT:Hid (y=l[k]->idx l y=(k:Nat)):=fun e=>JL hlt HK.o e;unfold eI at k1;generalize l[k]=z at*;clear HK;by_cases e:y=z
   ·have t2:(y==z)=true:=by simpa using e
    have HT2:=Hd (HT.o e);clear HS HT e;go_wp2_with (fail);go_ret;exact⟨aB HT2.o.symm,HB.o⟩
   ·have t2:(y==z)=false:=by simpa using e
    have HS2:=Hd (HS.o e);clear HS HT e;go_wp2_with (fail)
    go_roundw
    case rel=>exact⟨k+1,by omega,by go_num,HS2,HB⟩
    case measure=>simp[intOf];omega
  ·obtain rfl:k=l.length:=by omega
   have t1:decide (l.length<l.length)=false:=by simp
   have HE:Hid (idx l y=-1):=by
    have:=HK.o;rw[List.take_length]at this;exact if_neg this
   clear HK;go_wp2_with (fail);go_ret;exact⟨aB HE.o.symm,HB.o⟩
def sS(i p k:Int)(n:Nd)(A:Option Addr)(c:Nat)(u:Mp):List Value:=[.int .i64 i,.int .i64 p,.int .i64 k,.int .i64 n.m.a,.int .i64 n.m.b,.int .i64 n.m.c,.int .i64 n.m.d,.int .i64 n.m.e,.int .i64 n.m.f,.int .i64 n.op,.bool n.hi,.bool n.cl,.int .i64 n.r.a,.int .i64 n.r.b,.int .i64 n.r.c,.int .i64 n.r.d,
 .int .i64 n.lk.k,.int .i64 n.lk.W,.int .i64 n.lk.H,.int .u32 (n.lk.p:Nat),.int .i64 n.lk.iw,.int .i64 n.lk.ih,.slice A n.lk.l.length c,.int .i64 u.a,.int .i64 u.b,.int .i64 u.c,.int .i64 u.d,.int .i64 u.e,.int .i64 u.f]
theorem yQ(i p k:Int)(n:Nd)(A:Option Addr)(c:Nat)(u:Mp):(sS i p k n A c u).all (·.oneCell')=true:=rfl
theorem Ah(i p k:Int)(n:Nd)(A:Option Addr)(c:Nat)(u:Mp)(w:World):(Instr.build 246 #[(0,.int .i64 i),(1,.int .i64 p),(2,.int .i64 k),(3,.agg (dZ n A c u).toArray)]).run prog w=.ok (.agg (sS i p k n A c u).toArray) w:=by kernel_rfl
def Nd.zero:Nd:=⟨⟨0,0,0,0,0,0⟩,0,false,false,⟨0,0,0,0⟩,⟨0,0,0,0,0,0,[]⟩⟩
def gX(x:aJ)(i:Int):Nd:=if has x.t i=true then x.nd i else Nd.zero
def fZ(x:aJ)(i:Int):Mp:=if has x.t i=true then x.ws i else Mp.o
theorem oH(v y:Value)(w:World):(invoke (.fn (.method "Parent") #[]) #[.iface 88 v,y]).run prog w=.ok (.enter 189 #[v,y]) w:=by kernel_rfl
theorem ug(v y:Value)(w:World):(invoke (.fn (.method "Kids") #[]) #[.iface 88 v,y]).run prog w=.ok (.enter 187 #[v,y]) w:=by kernel_rfl
theorem yh(v y:Value)(w:World):(invoke (.fn (.method "Has") #[]) #[.iface 88 v,y]).run prog w=.ok (.enter 186 #[v,y]) w:=by kernel_rfl
theorem DX{t:T}(ok:Ok t)(i:Int):I64 (par t i):=by
 by_cases h:i∈ids t
 ·rcases ok.fQ h with e|e
  ·rw[e];constructor<;>omega
  ·obtain⟨p,hp⟩:=bg.1 e;have:=ok.Rw _ hp;simp only at this;constructor<;>omega
 ·rw[par_none h];constructor<;>omega
theorem mX{t:T}(ok:Ok t){i:Int}(h:has t i=true):I64 i:=by
 rcases ah.1 h with e|e
 ·rw[e];constructor<;>omega
 ·obtain⟨p,hp⟩:=bg.1 e;have:=ok.Rw _ hp;simp only at this;constructor<;>omega
section
variable {w w':World}{g b m:Nat}{s:Sh}{Z:ZZ}{x:aJ}
theorem ak.zo(h:ak w g b m s Z x){i:Int}(hi:I64 i):∃A c,∀W,bz w W->(Instr.lookup eY (.map (some m)) (.int .i64 i) false).run prog W=.ok (.agg (dZ (gX x i) A c (fZ x i)).toArray) W∧dD Z.3 (af b m s x.t) W (gX x i) A:=by
 by_cases hh:has x.t i=true
 ·obtain⟨A,c,hl⟩:=h.zn hi hh;have e1:gX x i=x.nd i:=if_pos hh;have e2:fZ x i=x.ws i:=if_pos hh;rw[e1,e2];exact⟨A,c,fun W hb=>⟨(hl W hb).1,(hl W hb).2.2⟩⟩
 ·have e1:gX x i=Nd.zero:=if_neg hh;have e2:fZ x i=Mp.o:=if_neg hh;rw[e1,e2];exact⟨none,0,fun W hb=>⟨((h.below hb).fB hi hh).1,pG rfl _,fun a e=>(nomatch e),fun a e=>(nomatch e)⟩⟩
def NI(E S:bF)(x:aJ)(i:Int)(w:World)(e:Ending)(w':World):Prop:=∃A c,e=.returned (.agg (sS i (par x.t i) (idx (kids x.t (par x.t i)) i) (gX x i) A c (fZ x i)).toArray)∧dD E S w (gX x i) A∧bz w w'
def a3G(q:Nat)(l:List Int):regs.kW (KY q):=⟨fun x w=>∃A c,x=.slice A l.length c∧Row eI w A l∧∀a,A=some a->l≠[]->a.block≠q,fun x w w' h hk=>by
 obtain⟨A,c,e,hr,hq⟩:=h;refine⟨A,c,e,fun hn=>?_,hq⟩;obtain⟨b,o,ea,hc⟩:=hr hn;have hne:l≠[]:=fun e=>by rw[e]at hn;exact absurd hn (by simp)
 refine⟨b,o,ea,fun j hj=>?_⟩;have h1:=hc j hj;rw[←h1];unfold World.cell?
 rw[hk.same b (World.block_lt_of_cell? w ⟨b,_,none⟩ h1) (hq _ ea hne)]⟩
theorem FQ(h:ak w g b m s Z x)(hn:x.t.length<=1000)(ci:Int)(hi:I64 ci) :
  Calls prog 121 #[.pointer (some ⟨g,0,none⟩),.int .i64 ci] w (NI Z.3 (af b m s x.t) x ci w):=by
 have hb0:bz w (w.alloc (.cells Ve.toArray 246)):=bR.alloc nR _;have HB0:=Hd hb0;have uP:=Hd (h.below hb0);have HI:=Hd hi;have HZ:Hid (az (w.alloc (.cells Ve.toArray 246)) w.heap.size Ve):=aA w Ve _;have iL:Hid (w.heap.size<(w.alloc (.cells Ve.toArray 246)).heap.size):=by show _<_;simp
 have HN:=Hd hn;obtain⟨A,c,hlk⟩:=h.zo hi
 obtain⟨n,hnd⟩:=aC (gX x ci)
 obtain⟨u,hws⟩:=aC (fZ x ci)
 rw[hnd,hws]at hlk;have HL:=Hd hlk
 obtain⟨p,hp⟩:=aC (par x.t ci)
 have HP:=Hd hp;have X3:Hid (I64 p):=by rw[←hp];exact DX h.tree.ok ci
 have xO:Hid ((kids x.t p).length<=100000):=by show _<=_;have:=gy x.t p;omega
 have HS:=Hd h;unfold NI;rw[hp,hnd,hws];clear h hn hi hlk hp hb0 hnd hws;have Le:=Hd (xY uP.o.tree ci HI.o);rw[HP.o]at Le;obtain⟨c0,-,-,-,-,-⟩:=uP.o.top.1;have i0:=uP.o.top.2;have hinv:=oH (.pointer (some ⟨b,0,none⟩));go_enter func121,ntmps121;go_wp2_with (fail);refine Le.o.mono ?_;rintro e w2 ⟨rfl,hb2⟩;generalize (w.alloc (.cells Ve.toArray 246))=wz at*;have HB2:=Hd (HB0.o.trans (hb2.mono HB0.o.size))
 have AY:Hid (JV w.heap.size Ve (sS ci p (idx (kids x.t p) ci) n A c u) false w2):=⟨HZ.o.below' hb2⟩
 have gQ:Hid (w.heap.size<w2.heap.size):=Nat.lt_of_lt_of_le iL.o hb2.size;clear hb2 Le HZ iL hinv c0 i0 uP;have FB:Hid (∀W,KY w.heap.size w2 W->bz w W):=fun W hk=>HB2.o.trans (hk.aQ nR HB2.o.size);have FS:Hid (∀W,KY w.heap.size w2 W->ak W g b m s Z x):=fun W hk=>HS.o.below (FB.o W hk);have FL:Hid (∀W,KY w.heap.size w2 W->(Instr.lookup eY (.map (some m)) (.int .i64 ci) false).run prog W=.ok (.agg (dZ n A c u).toArray) W∧dD Z.3 (af b m s x.t) W n A):=fun W hk=>HL.o W (FB.o W hk)
 have HK:Hid (∀W,KY w.heap.size w2 W->Calls prog 187 #[.pointer (some ⟨b,0,none⟩),.int .i64 p] W fun e w'=>∃A9 c9,e=.returned (.slice A9 (kids x.t p).length c9)∧Row eI w' A9 (kids x.t p)∧(∀a,A9=some a->kids x.t p≠[]->a.block≠w.heap.size)∧bz W w'):=fun W hk=>by
  refine(LW (FS.o W hk).tree (by have:=HN.o;omega) p X3.o).mono ?_;rintro e w' ⟨v,rfl,ho,hb⟩;obtain⟨A9,c9,rfl,-,-,hr⟩:=aU.lM ho;refine⟨A9,c9,rfl,hr,fun a ea _ e=>?_,hb⟩;have h1:=(ax.block ho (show(Value.slice A9 (kids x.t p).length c9).ownBlock=some a.block by rw[ea];rfl)).1;have:=gQ.o;have:=hk.size;omega
 go_upto_region 2 with(fail)
 refine wR (KY w.heap.size) (fun L wx=>JV w.heap.size Ve (sS ci p (idx (kids x.t p) ci) n A c u) (L 17) wx) [12,13,14,15,16,17,18,19,20,21,22,23,24,25,26,27,28] (fun _=>KY.refl _ _) (fun _ _ _ h k=>h.trans k) (fun i=>match i with
  |0=>rV (.int .i64 ci)
  |1|6=>rV (.int .i64 p)
  |2|3|4=>rp g 0
  |5=>rV (.iface 88 (.pointer (some ⟨b,0,none⟩)))
  |7=>a3G w.heap.size (kids x.t p)
  |8|14=>rV (.int .i64 ci)
  |9=>rV (.int .i64 (idx (kids x.t p) ci))
  |10|11=>rp g 0
  |12=>rp g 5
  |13=>rV (.map (some m))
  |15=>rV (.agg (dZ n A c u).toArray)
  |16=>rV (.agg (sS ci p (idx (kids x.t p) ci) n A c u).toArray)
  |_=>ra) ((KY.refl _ _).below bR.drew) (AY.o.below bR.drew) ⟨?_,?_,?_,?_,?_,?_,?_,?_,?_,?_,?_,?_,?_,?_,?_,?_,?_,?_,trivial⟩ ?_
 any_goals (first|refine zp fun L a w1 hh=>?_|fail)
 have h1:=hh.o 1 (v:=.int .i64 ci) rfl;rotate_left;have h5:=hh.o 5 (v:=.int .i64 p) rfl;rotate_left;have h0:=hh.p 0 g 0;rotate_left;have xI:=rq (hh.d 2 14);rotate_left;have h15:=rq (hh.d 3 15);have i0:=((FS.o _ hh.rel).blk.blk).inside;rotate_left;have h16:=rq (hh.d 4 16);have ⟨c0,i0⟩:=((FS.o _ hh.rel).blk.blk).ci 0 rfl;rotate_left;have h5:=hh.o 5 (v:=.int .i64 p) rfl;rotate_left
 ·have h17:=rq (hh.d 5 17);have h18:=rq (hh.d 6 18);have hinv:=ug (.pointer (some ⟨b,0,none⟩));have hC:=Hd (HK.o _ hh.rel);have hJ:=hh.j;clear hh;go_simp;refine hC.o.mono ?_;rintro e w9 ⟨A9,c9,rfl,QF,QG,bD⟩;exact⟨_,rfl,(KY.refl _ _).below bD,⟨A9,c9,rfl,QF,QG⟩,hJ.o.below bD⟩
 have h1:=hh.o 1 (v:=.int .i64 ci) rfl;rotate_left
 ·have h20:=rq (hh.d 8 20);obtain⟨A9,c9,e9,QF,-⟩:=hh.d 7 19;have h19:a.tmps[19]?.getD undef=.slice A9 (kids x.t p).length c9:=rq (e9);clear e9;have hC:=Hd (O9 A9 (kids x.t p) c9 ci w1 QF xO.o);clear QF;have hJ:=hh.j;clear hh;go_simp;refine hC.o.mono ?_;rintro e w9 ⟨rfl,bD⟩;exact⟨_,rfl,(KY.refl _ _).below bD,rfl,hJ.o.below bD⟩
 have h0:=hh.p 0 g 0;rotate_left;have h22:=rq (hh.d 10 22);rotate_left;have h23:=rq (hh.d 11 23);have i0:=((FS.o _ hh.rel).blk.blk).inside;rotate_left;have CX:=rq (hh.d 12 24);have ⟨c0,i0⟩:=((FS.o _ hh.rel).blk.blk).ci 5 rfl;rotate_left;have h1:=hh.o 1 (v:=.int .i64 ci) rfl;rotate_left;have pO:=rq (hh.d 13 25);have IX:=rq (hh.d 14 26);have hlk:=(FL.o _ hh.rel).1;rotate_left
 ·have h12:=rq (hh.d 0 12);have h13:=rq (hh.d 1 13);have h21:=rq (hh.d 9 21);have h27:=rq (hh.d 15 27);have hJ:=Hd hh.st;exact wp_build _ _ rfl (by simp[go_sem,h12,h13,h21,h27]) (Ah ci p _ n A c u w1) ⟨_,rfl,KY.refl _ _,rfl,hJ.o⟩
 ·have h4:=hh.p 4 w.heap.size 0;have h28:=rq (hh.d 16 28);have gK:=hh.st.blk;rw[hh.un]at gK;refine dn 246 _ _ rfl w.heap.size 0 (by simpa[go_sem]using h4) (sS ci p (idx (kids x.t p) ci) n A c u) (by simpa[go_sem]using h28) _ gK (nE rfl) ag (by rfl) ?_;intro w9 ng BD;exact⟨undef,rfl,KY.wrote ng,trivial,⟨BD⟩⟩
 any_goals (have hJ:=hh.j;clear hh;go_simp;exact⟨_,rfl,KY.refl _ _,rfl,hJ.o⟩)
 intro L w3 val hL hJ hR hv;have HR3:=Hd hR;have uI:=Hd hJ;rw[hL 17 (by decide)]at uI;clear hv hL hJ hR;simp only[regs.aG,List.map_cons,List.map_nil];simp only[Act.put,List.setIfInBounds_toArray,List.set_cons_zero,List.set_cons_succ]
 skip
 go_wp2_with (fail);exact bJ rfl rfl uI.o.blk underlying246 rfl ag ⟨A,c,rfl,(HL.o _ bR).2,FB.o _ HR3.o⟩
theorem SC{t:T}{i p n:Int}(h:(jT t i p n).2≠0):(jT t i p n).1=t:=by
 unfold jT at h ⊢;by_cases h1:i=0
 ·rw[if_pos h1]
 rw[if_neg h1]at h ⊢;by_cases h2:has t i=false
 ·rw[if_pos h2]
 rw[if_neg h2]at h ⊢;by_cases h3:has t p=false
 ·rw[if_pos h3]
 rw[if_neg h3]at h ⊢;by_cases h4:p=i∨within t p i=true
 ·rw[if_pos h4]
 rw[if_neg h4]at h ⊢;by_cases h5:n<0∨(((kids t p).filter fun k=>decide (k≠i)).length:Int)<n
 ·rw[if_pos h5]
 rw[if_neg h5]at h;exact absurd rfl h
theorem zk{t:T}{i p n:Int}(h:(jT t i p n).2=0):(jT t i p n).1=aF.move i p n.toNat t∧i∈ids t∧n.toNat<=((kids t p).filter fun k=>decide (k≠i)).length:=by
 unfold jT at h ⊢;by_cases h1:i=0
 ·rw[if_pos h1]at h;cases h
 rw[if_neg h1]at h ⊢;by_cases h2:has t i=false
 ·rw[if_pos h2]at h;cases h
 rw[if_neg h2]at h ⊢;by_cases h3:has t p=false
 ·rw[if_pos h3]at h;cases h
 rw[if_neg h3]at h ⊢;by_cases h4:p=i∨within t p i=true
 ·rw[if_pos h4]at h;cases h
 rw[if_neg h4]at h ⊢;by_cases h5:n<0∨(((kids t p).filter fun k=>decide (k≠i)).length:Int)<n
 ·rw[if_pos h5]at h;cases h
 rw[if_neg h5];exact⟨rfl,(ah.1 (by simpa using h2)).resolve_left h1,by omega⟩
def lK(x:aJ)(i p n:Int):aJ×Int:=if (jT x.t i p n).2≠0 then (x,(jT x.t i p n).2) else (⟨(jT x.t i p n).1,x.nd,x.ws⟩,0)
theorem SB{t t':T}{i p n:Int}(ok:Ok t)(h:jT t i p n=(t',0)):i∈ids t∧(∀j,has t' j=true↔has t j=true)∧∃t2,jT t' i (par t i) (idx (kids t (par t i)) i)=(t2,0)∧∀q,kids t2 q=kids t q:=by
 have hy:=zk (t:=t) (i:=i) (p:=p) (n:=n) (by rw[h]);rw[h]at hy;obtain⟨h1,h2,h3⟩:=hy;simp only at h1;have hok:Ok t':=by have:=(qE ok i p n).1;rw[h]at this;exact this
 subst h1;have hk:=jH h2;have hlt:(kids t (par t i)).idxOf i<(kids t (par t i)).length:=List.idxOf_lt_length_of_mem hk;have he:(kids t (par t i))[(kids t (par t i)).idxOf i]=i:=List.getElem_idxOf hlt;have hb:=OQ ok h2 h3 hlt he hok;refine⟨h2,fun j=>?_,_,?_,hb.2⟩
 ·rw[ah,ah,iJ h2]
 ·unfold idx;rw[if_pos hk];exact hb.1
theorem Ej:Enters prog 123:=enters_of func123 ag rfl
theorem OO(h:ak w g b m s Z x)(hn:x.t.length<=1000){kb ki kp:Nat}{ci p q:Int}{n:Nd}{A:Option Addr}{c:Nat}{u:Mp}{t2:T}(hb:az w kb [.pointer (some ⟨g,0,none⟩)])(hc:az w ki [.int .i64 ci])(hpb:az w kp (sS ci p q n A c u))(h1:¬af b m s x.t kb)(h2:¬af b m s x.t ki)(h3:¬af b m s x.t kp)(hi:I64 ci)(hp:I64 p)(hmv:jT x.t ci p q=(t2,0)) :
  Calls prog 123 (Vt kb ki kp).toArray w fun e w'=>(∃r,e=.returned r)∧∃s',gY w' g b m s' Z t2 (fun j=>has x.t j=true) x.nd x.ws∧ae (af b m s x.t) (af b m s' t2) w w':=by
 have HMV:=Hd hmv;have HS:=Hd h;have HN:=Hd hn;have HB:=Hd hb;have HC:=Hd hc;have BL:=Hd hpb;have sJ:=Hd h1;have EY:=Hd h2;have IC:=Hd h3;have wQ:=Hd h.blk;have wK:=Hd h.jh;have HI:=Hd hi;have HP:=Hd hp;clear h hn hb hc hpb h1 h2 h3 hi hp hmv;go_enter func123,ntmps123
 go_upto_region 0 with(fail)
 refine wR (ae (af b m s x.t) (af b m s x.t)) (fun L wx=>Qm w g b m s Z x.t (fun i=>has x.t i=true) x.nd x.ws t2 (L 9) wx) [3,4,5,6,7,8,9,10,11,12] (fun _=>ae.refl _ _) (fun _ _ _ h k=>h.trans k) (fun i=>match i with
  |0|1=>rp g 0
  |2=>rp g 1
  |3=>rp b 0
  |4=>rV (.int .i64 ci)
  |5=>rp kp 1
  |6=>rV (.int .i64 p)
  |7=>rp kp 2
  |8=>rV (.int .i64 q)
  |_=>ra) (ae.below bR.drew) (⟨fun _=>HS.o.mid.below bR.drew,nofun⟩) ⟨?_,?_,?_,?_,?_,?_,?_,?_,?_,?_,trivial⟩ ?_
 any_goals (first|refine zp fun L a w1 hh=>?_|fail)
 have h0:=hh.p 0 kb 0;have ⟨c0,i0⟩:=(HB.o.off sJ.o hh.rel).ci 0 rfl;rotate_left;have h3:=rq (hh.d 0 3);rotate_left;have h4:=rq (hh.d 1 4);have i0:=((au.off wQ.o wK.o hh.rel).blk).inside;rotate_left;have h5:=rq (hh.d 2 5);have ⟨c0,i0⟩:=((au.off wQ.o wK.o hh.rel).blk).ci 1 rfl;rotate_left;have h1:=hh.p 1 ki 0;have ⟨c0,i0⟩:=(HC.o.off EY.o hh.rel).ci 0 rfl;rotate_left;have h2:=hh.p 2 kp 0;have i0:=(BL.o.off IC.o hh.rel).inside;rotate_left;have h8:=rq (hh.d 5 8);have ⟨c0,i0⟩:=(BL.o.off IC.o hh.rel).ci 1 rfl;rotate_left;have h2:=hh.p 2 kp 0
 have i0:=(BL.o.off IC.o hh.rel).inside;rotate_left;have h10:=rq (hh.d 7 10);have ⟨c0,i0⟩:=(BL.o.off IC.o hh.rel).ci 2 rfl;rotate_left
 ·have h6:=rq (hh.d 3 6);have h7:=rq (hh.d 4 7);have h9:=rq (hh.d 6 9);have h11:=rq (hh.d 8 11);have hS:=Hd (hh.st.no hh.un);have hR:=Hd (show ae (af b m s x.t) (af b m s x.t) w w1 from hh.rel);have hB:=Hd (show ∀wq,regs.bl w1 wq->True from fun _ _=>trivial);clear hh hB;go_simp;refine(YF hS.o.tree HN.o ci p q HI.o HP.o).mono ?_;rw[HMV.o];rintro e w9 ⟨s9,rfl,lu,QE⟩;have hm:=hS.o.step lu QE;exact⟨_,rfl,hm.2.wide (fun _ k=>k),trivial,⟨nofun,fun _=>⟨_,hm.1,hR.o.trans hm.2⟩⟩⟩
 any_goals (have hJ:=hh.j;clear hh;go_simp;exact⟨_,rfl,ae.refl _ _,rfl,hJ.o⟩)
 intro L w4 val hL hJ hR hv;have HR4:=Hd hR;obtain⟨s5,xn,GK⟩:=hJ.yes (hL 9 (by decide));have gZ:=Hd xn;have HT4:=Hd GK;clear hv hL hJ hR xn GK;simp only[regs.aG,List.map_cons,List.map_nil];simp only[Act.put,List.setIfInBounds_toArray,List.set_cons_zero,List.set_cons_succ]
 skip
 go_wp2_with (fail)
 go_end0
 exact⟨⟨_,rfl⟩,s5,gZ.o,HT4.o⟩
theorem move_any(h:ak w g b m s Z x)(hn:x.t.length<=900)(ci cp cn:Int)(hi:I64 ci)(hp:I64 cp) :
  Calls prog 97 (Vs g ci cp cn).toArray w (VX g b m Z s x (lK x ci cp cn) w):=by
 have hb0:bz w ((w.alloc (.cells #[.pointer (some ⟨g,0,none⟩)] 25)).alloc (.cells #[.int .i64 ci] 3)):=(bR.alloc nR _).alloc (by simp) _;have HB0:=Hd hb0;have HB1:Hid (az ((w.alloc (.cells #[.pointer (some ⟨g,0,none⟩)] 25)).alloc (.cells #[.int .i64 ci] 3)) w.heap.size [.pointer (some ⟨g,0,none⟩)]):=(aA w [.pointer (some ⟨g,0,none⟩)] _).alloc _;have HC1:Hid (az ((w.alloc (.cells #[.pointer (some ⟨g,0,none⟩)] 25)).alloc (.cells #[.int .i64 ci] 3)) (w.heap.size+1) [.int .i64 ci]):=aY (w.alloc _) _ (by simp) [.int .i64 ci] _
 have uP:Hid (ak ((w.alloc (.cells #[.pointer (some ⟨g,0,none⟩)] 25)).alloc (.cells #[.int .i64 ci] 3)) g b m s Z x):=h.below hb0;have kG:Hid (∀k,af b m s x.t k->k<w.heap.size):=h.inside;have IA:Hid (∀k,Z.3 k->k<w.heap.size):=fun k hk=>(h.old k hk).1;have dY:=Hd h.tree.ok;have HN:Hid (x.t.length<=1000):=by show _<=_;omega
 have iL:Hid (((w.alloc (.cells #[.pointer (some ⟨g,0,none⟩)] 25)).alloc (.cells #[.int .i64 ci] 3)).heap.size=w.heap.size+2):=by show _=_;simp
 have HI:=Hd hi;have HP:=Hd hp
 obtain⟨R,hR⟩:=aC (lK x ci cp cn)
 obtain⟨⟨t1,e0⟩,hmv⟩:∃r,jT x.t ci cp cn=r:=⟨_,rfl⟩
 have HMV:=Hd hmv
 have HR:Hid (R=if e0≠0 then (x,e0) else (⟨t1,x.nd,x.ws⟩,0)):=by
  show _=_;rw[←hR];unfold lK;rw[hmv]
 have EE:=Hd (FQ uP.o HN.o ci hi);unfold NI at EE;rw[hR];have c0:((w.alloc (.cells #[.pointer (some ⟨g,0,none⟩)] 25)).alloc (.cells #[.int .i64 ci] 3)).cell? ⟨w.heap.size,0,none⟩=some (.pointer (some ⟨g,0,none⟩)):=HB1.o.cell 0;have i0:=HB1.o.inside;have c1:((w.alloc (.cells #[.pointer (some ⟨g,0,none⟩)] 25)).alloc (.cells #[.int .i64 ci] 3)).cell? ⟨w.heap.size+1,0,none⟩=some (.int .i64 ci):=HC1.o.cell 0;have i1:=HC1.o.inside;clear hR h hn hi hp hb0 hmv;go_enter func97,ntmps97;go_wp2_with (fail);refine EE.o.mono ?_;rintro e w2 ⟨A,c,rfl,hnd,hb2⟩
 generalize ((w.alloc (.cells #[.pointer (some ⟨g,0,none⟩)] 25)).alloc (.cells #[.int .i64 ci] 3))=wz at*;have HZ2:Hid (az (w2.alloc (.cells Ve.toArray 246)) w2.heap.size Ve):=aA w2 Ve _;have iO:Hid (Below w2.heap.size w2 (w2.alloc (.cells Ve.toArray 246))):=bR.alloc nR _;have HB2:Hid (bz wz w2):=hb2;clear hb2 EE c0 i0 c1 i1
 go_upto_region 2 with(first|(with_reducible refine gS ?_;first|(refine ay 246 _ _ rfl rfl rfl _ 0 rfl (sS ci (par x.t ci) (idx (kids x.t (par x.t ci)) ci) (gX x ci) A c (fZ x ci)) rfl (Ve) HZ2.o (sS ci (par x.t ci) (idx (kids x.t (par x.t ci)) ci) (gX x ci) A c (fZ x ci)) rfl (nE rfl) ag (yQ _ _ _ _ _ _ _) ?_;intro w3 HW3 dM)))
 have a3B:Hid (Below w2.heap.size w2 w3):=HW3.o.below iO.o nR;have iD:Hid (bz wz w3):=HB2.o.trans (a3B.o.mono HB2.o.size);have HB:=Hd (HB1.o.below' iD.o);have HC:=Hd (HC1.o.below' iD.o);have HS:=Hd (uP.o.below iD.o);have sJ:Hid (¬af b m s x.t w.heap.size):=fun e=>by have:=kG.o _ e;omega
 have EY:Hid (¬af b m s x.t (w.heap.size+1)):=fun e=>by have:=kG.o _ e;omega
 have wQ:=Hd HS.o.blk;have wK:=Hd HS.o.jh;have hkp:w.heap.size+2<=w2.heap.size:=by have:=HB2.o.size;have:=iL.o;omega
 have HKP:=Hd hkp
 obtain⟨kp,hk⟩:=aC w2.heap.size
 rw[hk]at dM HKP ⊢;have IC:Hid (¬af b m s x.t kp):=fun e=>by have:=kG.o _ e;have:=HKP.o;omega
 clear hk hkp HZ2 iO HW3 a3B HB2 hnd HB1 HC1 uP
 refine wR (ae (af b m s x.t) (af b m s x.t)) (fun L wx=>Qm w3 g b m s Z x.t (fun i=>has x.t i=true) x.nd x.ws t1 (L 7) wx) [15,16,17,18,19,20,21,22,11] (fun _=>ae.refl _ _) (fun _ _ _ h k=>h.trans k) (fun i=>match i with
  |0|1=>rp g 0
  |2=>rp g 1
  |3=>rp b 0
  |4=>rV (.int .i64 ci)
  |5=>rV (.int .i64 cp)
  |6=>rV (.int .i64 cn)
  |7|8=>rV (.int .i64 e0)
  |_=>ra) (ae.below bR.drew) (⟨fun _=>HS.o.mid.below bR.drew,nofun⟩) ⟨?_,?_,?_,?_,?_,?_,?_,?_,?_,trivial⟩ ?_
 any_goals (first|refine zp fun L a w1 hh=>?_|fail)
 have h4:=hh.p 4 w.heap.size 0;have ⟨c0,i0⟩:=(HB.o.off sJ.o hh.rel).ci 0 rfl;rotate_left;have h15:=rq (hh.d 0 15);rotate_left;have h16:=rq (hh.d 1 16);have i0:=((au.off wQ.o wK.o hh.rel).blk).inside;rotate_left;have h17:=rq (hh.d 2 17);have ⟨c0,i0⟩:=((au.off wQ.o wK.o hh.rel).blk).ci 1 rfl;rotate_left;have h5:=hh.p 5 ((w.heap.size+1)) 0;have ⟨c0,i0⟩:=(HC.o.off EY.o hh.rel).ci 0 rfl;rotate_left;have h2:=hh.o 2 (v:=.int .i64 cp) rfl;rotate_left;have h3:=hh.o 3 (v:=.int .i64 cn) rfl;rotate_left
 ·have h18:=rq (hh.d 3 18);have h19:=rq (hh.d 4 19);have h20:=rq (hh.d 5 20);have h21:=rq (hh.d 6 21);have hS:=Hd (hh.st.no hh.un);have hR:=Hd (show ae (af b m s x.t) (af b m s x.t) w3 w1 from hh.rel);have hB:=Hd (show ∀wq,regs.bl w1 wq->True from fun _ _=>trivial);clear hh hB;go_simp;refine(YF hS.o.tree HN.o ci cp cn HI.o HP.o).mono ?_;rw[HMV.o];rintro e w9 ⟨s9,rfl,lu,QE⟩;have hm:=hS.o.step lu QE;exact⟨_,rfl,hm.2.wide (fun _ k=>k),rfl,⟨nofun,fun _=>⟨_,hm.1,hR.o.trans hm.2⟩⟩⟩
 have h22:=rq (hh.d 7 22);rotate_left
 any_goals (have hJ:=hh.j;clear hh;go_simp;exact⟨_,rfl,ae.refl _ _,rfl,hJ.o⟩)
 intro L w4 val hL hJ hR hv;have h11:val 11=.int .i64 e0:=hv 8 11 ag;have HR4:=Hd hR;obtain⟨s5,xn,GK⟩:=hJ.yes (hL 7 (by decide));have gZ:=Hd xn;have HT4:=Hd GK;clear hv hL hJ hR xn GK;simp only[regs.aG,List.map_cons,List.map_nil,h11];simp only[Act.put,List.setIfInBounds_toArray,List.set_cons_zero,List.set_cons_succ];clear h11
 skip
 by_cases h0:¬e0=0
 ·have t5:(e0==0)=false:=by simpa using h0
  have HE2:Hid (R=(x,e0)):=by show _=_;rw[HR.o,if_pos h0]
  have Qu:=Hd h0
  have HT1:Hid (t1=x.t):=by
   have:=SC (t:=x.t) (i:=ci) (p:=cp) (n:=cn) (by rw[HMV.o];exact h0);rw[HMV.o]at this;exact this
  clear h0 HR;go_wp2_with (fail);go_ret2;rw[HE2.o];rw[HT1.o]at gZ HT4;exact⟨_,s5,rfl,gZ.o.oV fun _=>Iff.rfl,((ae.below HB0.o).trans (ae.below iD.o)).trans HT4.o,fun e=>absurd e Qu.o⟩
 obtain rfl:e0=0:=by simpa using h0
 have HE2:Hid (R=(⟨t1,x.nd,x.ws⟩,0)):=by show _=_;rw[HR.o,if_neg (by simp)]
 have Zr:=Hd (SB dY.o HMV.o);clear h0 HR;go_wp2_with (fail);go_ret2;rw[HE2.o];have hsc:ak w4 g b m s5 Z ⟨t1,x.nd,x.ws⟩:=gZ.o.oV fun j=>(Zr.o.2.1 j).symm;have hlen:t1.length<=1000:=by have:=(qE dY.o ci cp cn).2;rw[HMV.o]at this;have:=HN.o;simp only at*;omega
 refine⟨_,s5,rfl,hsc,((ae.below HB0.o).trans (ae.below iD.o)).trans HT4.o,fun _=>⟨fun k=>k=w.heap.size∨k=w.heap.size+1∨k=kp,_,_,rfl,Ej,?_,?_⟩⟩
 ·rintro k (rfl|rfl|rfl)
  ·exact⟨Nat.lt_of_lt_of_le HB.o.inside HT4.o.size,fun e=>e.elim (HT4.o.far _ HB.o.inside sJ.o).1 fun e=>by have:=IA.o _ e;omega⟩
  ·exact⟨Nat.lt_of_lt_of_le HC.o.inside HT4.o.size,fun e=>e.elim (HT4.o.far _ HC.o.inside EY.o).1 fun e=>by have:=IA.o _ e;omega⟩
  ·exact⟨Nat.lt_of_lt_of_le dM.o.inside HT4.o.size,fun e=>e.elim (HT4.o.far _ dM.o.inside IC.o).1 fun e=>by have:=IA.o _ e;have:=HKP.o;omega⟩
 ·intro W s1 E hK hs1;have hblk:∀{k:Nat} {cs:List Value},az w3 k cs->¬af b m s x.t k->W.heap[k]?=w4.heap[k]?->az W k cs:=fun h1 h2 h3=>h1.stays (h3.trans (HT4.o.far _ h1.inside h2).2);obtain⟨t2,hm2,hal⟩:=Zr.o.2.2;refine(OO hs1 hlen (hblk HB.o sJ.o (hK _ (.inl rfl)).1) (hblk HC.o EY.o (hK _ (.inr (.inl rfl))).1) (hblk dM.o IC.o (hK _ (.inr (.inr rfl))).1) (hK _ (.inl rfl)).2.1 (hK _ (.inr (.inl rfl))).2.1 (hK _ (.inr (.inr rfl))).2.1 HI.o (DX dY.o ci) hm2).mono ?_;rintro e W' ⟨he,s2,h5,h6⟩
  have h7:=h5.oV (fun j=>by rw[iq hal];exact Zr.o.2.1 j);rw[af.alike hal]at h6;exact⟨he,s2,h7.like ⟨dY.o,hal,fun _ _=>rfl,fun _ _=>rfl⟩,h6⟩
end
end
section
open Go.RowKit fG gm aF Go.Maps
abbrev qW:TypeId:=246
structure Sp where
 e:S3
 n:Nd
 A:Option Addr
 c:Nat
 u:Mp
def Sp.cs(q:Sp):List Value:=sS q.e.1 q.e.2.1 q.e.2.2 q.n q.A q.c q.u
theorem Sp.bZ(q:Sp):q.cs.length=29:=rfl
theorem Sp.pU(q:Sp):∀u∈q.cs,u.oneCell'=true:=fun u hu=>List.all_eq_true.1 (yQ _ _ _ _ _ _ _) u hu
def z29:List Value:=sS 0 0 0 Nd.zero none 0 Mp.o
theorem O5:(prog.info? qW).map (fun i=>(i.zero,i.size,i.bytes))=some (some (.agg z29.toArray),29,240):=by kernel_rfl
theorem BN{P:Program}{op:Oper}{a:Act}{w w':World}{K:Act->World->Prop}{Q:Exit->Act->World->Prop}(t:TypeId)(n:Nat)(parts:Array (Nat×Operand))(ho:op.op=.buildSlice t n parts){vals:Array (Nat×Value)}(hv:(parts.map fun q=>(q.1,a.eval q.2))=vals){v:Value}(hrun:(Instr.buildSlice t n vals).run P w=.ok v w')
  (h:K (a.put op.dst v) w'):op.wp P a w K Q:=by
 subst hv;unfold Oper.wp execOp;simp only[ho,Sem.run_bind,Result.andThen_ok,hrun];exact h
theorem jv{P:Program}{ops:Array Oper}{rest:List Oper}{o:Oper}{a:Act}{Q:Exit->Act->World->Prop}{w w':World}(t:TypeId)(n:Nat)(parts:Array (Nat×Operand))(ho:o.op=.buildSlice t n parts)(hgd:Region.wanted o (yielded ops a.tmps)=true){vals:Array (Nat×Value)}(hv:(parts.map fun q=>(q.1,a.eval q.2))=vals){v:Value}(hrun:(Instr.buildSlice t n vals).run P w=.ok v w')
  (h:wpList P ops Q rest (a.put o.dst v) w'):wpList P ops Q (o::rest) a w:=by
 unfold wpList;rw[if_pos hgd];exact .inl (BN t n parts ho hv hrun h)
theorem Nu(q:Sp)(w:World):(Instr.buildSlice 243 1 #[(0,.agg q.cs.toArray)]).run prog w=.ok (.slice (some ⟨w.heap.size,0,none⟩) 1 1) (w.alloc (.cells q.cs.toArray qW)):=by kernel_rfl
abbrev xB(w:World)(base:Nat)(v:Value)(l:List Sp):Prop:=ax qW 29 Sp.cs w base v l
structure Ey(E:bF)(x:aJ)(S:bF)(w:World)(q:Sp):Prop where
 n:q.n=gX x q.e.1
 u:q.u=fZ x q.e.1
 off:dD E S w q.n q.A
theorem Ey.turn{E:bF}{x:aJ}{S S':bF}{w w':World}{q:Sp}(h:Ey E x S w q)(ht:ae S S' w w'):Ey E x S' w' q:=⟨h.n,h.u,h.off.turn ht⟩
def BI(t:T)(f:S3)(k:Nat)(l:List S3):Prop:=(has t f.1=true∧BQ t f k l)∨(has t f.1=false∧l=[f]∧k<=1)
theorem BI.start(t:T)(f:S3):BI t f 0 [f]:=by
 by_cases h:has t f.1=true
 ·exact .inl ⟨h,BQ.start h⟩
 ·exact .inr ⟨by simpa using h,rfl,Nat.zero_le _⟩
theorem BI.next{t:T}(ok:Ok t){f:S3}{k:Nat}{l:List S3}(h:BI t f k l)(hk:k<l.length):BI t f (k+1) (l++grp t l[k].1):=by
 rcases h with ⟨h1,h2⟩|⟨h1,h2,h3⟩
 ·exact .inl ⟨h1,h2.next ok hk⟩
 ·subst h2;have hk0:k=0:=by simp at hk;omega
  subst hk0;refine .inr ⟨h1,?_,by omega⟩;have:kids t f.1=[]:=qF ok (by rw[h1];simp);show[f]++grp t f.1=[f];unfold grp;rw[this];rfl
theorem BI.len{t:T}{f:S3}{k:Nat}{l:List S3}(h:BI t f k l):l.length<=t.length+1:=by
 rcases h with ⟨_,h2⟩|⟨_,h2,_⟩
 ·exact h2.len
 ·rw[h2];simp
def Uz(E S:bF)(x:aJ)(ci:Int)(w:World)(e:Ending)(w':World):Prop:=
 ∃v l,e=.returned v∧xB w' w.heap.size v l∧bz w w'∧(∃k,BI x.t (ci,par x.t ci,idx (kids x.t (par x.t ci)) ci) k (l.map (·.e))∧l.length<=k)∧∀q∈l,Ey E x S w' q
def Ow(v:Value):bF:=fun k=>v.ownBlock=some k
theorem ax.uY{α:Type}{T:TypeId}{k:Nat}{enc:α->List Value}{w:World}{base:Nat}{v:Value}{l:List α}(h:ax T k enc w base v l){g:Nat}(hg:v.ownBlock=some g):∃cur fr,w.heap[g]?=some (.cells cur T fr):=by
 rcases h.2 with ⟨rfl,h0⟩|⟨g',cap,cur,rfl,_,hb,_⟩
 ·cases hg
 ·obtain rfl:g'=g:=Option.some.inj hg;exact⟨cur,_,hb⟩
structure oP(base:Nat)(v:Value)(l:List Sp)(sp:Sp)(i0 i2 i6 i14 iB iA iW:Bool)(xb xa v5:Value)(w0 w:World):Prop where
 rel:ae (Ow v) (Ow v) w0 w
 jr:base<=w.heap.size
 own:xB w base (bif iA then xa else v) (bif iA then l++[sp] else l)
 blt:iB=true->iA=false->∃gb,xb=.slice (some ⟨gb,0,none⟩) 1 1∧au w gb sp.cs qW
 o1:iA=true->iB=true
 o2:iB=true->i14=true
 o3:i14=true->i6=true
 no:iW=false->v5=v
 ow:iW=true->i0=true∧i2=true
 ww:iW=true->iA=true∧v5=xa
 new:iA=true->∀k,xa.ownBlock=some k->v.ownBlock=some k∨w0.heap.size<=k
section
variable {base:Nat}{v:Value}{l:List Sp}{sp:Sp}{i0 i2 i6 i14 iB iA iW:Bool}{xb xa v5:Value}{w0 w w':World}
theorem oP.slots{ub ua u5:Value}(h:oP base v l sp i0 i2 i6 i14 iB iA iW xb xa v5 w0 w)(e1:ub=xb)(e2:ua=xa)(e3:u5=v5):oP base v l sp i0 i2 i6 i14 iB iA iW ub ua u5 w0 w:=by rw[e1,e2,e3];exact h
theorem oP.f0(h:oP base v l sp i0 i2 i6 i14 iB iA iW xb xa v5 w0 w):oP base v l sp true i2 i6 i14 iB iA iW xb xa v5 w0 w:=⟨h.rel,h.jr,h.own,h.blt,h.o1,h.o2,h.o3,h.no,fun e=>⟨rfl,(h.ow e).2⟩,h.ww,h.new⟩
theorem oP.f2(h:oP base v l sp i0 i2 i6 i14 iB iA iW xb xa v5 w0 w):oP base v l sp i0 true i6 i14 iB iA iW xb xa v5 w0 w:=⟨h.rel,h.jr,h.own,h.blt,h.o1,h.o2,h.o3,h.no,fun e=>⟨(h.ow e).1,rfl⟩,h.ww,h.new⟩
theorem oP.f6(h:oP base v l sp i0 i2 i6 i14 iB iA iW xb xa v5 w0 w):oP base v l sp i0 i2 true i14 iB iA iW xb xa v5 w0 w:=⟨h.rel,h.jr,h.own,h.blt,h.o1,h.o2,fun _=>rfl,h.no,h.ow,h.ww,h.new⟩
theorem oP.f14(h:oP base v l sp i0 i2 i6 i14 iB iA iW xb xa v5 w0 w)(e:i6=true):oP base v l sp i0 i2 i6 true iB iA iW xb xa v5 w0 w:=⟨h.rel,h.jr,h.own,h.blt,h.o1,fun _=>rfl,fun _=>e,h.no,h.ow,h.ww,h.new⟩
theorem oP.noB(h:oP base v l sp i0 i2 i6 i14 iB iA iW xb xa v5 w0 w)(e:iB=false):iA=false:=by
 cases hA:iA with
 |false=>rfl
 |true=>have:=h.o1 hA;rw[e]at this;cases this
theorem oP.no6(h:oP base v l sp i0 i2 i6 i14 iB iA iW xb xa v5 w0 w)(e:i6=false):iA=false:=h.noB (by
 cases hB:iB with
 |false=>rfl
 |true=>have:=h.o3 (h.o2 hB);rw[e]at this;cases this)
theorem oP.old(h:oP base v l sp i0 i2 i6 i14 iB iA iW xb xa v5 w0 w)(e:i0=false∨i2=false):v5=v:=h.no (by
 cases hW:iW with
 |false=>rfl
 |true=>have:=h.ow hW;rcases e with e|e<;>simp[e]at this)
theorem oP.make(h:oP base v l sp i0 i2 i6 i14 iB iA iW xb xa v5 w0 w)(_:iB=false)(e14:i14=true):oP base v l sp i0 i2 i6 i14 true iA iW (.slice (some ⟨w.heap.size,0,none⟩) 1 1) xa v5 w0 (w.alloc (.cells sp.cs.toArray qW))∧ae (Ow v) (Ow v) w (w.alloc (.cells sp.cs.toArray qW)):=by
 have hb:bz w (w.alloc (.cells sp.cs.toArray qW)):=bR.alloc nR _;exact⟨⟨h.rel.trans (ae.below hb),Nat.le_trans h.jr hb.size,ax.below h.own hb,fun _ _=>⟨_,rfl,au.new w sp.cs qW⟩,fun _=>rfl,fun _=>e14,h.o3,h.no,h.ow,h.ww,h.new⟩,ae.below hb⟩
theorem oP.app(h:oP base v l sp i0 i2 i6 i14 iB iA iW xb xa v5 w0 w)(eB:iB=true)(eA:iA=false)(hn:l.length<=100000) :
  ∃v' w',(Builtin.append_ #[243,243] 243 #[v,xb]).run prog w=.ok v' w'∧oP base v l sp i0 i2 i6 i14 iB true iW xb v' v5 w0 w'∧ae (Ow v) (Ow v) w w':=by
 obtain⟨gb,e,hg⟩:=h.blt eB eA;subst eA
 have hw:iW=false:=by
  cases hW:iW with
  |false=>rfl
  |true=>have:=(h.ww hW).1;cases this
 subst hw
 have hrow:aV 29 Sp.cs w (some ⟨gb,0,none⟩) [sp]:=fun _=>⟨gb,0,rfl,fun j hj i u hu=>by
  have hj0:j=0:=by simp at hj;omega
  subst hj0;have:=hg.blk.cell i;simp only[List.getElem_cons_zero]at hu;rw[hu]at this
  simpa using this⟩
 obtain⟨v',w',h1,h2,h3,h4⟩:=ax.app (P:=prog) (xs:=[sp]) (c:=1) underlying243 O5 rfl (by decide) (by decide) Sp.bZ Sp.pU (show xB w base v l from h.own) (fun _=>hrow) (by simp;omega) h.jr;have ht:ae (Ow v) (Ow v) w w':=ae.grown h3 fun k hk=>hk;rw[e];refine⟨v',w',h1,⟨h.rel.trans ht,Nat.le_trans h.jr h3.size,h2,fun _ k=>(nomatch k),fun _=>eB,h.o2,h.o3,h.no,h.ow,fun k=>(nomatch k),fun _ k hk=>?_⟩,ht⟩;rcases h4 with e4|e4
 ·exact .inl (e4 ▸ hk)
 ·have:=Option.some.inj (e4.symm.trans hk);have:=h.rel.size;exact .inr (by omega)
theorem oP.put(h:oP base v l sp i0 i2 i6 i14 iB iA iW xb xa v5 w0 w)(eA:iA=true)(e0:i0=true)(e2:i2=true):oP base v l sp i0 i2 i6 i14 iB iA true xb xa xa w0 w:=
 ⟨h.rel,h.jr,h.own,h.blt,h.o1,h.o2,h.o3,nofun,fun _=>⟨e0,e2⟩,fun _=>⟨eA,rfl⟩,h.new⟩
end
def a3F(l:List Int)(base:Nat):regs.kW regs.bl:=⟨fun x w=>aU w base x l,fun _ _ _ h hb=>ax.below h hb⟩
section
variable {w:World}{g b m:Nat}{s:Sh}{Z:ZZ}{x:aJ}
theorem Oi(h:ak w g b m s Z x)(hn:x.t.length<=1000)(ci:Int)(hi:I64 ci) :
  Calls prog 119 #[.pointer (some ⟨g,0,none⟩),.int .i64 ci] w (Uz Z.3 (af b m s x.t) x ci w):=by
 have HS:=Hd h;have HN:=Hd hn;have HI:=Hd hi;have EE:=Hd (FQ h hn ci hi);unfold NI at EE;clear h hn hi;go_enter func119,ntmps119;go_wp2_with (fail);refine EE.o.mono ?_;rintro e w2 ⟨A,c,rfl,hnd,hb2⟩;have EX:=Hd hnd;have HB2:=Hd hb2;clear hnd hb2 EE
 obtain⟨q0,hq0⟩:∃q0:Sp,q0=⟨(ci,par x.t ci,idx (kids x.t (par x.t ci)) ci),gX x ci,A,c,fZ x ci⟩:=⟨_,rfl⟩
 have HQ0:=Hd hq0;have e0:sS ci (par x.t ci) (idx (kids x.t (par x.t ci)) ci) (gX x ci) A c (fZ x ci)=q0.cs:=by rw[hq0];rfl
 rw[e0];clear e0 hq0;go_wp2_with ((with_reducible refine gB ?_);refine jv _ _ _ rfl rfl (by simp[go_sem]) (Nu q0 _) ?_)
 obtain⟨w3,hw3⟩:∃w3,w3=w2.alloc (.cells q0.cs.toArray qW):=⟨_,rfl⟩
 have hb3:Below w2.heap.size w2 w3:=by rw[hw3];exact bR.alloc nR _
 have HB3:=Hd (HB2.o.trans (hb3.mono HB2.o.size))
 have Zn:Hid (xB w3 w.heap.size (.slice (some ⟨w2.heap.size,0,none⟩) 1 1) [q0]):=by
  rw[hw3];have:=ax.lit (T:=qW) (enc:=Sp.cs) Sp.bZ w2 [q0] HB2.o.size (by unfold maxLen;simp);rw[show([q0]:List Sp).flatMap Sp.cs=q0.cs from by simp]at this;exact this
 have ny:Hid (∀q∈[q0],Ey Z.3 x (af b m s x.t) w q):=fun q hq=>by
  rw[List.mem_singleton.1 hq,HQ0.o];exact⟨rfl,rfl,EX.o⟩
 have Fa:Hid (BI x.t (ci,par x.t ci,idx (kids x.t (par x.t ci)) ci) 0 ([q0].map (·.e))):=by
  have:([q0].map (·.e))=[(ci,par x.t ci,idx (kids x.t (par x.t ci)) ci)]:=by rw[HQ0.o];rfl
  rw[this];exact BI.start _ _
 obtain⟨f,hf⟩:∃f:S3,(ci,par x.t ci,idx (kids x.t (par x.t ci)) ci)=f:=⟨_,rfl⟩
 have HF:=Hd hf;rw[hf]at Fa;rw[←hw3];clear hb3 hf EX HB2 HQ0 hw3;generalize w2.heap.size=r0 at*;have dY:=Hd HS.o.tree.ok;have FS:Hid (∀W,bz w W->ak W g b m s Z x):=fun W hb=>HS.o.below hb
 go_loopw [6,5] (fun x6 x5 wr=>∃(k:Nat) (A:Option Addr) (c:Nat) (l:List Sp),x6=.int .i64 k∧x5=.slice A l.length c∧Hid (xB wr w.heap.size (.slice A l.length c) l)∧Hid (BI x.t f k (l.map (·.e))∧k<=l.length)∧Hid (∀q∈l,Ey Z.3 x (af b m s x.t) w q)∧Hid (bz w wr)) (fun x6 _ _=>x.t.length+2 - (intOf x6).toNat)
 case atStart=>exact⟨0,_,_,[q0],rfl,rfl,Zn.o,⟨Fa.o,Nat.zero_le _⟩,ny.o,HB3.o⟩
 case round=>
  obtain⟨k,A,c,l,rfl,rfl,HO,HK,HQ,HB⟩:=hrel;generalize wr=wA at*;clear Zn Fa ny HB3;have ql:Hid (l.length<=x.t.length+1):=by have:=HK.o.1.len;rwa [List.length_map]at this
  have hll:(l.length:Int)<=100000:=by have:=ql.o;have:=HN.o;omega
  by_cases hlt:k<l.length
  ·have t1:decide (k<l.length)=true:=by simpa using hlt
   have gQ:=Hd hlt;obtain⟨A',c',ev,-,-,hrow⟩:=ax.row HO.o Sp.bZ;obtain⟨lb,lo,eA,hcell⟩:=hrow (by omega);have ec:A'=A:=by injection ev with e1 _ _;exact e1.symm
   subst ec;subst eA;have HCE:=Hd (fun W (hb:regs.bl wA W)=>(Below.cell hb (p:=⟨lb,lo+k*29+0,none⟩) (World.block_lt_of_cell? wA ⟨lb,_,none⟩ (hcell k hlt 0 _ rfl))).trans (hcell k hlt 0 (.int .i64 (l[k]).e.1) rfl))
   obtain⟨y,hy⟩:=aC ((l[k]).e.1)
   rw[hy]at HCE
   have HBN:Hid (BI x.t f (k+1) (l.map (·.e)++grp x.t y)):=by
    have h:=HK.o.1.next dY.o (k:=k) (by simpa using hlt);simp only[List.getElem_map]at h;rw[←hy];exact h
   have HLY:Hid (∀h:k<l.length,(l[k]).e.1=y):=fun _=>hy
   have UG:Hid (I64 y):=by
    rw[←hy];rcases HK.o.1 with ⟨-,h2⟩|⟨-,h2,-⟩
    ·exact mX dY.o (h2.deep _ (by rw[List.mem_map];exact⟨l[k],List.getElem_mem hlt,rfl⟩)).2
    ·have:(l[k]).e=f:=by have:=List.mem_singleton.1 (h2 ▸ (List.mem_map_of_mem (f:=fun q:Sp=>q.e) (List.getElem_mem hlt)));exact this
     rw[this,←HF.o];exact HI.o
   clear ev hrow hcell hy;have FSA:Hid (∀W,regs.bl wA W->ak W g b m s Z x):=fun W hb=>FS.o W (HB.o.trans (Below.mono hb HB.o.size));have EJ:Hid (∀W,regs.bl wA W->Calls prog 187 #[.pointer (some ⟨b,0,none⟩),.int .i64 y] W (nU (kids x.t y) W)):=fun W hb=>LW (FSA.o W hb).tree (by have:=HN.o;omega) y UG.o;unfold nU at EJ;go_wp2_with (fail)
   refine Q5 [19,20,21,22,23,24,25,26,27,28,29,30,31,32] (fun i=>match i with
    |0|1|2=>rp g 0
    |3|9|10=>rV (.iface 88 (.pointer (some ⟨b,0,none⟩)))
    |4=>rV (.slice (some ⟨lb,lo,none⟩) l.length c)
    |5=>rV (.int .i64 (k:Nat))
    |6|7=>rV (.pointer (some ⟨lb,(lo+k*29),none⟩))
    |8=>rV (.int .i64 y)
    |11=>a3F (kids x.t y) wA.heap.size
    |12=>rV (.int .i64 ((kids x.t y).length:Nat))
    |13=>rV (.int .i64 0)
    |_=>ra) ⟨?_,?_,?_,?_,?_,?_,?_,?_,?_,?_,?_,?_,?_,?_,trivial⟩ ?_
   any_goals (first|refine zp fun L a w1 hh=>?_|fail)
   have h0:=hh.p 0 g 0;rotate_left;have h19:=rq (hh.d 0 19);rotate_left;have h20:=rq (hh.d 1 20);have i0:=((FSA.o _ hh.rel).blk.blk).inside;rotate_left;have h21:=rq (hh.d 2 21);have ⟨c0,i0⟩:=((FSA.o _ hh.rel).blk.blk).ci 0 rfl;rotate_left;have h5:=hh.o 5 (v:=.slice (some ⟨lb,lo,none⟩) l.length c) rfl;rotate_left;have h6:=hh.o 6 (v:=.int .i64 (k:Nat)) rfl;rotate_left;have h23:=rq (hh.d 4 23);have CX:=rq (hh.d 5 24);have hlt:=gQ.o;rotate_left
   ·have pO:=rq (hh.d 6 25);have c0:=HCE.o _ hh.rel;have i0:=World.block_lt_of_cell? w1 ⟨lb,_,none⟩ c0;clear c0;clear hh;go_simp;exact⟨_,rfl,rB,rfl,trivial⟩
   ·have IX:=rq (hh.d 7 26);have c0:=HCE.o _ hh.rel;simp only[Nat.add_zero]at c0;have i0:=World.block_lt_of_cell? w1 ⟨lb,_,none⟩ c0;clear hh;go_simp;exact⟨_,rfl,rB,rfl,trivial⟩
   have h22:=rq (hh.d 3 22);rotate_left;have h22:=rq (hh.d 3 22);rotate_left
   ·have h27:=rq (hh.d 8 27);have CW:=rq (hh.d 10 29);have hinv:=ug (.pointer (some ⟨b,0,none⟩));have hC:=Hd (EJ.o _ hh.rel);have hsz:=Hd (show wA.heap.size<=w1.heap.size from Below.size hh.rel);have hJ:=hh.j;clear hh;go_simp;refine hC.o.mono ?_;rintro e w9 ⟨v9,rfl,ho9,bD⟩;exact⟨_,rfl,bD,ax.weaken ho9 hsz.o,hJ.o⟩
   ·obtain⟨A9,c9,e9,-,-,-⟩:=aU.lM (hh.d 11 30);have h30:a.tmps[30]?.getD undef=.slice A9 (kids x.t y).length c9:=rq (e9);clear e9;clear hh;go_simp;exact⟨_,rfl,rB,rfl,trivial⟩
   rotate_left
   any_goals (clear hh;go_simp;exact⟨_,rfl,rB,rfl,trivial⟩)
   intro L w5 val hL hJ hR hv;have h31:val 31=.int .i64 ((kids x.t y).length:Nat):=hv 12 31 ag;have h32:val 32=.int .i64 0:=hv 13 32 ag;have kL:=Hd hR;have Xh:aU w5 wA.heap.size (val 30) (kids x.t y):=hv 11 30 ag;obtain⟨KA,KC,e30,-,-,-⟩:=aU.lM Xh;rw[e30]at Xh;have HKO:=Hd Xh;clear hv hL hJ hR Xh;simp only[regs.aG,List.map_cons,List.map_nil,h31,h32];simp only[Act.put,List.setIfInBounds_toArray,List.set_cons_zero,List.set_cons_succ];clear h31 h32
   skip
   rw[e30];clear e30;have Bf:=Hd (ax.below HO.o kL.o);have NT:=HQ;have gI:=Hd (HB.o.trans (Below.mono kL.o HB.o.size));have xO:Hid ((kids x.t y).length<=1000):=by show _<=_;have:=gy x.t y;have:=HN.o;omega
   have HL5:Hid (l.map (·.e)++grp x.t y=(l.map (·.e)++(grp x.t y).take (kids x.t y).length)):=by show _=_;rw[List.take_of_length_le (by (try show Below _ _ _);rw[qG];exact nR)]
   clear HO HQ HB EJ FSA kL hlt;go_wp2_with (fail)
   go_loopw [32,5] (fun x32 x5 wr=>∃(j:Nat) (A:Option Addr) (c:Nat) (l2:List Sp),j<=(kids x.t y).length∧x32=.int .i64 j∧x5=.slice A l2.length c∧Hid (xB wr w.heap.size (.slice A l2.length c) l2)∧Hid (l2.map (·.e)=l.map (·.e)++(grp x.t y).take j)∧Hid (∀q∈l2,Ey Z.3 x (af b m s x.t) w q)∧Hid (bz w wr)∧Hid (aU wr wA.heap.size (.slice KA (kids x.t y).length KC) (kids x.t y))) (fun x32 _ _=>(kids x.t y).length - (intOf x32).toNat)
   case atStart=>exact⟨0,_,_,l,Nat.zero_le _,rfl,rfl,Bf.o,by show _=_;simp,NT.o,gI.o,HKO.o⟩
   case round=>
    obtain⟨j,A,c2,l2,hj,rfl,rfl,HO,HE,HQ,HB,HKW⟩:=hrel;generalize wr=wB at*;clear Bf NT gI HKO;have hjb:(j:Int)<=100000:=by have:=xO.o;omega
    by_cases hlt:j<(kids x.t y).length
    ·have t2:decide (j<(kids x.t y).length)=true:=by simpa using hlt
     obtain⟨KA',KC',kev,-,-,a1M⟩:=aU.lM HKW.o;obtain⟨kb,ko,rA,kc⟩:=a1M.at_ hlt;have kec:KA'=KA:=by injection kev with e1 _ _;exact e1.symm
     subst kec;subst rA;have a1W:(kids x.t y)[j]∈kids x.t y:=List.getElem_mem hlt;have HKI:Hid (I64 (kids x.t y)[j]):=mX dY.o (ah.2 (.inr (dY.o.kid a1W).1))
     have uO:Hid ((grp x.t y).take (j+1)=(grp x.t y).take j++[((kids x.t y)[j],y,(j:Int))]):=by
      show _=_;rw[List.take_succ_eq_append_getElem (by (try show Below _ _ _);rw[qG];exact hlt),TF]
     unfold eI at kc;have HKJ:=Hd hlt;clear kev a1M a1W;generalize (kids x.t y)[j]=z at*
     -- the row that is gone on from
     have AX:Hid (l2.length<=x.t.length+1∧k<l2.length):=by
      have h1:=congrArg List.length HE.o;rw[List.length_map,List.length_append,List.length_map,List.length_take,qG]at h1;have h2:=HBN.o.len;rw[List.length_append,List.length_map,qG]at h2;have:=gQ.o;show _∧_;omega
     have hlt2:=AX.o.2
     have a4w:Hid ((l2[k]).e.1=y):=by
      have h1:(l2.map (·.e))[k]?=(l.map (·.e)++(grp x.t y).take j)[k]?:=by rw[HE.o]
      rw[List.getElem?_append_left (by rw[List.length_map];exact gQ.o),List.getElem?_map,List.getElem?_map,List.getElem?_eq_getElem hlt2,List.getElem?_eq_getElem gQ.o]at h1;have h2:=Option.some.inj h1;have h3:(l2[k]).e=(l[k]'gQ.o).e:=h2;show _=_;rw[h3];exact HLY.o gQ.o
     obtain⟨A',c',ev,-,-,hrow⟩:=ax.row HO.o Sp.bZ;obtain⟨nb,no,eA,hcell⟩:=hrow (by omega);have ec:A'=A:=by injection ev with e1 _ _;exact e1.symm
     subst ec;subst eA;have i9:nb<wB.heap.size:=World.block_lt_of_cell? wB ⟨nb,_,none⟩ (hcell k hlt2 0 _ rfl);obtain⟨A8,c8,QI⟩:=HS.o.zo HKI.o
     obtain⟨q,hq⟩:∃q:Sp,q=⟨(z,y,(j:Int)),gX x z,A8,c8,fZ x z⟩:=⟨_,rfl⟩
     have HQQ:=Hd hq;have hqs:sS z y (j:Int) (gX x z) A8 c8 (fZ x z)=q.cs:=by rw[hq];rfl
     have Zm:=Hd hqs;have HLB:Hid (nb<wB.heap.size):=i9;have IG:=Hd QI;have HOB:Hid (∀e,(Value.slice (some ⟨nb,no,none⟩) l2.length c2).ownBlock=some e->w.heap.size<=e):=fun e he=>(ax.block HO.o he).1;clear ev hrow hcell i9 QI hq hqs hlt;have o5:Hid (∀W,ae (Ow (.slice (some ⟨nb,no,none⟩) l2.length c2)) (Ow (.slice (some ⟨nb,no,none⟩) l2.length c2)) wB W->bz w W):=fun W ht=>HB.o.trans (ht.aQ HB.o.size HOB.o)
     have QV:Hid (∀W,ae (Ow (.slice (some ⟨nb,no,none⟩) l2.length c2)) (Ow (.slice (some ⟨nb,no,none⟩) l2.length c2)) wB W->(Instr.lookup eY (.map (some m)) (.int .i64 z) false).run prog W=.ok (.agg (dZ (gX x z) A8 c8 (fZ x z)).toArray) W):=fun W ht=>(IG.o W (o5.o W ht)).1
     go_upto_region 8 with(fail)
     refine QC (ae (Ow (.slice (some ⟨nb,no,none⟩) l2.length c2)) (Ow (.slice (some ⟨nb,no,none⟩) l2.length c2))) (fun L V wx=>oP w.heap.size (.slice (some ⟨nb,no,none⟩) l2.length c2) l2 q (L 0) (L 2) (L 6) (L 14) (L 15) (L 16) (L 17) (V 52) (V 53) (V 5) wB wx) [37,38,39,40,41,42,43,44,45,46,47,48,49,50,51,52,53,5] (fun _=>ae.refl _ _) (fun _ _ _ h k=>h.trans k) (fun i=>match i with
      |0|2=>rV (.slice (some ⟨nb,no,none⟩) l2.length c2)
      |1|12=>rV (.int .i64 z)
      |3=>rV (.int .i64 (k:Nat))
      |4|5=>rV (.pointer (some ⟨nb,(no+k*29),none⟩))
      |6=>rV (.int .i64 y)
      |7=>rV (.int .i64 (j:Nat))
      |8|9=>rp g 0
      |10=>rp g 5
      |11=>rV (.map (some m))
      |13=>rV (.agg (dZ (gX x z) A8 c8 (fZ x z)).toArray)
      |14=>rV (.agg (q.cs).toArray)
      |_=>ra) (ae.below bR.drew) (⟨ae.below bR.drew,HB.o.size,ax.below HO.o bR.drew,nofun,nofun,nofun,nofun,fun _=>rfl,nofun,nofun,nofun⟩) ⟨?_,?_,?_,?_,?_,?_,?_,?_,?_,?_,?_,?_,?_,?_,?_,?_,?_,?_,trivial⟩ ?_
     any_goals (first|refine fK fun L a w1 hh=>?_|fail)
     ·have h5:a.tmps[5]?.getD undef=.slice (some ⟨nb,no,none⟩) l2.length c2:=rq (hh.st.old (.inl hh.un));have hJ:=hh.j;clear hh;go_simp;exact⟨_,rfl,ae.refl _ _,rfl,oP.slots hJ.o.f0 sn sn sn⟩
     have h8:=hh.o 8 (v:=.int .i64 z) rfl;rotate_left
     ·have h5:a.tmps[5]?.getD undef=.slice (some ⟨nb,no,none⟩) l2.length c2:=rq (hh.st.old (.inr hh.un));have hJ:=hh.j;clear hh;go_simp;exact⟨_,rfl,ae.refl _ _,rfl,oP.slots hJ.o.f2 sn sn sn⟩
     have h6:=hh.o 6 (v:=.int .i64 (k:Nat)) rfl;rotate_left;have TD:=rq (hh.d 2 39);have VU:=rq (hh.d 3 40);have hlt:=AX.o.2;rotate_left;have VT:=rq (hh.d 4 41);have i0:=Nat.lt_of_lt_of_le HLB.o (ae.size hh.rel);rotate_left
     ·have h42:=rq (hh.d 5 42);have hown:=hh.st.own;rw[hh.st.no6 hh.un]at hown;obtain⟨A9,c9,e9,-,-,hrow⟩:=ax.row (show xB w1 w.heap.size (.slice (some ⟨nb,no,none⟩) l2.length c2) l2 from hown) Sp.bZ;obtain⟨n9,o9,e8,hcell⟩:=hrow (by have:=AX.o;omega);have c0:=hcell k AX.o.2 0 (.int .i64 (l2[k]'AX.o.2).e.1) rfl;rw[a4w.o]at c0
      injection e9 with e9 e11 e12
      clear e11 e12;rw[e8]at e9
      injection e9 with e9
      injection e9 with e9 e10 e11
      clear e11;rw[←e9,←e10]at c0;simp only[Nat.add_zero]at c0;have i0:=World.block_lt_of_cell? w1 ⟨nb,_,none⟩ c0;clear hown e8 e9 e10 hrow hcell;have hJ:=hh.j;clear hh;go_simp;exact⟨_,rfl,ae.refl _ _,rfl,oP.slots hJ.o.f6 sn sn sn⟩
     have h7:=hh.o 7 (v:=.int .i64 (j:Nat)) rfl;rotate_left;have h0:=hh.p 0 g 0;rotate_left;have h45:=rq (hh.d 8 45);rotate_left;have h46:=rq (hh.d 9 46);have i0:=((FS.o _ (o5.o _ hh.rel)).blk.blk).inside;rotate_left;have h47:=rq (hh.d 10 47);have ⟨c0,i0⟩:=((FS.o _ (o5.o _ hh.rel)).blk.blk).ci 5 rfl;rotate_left;have h8:=hh.o 8 (v:=.int .i64 z) rfl;rotate_left;have h48:=rq (hh.d 11 48);have h49:=rq (hh.d 12 49);have hlk:=QV.o _ hh.rel;rotate_left
     ·have h38:=rq (hh.d 1 38);have h43:=rq (hh.d 6 43);have QJ:=rq (hh.d 7 44);have h50:=rq (hh.d 13 50);have hJ:=Hd hh.st;have h6:=hh.up 6 ag;have hbd:=Ah z y (j:Int) (gX x z) A8 c8 (fZ x z) w1;rw[Zm.o]at hbd;exact wp_build _ _ rfl (by simp[go_sem,h38,h43,QJ,h50]) hbd ⟨_,rfl,ae.refl _ _,rfl,oP.slots (hJ.o.f14 h6) sn sn sn⟩
     ·have h51:=rq (hh.d 14 51);have hmk:=hh.st.make hh.un (hh.up 14 ag);have hsz:=Hd hh.size;exact BN _ _ _ rfl (by simp[go_sem,h51]) (Nu q w1) ⟨_,rfl,hmk.2,trivial,oP.slots hmk.1 (bM.bI (by rw[hsz.o];simp)) sn sn⟩
     ·have h37:=rq (hh.d 0 37);obtain⟨v9,w9,hrun,hs9,lu⟩:=hh.st.app (hh.up 15 ag) hh.un (by have:=AX.o;have:=HN.o;omega);have hsz:=Hd hh.size;exact yF _ _ _ _ _ rfl rfl (by simp[go_sem,h37]) rfl hrun ⟨_,rfl,lu,trivial,oP.slots hs9 sn (bM.bI (by rw[hsz.o];simp)) sn⟩
     ·have h53:a.tmps[53]?.getD undef=bM.sl a 53:=by unfold bM.sl;rw[Array.getD_eq_getD_getElem?]
      have hu:=Hd (hh.st.put (hh.up 16 ag) (hh.up 0 ag) (hh.up 2 ag));have hsz:=Hd hh.size;clear hh;go_simp;exact⟨_,rfl,ae.refl _ _,trivial,oP.slots hu.o sn sn (bM.bI (by rw[hsz.o];simp))⟩
     any_goals (have hJ:=hh.j;clear hh;go_simp;exact⟨_,rfl,ae.refl _ _,rfl,oP.slots hJ.o sn sn sn⟩)
     intro L w9 val hL hJ hR hv;have HR9:=Hd hR;have hw9:=hJ.ww (hL 17 (by decide));have hown:=hJ.own;rw[hL 16 (by decide)]at hown;have hown:xB w9 w.heap.size (val 53) (l2++[q]):=hown;obtain⟨A6,c6,e53,-,-,-⟩:=ax.row hown Sp.bZ;have e5:=hw9.2;rw[e53]at hown e5;have HO9:=Hd hown;clear hv hL hJ hR hown hw9;simp only[regs.aG,List.map_cons,List.map_nil];simp only[Act.put,List.setIfInBounds_toArray,List.set_cons_zero,List.set_cons_succ]
     skip
     rw[e53];rw[e5];clear e5 e53;have uT:Hid (bz w w9):=o5.o _ HR9.o
     have UW:Hid (∀p∈l2++[q],Ey Z.3 x (af b m s x.t) w p):=fun p hp=>by
      rcases List.mem_append.1 hp with hp|hp
      ·exact HQ.o p hp
      ·rw[List.mem_singleton.1 hp,HQQ.o];exact⟨rfl,rfl,(IG.o w bR).2⟩
     have HE9:Hid ((l2++[q]).map (·.e)=l.map (·.e)++(grp x.t y).take (j+1)):=by
      show _=_;rw[List.map_append,HE.o,uO.o,HQQ.o];simp
     have Wh:Hid (aU w9 wA.heap.size (.slice (some ⟨kb,ko,none⟩) (kids x.t y).length KC) (kids x.t y)):=ax.stays HKW.o fun e he=>by
      refine(HR9.o.far e (ax.block HKW.o he).2 fun h2=>?_).2;obtain⟨cu,fr,h3⟩:=ax.uY HKW.o he;obtain⟨cu',fr',h4⟩:=ax.uY HO.o h2;rw[h3]at h4;simp only[Option.some.injEq,Obj.cells.injEq]at h4;exact absurd h4.2.1 (by decide)
     clear HO HQ HB HKW QV o5 HLB HOB;go_wp2_with (fail)
     go_roundw
     case rel=>exact⟨j+1,_,_,l2++[q],HKJ.o,by go_num,rfl,HO9,HE9,UW,uT,Wh⟩
     case measure=>have:=HKJ.o;simp[intOf];omega
    ·obtain rfl:j=(kids x.t y).length:=by omega
     have t2:decide ((kids x.t y).length<(kids x.t y).length)=false:=by simp
     have HE2:Hid (l2.map (·.e)=l.map (·.e)++grp x.t y):=by show _=_;rw[HL5.o];exact HE.o
     have dE:Hid (BI x.t f (k+1) (l2.map (·.e))∧k+1<=l2.length):=by
      refine⟨by rw[HE2.o];exact HBN.o,?_⟩;have h1:=congrArg List.length HE2.o;rw[List.length_map,List.length_append,List.length_map]at h1;have:=gQ.o;omega
     have Ya:Hid (k<x.t.length+1):=by have:=gQ.o;have:=ql.o;show _<_;omega
     have hkb:(k:Int)<=100000:=by have:=Ya.o;have:=HN.o;omega
     clear HKW HE HK;go_wp2_with (fail)
     go_roundw
     case rel=>exact⟨k+1,_,_,l2,by go_num,rfl,HO,dE,HQ,HB⟩
     case measure=>have:=Ya.o;simp[intOf];omega
  ·have t1:decide (k<l.length)=false:=by simpa using hlt
   have HKK:Hid (l.length<=k):=Nat.le_of_not_lt hlt;clear hlt;go_wp2_with (fail);go_ret;refine⟨_,l,rfl,HO.o,HB.o,⟨k,?_,HKK.o⟩,fun p hp=>(HQ.o p hp).turn (ae.below HB.o)⟩;rw[HF.o];exact HK.o.1
end
end
end Go.Proofs.YthmegninhpihkaaGreat
