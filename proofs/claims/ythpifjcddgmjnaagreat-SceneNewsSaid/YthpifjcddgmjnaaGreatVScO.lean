import Derived.Test.YthpifjcddgmjnaaGreatVScq
set_option maxHeartbeats 16000000
set_option maxRecDepth 100000
namespace Go.Proofs.YthpifjcddgmjnaaGreat
open Go.RowKit pxm imm trm Go.Maps
structure KY (q:Nat) (A W:World):Prop where
 os:W.os=A.os
 tape:W.tape=A.tape
 output:W.output=A.output
 size:A.heap.size≤W.heap.size
 same:∀ k,k < A.heap.size→k≠q→W.heap[k]?=A.heap[k]?
section
variable {q:Nat} {A W W':World}
theorem KY.refl (q:Nat) (A:World):KY q A A:=⟨rfl,rfl,rfl,Nat.le_refl _,fun _ _ _=>rfl⟩
theorem KY.below (h:KY q A W) (hb:Below A.heap.size W W'):KY q A W':=⟨hb.os.trans h.os,hb.tape.trans h.tape,hb.output.trans h.output,Nat.le_trans h.size hb.size,fun k hk hn=>(hb.block k hk).trans (h.same k hk hn)⟩
theorem KY.trans {B C:World} (h:KY q A B) (k:KY q B C):KY q A C:=
 ⟨k.os.trans h.os,k.tape.trans h.tape,k.output.trans h.output,Nat.le_trans h.size k.size,fun j hj hn=>(k.same j (Nat.lt_of_lt_of_le hj h.size) hn).trans (h.same j hj hn)⟩
theorem KY.wrote (h:Wrote q W W'):KY q W W':=by
 have h1:=h.size
 obtain ⟨o,l,rfl⟩:=h
 have h2:∀ (l:List Value) (o:Nat) (w:World),(putBlk q w o l).os=w.os∧(putBlk q w o l).tape=w.tape∧(putBlk q w o l).output=w.output:=by
  intro l
  induction l with
  | nil=>exact fun _ _=>⟨rfl,rfl,rfl⟩
  | cons v l ih=>exact fun o w=>ih (o + 1) (w.setCell ⟨q,o,none⟩ v)
 obtain ⟨e1,e2,e3⟩:=h2 l o W
 exact ⟨e1,e2,e3,Nat.le_of_eq h1.symm,fun k _ hn=>putBlk_far hn l o W⟩
theorem KY.to_below {n:Nat} (h:KY q A W) (hn:n≤q) (hs:n≤A.heap.size):Below n A W:=⟨h.os,h.tape,h.output,h.size,fun k hk=>h.same k (by omega) (by omega)⟩
end
structure JV (g:Nat) (c0 c1:List Value) (d:Bool) (w:World):Prop where
 blk:Blk w g (bif d then c1 else c0)
theorem JV.below {g:Nat} {c0 c1:List Value} {d:Bool} {w w':World} (h:JV g c0 c1 d w) (hb:Below w.heap.size w w'):JV g c0 c1 d w':=⟨h.blk.below' hb⟩
theorem idxOf_take {l:List Int} {i:Int} {k:Nat} (hlt:k < l.length) (h:i∉l.take k) (e:i=l[k]):idx l i=(k:Nat):=by
 have hm:i∈l:=by rw [e]; exact List.getElem_mem hlt
 unfold idx
 rw [if_pos hm,idxOf_at hlt h e.symm]
theorem index_int (A:Option Addr) (l:List Int) (c:Nat) (y:Int) (w:World) (hr:Row eI w A l) (hn:l.length≤100000) :
  Calls Tryz.prog 241 #[.slice A l.length c,.int .i64 y] w fun e w'=>e=.returned (.int .i64 (idx l y))∧Below w.heap.size w w':=by
 have HR:=Hd hr
 have HN:=Hd hn
 clear hr hn
 go_enter Tryz.func241,Tryz.ntmps241
 go_wp2_with (fail)
 go_loopw [8] (fun x wr=>∃ k:Nat,k≤l.length∧x=.int .i64 k∧Hid (y∉l.take k)∧Hid (Below w.heap.size w wr)) (fun x _=>l.length - (intOf x).toNat)
 case atStart=>exact ⟨0,Nat.zero_le _,rfl,by show _∉_; simp,Below.refl _ _⟩
 case round=>
  obtain ⟨k,hk,rfl,HK,HB⟩:=hrel
  by_cases hlt:k < l.length
  ·have t1:decide (k < l.length)=true:=by simpa using hlt
   obtain ⟨g,o,rfl,k1⟩:=(Row.below HR.out HB.out).at_ hlt
   have hkb:(k:Int)≤100000:=by have:=HN.out; omega
   have HS:Hid (y≠l[k]→y∉l.take (k + 1)):=fun e=>by
    rw [List.take_succ_eq_append_getElem hlt,List.mem_append,List.mem_singleton]
    rintro (h | h)
    ·exact HK.out h
    ·exact e h
   have HT:Hid (y=l[k]→idx l y=(k:Nat)):=fun e=>idxOf_take hlt HK.out e
   unfold eI at k1
   generalize l[k]=z at *
   clear HK
   by_cases e:y=z
   ·have t2:(y == z)=true:=by simpa using e
    have HT2:=Hd (HT.out e)
    clear HS HT e
    go_wp2_with (fail)
    go_ret
    exact ⟨ret_num HT2.out.symm,HB.out⟩
   ·have t2:(y == z)=false:=by simpa using e
    have HS2:=Hd (HS.out e)
    clear HS HT e
    go_wp2_with (fail)
    go_roundw
    case rel=>exact ⟨k + 1,by omega,by go_num,HS2,HB⟩
    case measure=>simp [intOf]; omega
  ·obtain rfl:k=l.length:=by omega
   have t1:decide (l.length < l.length)=false:=by simp
   have HE:Hid (idx l y=-1):=by
    have:=HK.out
    rw [List.take_length] at this
    exact if_neg this
   clear HK
   go_wp2_with (fail)
   go_ret
   exact ⟨ret_num HE.out.symm,HB.out⟩
def spcs (i p k:Int) (n:Nd) (A:Option Addr) (c:Nat) (u:Mp):List Value:=[.int .i64 i,.int .i64 p,.int .i64 k,.int .i64 n.m.a,.int .i64 n.m.b,.int .i64 n.m.c,.int .i64 n.m.d,.int .i64 n.m.e,.int .i64 n.m.f,.int .i64 n.op,.bool n.hi,.bool n.cl,.int .i64 n.r.a,.int .i64 n.r.b,.int .i64 n.r.c,.int .i64 n.r.d,
 .int .i64 n.lk.k,.int .i64 n.lk.W,.int .i64 n.lk.H,.int .u32 (n.lk.p:Nat),.int .i64 n.lk.iw,.int .i64 n.lk.ih,.slice A n.lk.l.length c,.int .i64 u.a,.int .i64 u.b,.int .i64 u.c,.int .i64 u.d,.int .i64 u.e,.int .i64 u.f]
theorem spcs_one (i p k:Int) (n:Nd) (A:Option Addr) (c:Nat) (u:Mp):(spcs i p k n A c u).all (·.oneCell')=true:=rfl
theorem build_spot (i p k:Int) (n:Nd) (A:Option Addr) (c:Nat) (u:Mp) (w:World):(Instr.build 328 #[(0,.int .i64 i),(1,.int .i64 p),(2,.int .i64 k),(3,.agg (plcs n A c u).toArray)]).run Tryz.prog w=.ok (.agg (spcs i p k n A c u).toArray) w:=by kernel_rfl
def Nd.zero:Nd:=⟨⟨0,0,0,0,0,0⟩,0,false,false,⟨0,0,0,0⟩,⟨0,0,0,0,0,0,[]⟩⟩
def ndAt (x:PSc) (i:Int):Nd:=if has x.t i=true then x.nd i else Nd.zero
def wsAt (x:PSc) (i:Int):Mp:=if has x.t i=true then x.ws i else Mp.o
theorem inv_parent (v y:Value) (w:World):(invoke (.fn (.method "Parent") #[]) #[.iface 109 v,y]).run Tryz.prog w=.ok (.enter 321 #[v,y]) w:=by kernel_rfl
theorem inv_kids (v y:Value) (w:World):(invoke (.fn (.method "Kids") #[]) #[.iface 109 v,y]).run Tryz.prog w=.ok (.enter 319 #[v,y]) w:=by kernel_rfl
theorem inv_has (v y:Value) (w:World):(invoke (.fn (.method "Has") #[]) #[.iface 109 v,y]).run Tryz.prog w=.ok (.enter 318 #[v,y]) w:=by kernel_rfl
theorem par_64 {t:T} (ok:Ok t) (i:Int):I64 (par t i):=by
 by_cases h:i∈ids t
 ·rcases ok.par_ok h with e | e
  ·rw [e]; constructor <;> omega
  ·obtain ⟨p,hp⟩:=mem_ids.1 e
   have:=ok.rng _ hp
   simp only at this
   constructor <;> omega
 ·rw [par_none h]; constructor <;> omega
theorem has_64 {t:T} (ok:Ok t) {i:Int} (h:has t i=true):I64 i:=by
 rcases has_iff.1 h with e | e
 ·rw [e]; constructor <;> omega
 ·obtain ⟨p,hp⟩:=mem_ids.1 e
  have:=ok.rng _ hp
  simp only at this
  constructor <;> omega
section
variable {w w':World} {g b m:Nat} {s:Sh} {Z:ZZ} {x:PSc}
theorem SceneAt.look_all (h:SceneAt w g b m s Z x) {i:Int} (hi:I64 i):∃ A c,∀ W,Below w.heap.size w W→(Instr.lookup tPlaces (.map (some m)) (.int .i64 i) false).run Tryz.prog W=.ok (.agg (plcs (ndAt x i) A c (wsAt x i)).toArray) W∧NdOff Z.3 (SFoot b m s x.t) W (ndAt x i) A:=by
 by_cases hh:has x.t i=true
 ·obtain ⟨A,c,hl⟩:=h.look_b hi hh
  have e1:ndAt x i=x.nd i:=if_pos hh
  have e2:wsAt x i=x.ws i:=if_pos hh
  rw [e1,e2]
  exact ⟨A,c,fun W hb=>⟨(hl W hb).1,(hl W hb).2.2⟩⟩
 ·have e1:ndAt x i=Nd.zero:=if_neg hh
  have e2:wsAt x i=Mp.o:=if_neg hh
  rw [e1,e2]
  exact ⟨none,0,fun W hb=>⟨((h.below hb).look_none hi hh).1,row_none rfl _,fun a e=>(nomatch e),fun a e=>(nomatch e)⟩⟩
def SpotQ (E S:Bset) (x:PSc) (i:Int) (w:World) (e:Ending) (w':World):Prop:=∃ A c,e=.returned (.agg (spcs i (par x.t i) (idx (kids x.t (par x.t i)) i) (ndAt x i) A c (wsAt x i)).toArray)∧NdOff E S w (ndAt x i) A∧Below w.heap.size w w'
def sayK (q:Nat) (l:List Int):regs.Say (KY q):=⟨fun x w=>∃ A c,x=.slice A l.length c∧Row eI w A l∧∀ a,A=some a→l≠[]→a.block≠q,fun x w w' h hk=>by
 obtain ⟨A,c,e,hr,hq⟩:=h
 refine ⟨A,c,e,fun hn=>?_,hq⟩
 obtain ⟨b,o,ea,hc⟩:=hr hn
 have hne:l≠[]:=fun e=>by rw [e] at hn; exact absurd hn (by simp)
 refine ⟨b,o,ea,fun j hj=>?_⟩
 have h1:=hc j hj
 rw [← h1]
 unfold World.cell?
 rw [hk.same b (World.block_lt_of_cell? w ⟨b,_,none⟩ h1) (hq _ ea hne)]⟩
theorem spot_any (h:SceneAt w g b m s Z x) (hn:x.t.length≤1000) (ci:Int) (hi:I64 ci) :
  Calls Tryz.prog 212 #[.pointer (some ⟨g,0,none⟩),.int .i64 ci] w (SpotQ Z.3 (SFoot b m s x.t) x ci w):=by
 have hb0:Below w.heap.size w (w.alloc (.cells #[.int .i64 0,.int .i64 0,.int .i64 0,.int .i64 0,.int .i64 0,.int .i64 0,.int .i64 0,.int .i64 0,.int .i64 0,.int .i64 0,.bool false,.bool false,.int .i64 0,.int .i64 0,.int .i64 0,.int .i64 0,.int .i64 0,.int .i64 0,.int .i64 0,.int .u32 0,.int .i64 0,.int .i64 0,.slice none 0 0,.int .i64 0,.int .i64 0,.int .i64 0,.int .i64 0,.int .i64 0,.int .i64 0] 328)):=(Below.refl _ _).alloc (Nat.le_refl _) _
 have HB0:=Hd hb0
 have HS0:=Hd (h.below hb0)
 have HI:=Hd hi
 have HZ:Hid (Blk (w.alloc (.cells #[.int .i64 0,.int .i64 0,.int .i64 0,.int .i64 0,.int .i64 0,.int .i64 0,.int .i64 0,.int .i64 0,.int .i64 0,.int .i64 0,.bool false,.bool false,.int .i64 0,.int .i64 0,.int .i64 0,.int .i64 0,.int .i64 0,.int .i64 0,.int .i64 0,.int .u32 0,.int .i64 0,.int .i64 0,.slice none 0 0,.int .i64 0,.int .i64 0,.int .i64 0,.int .i64 0,.int .i64 0,.int .i64 0] 328)) w.heap.size [.int .i64 0,.int .i64 0,.int .i64 0,.int .i64 0,.int .i64 0,.int .i64 0,.int .i64 0,.int .i64 0,.int .i64 0,.int .i64 0,.bool false,.bool false,.int .i64 0,.int .i64 0,.int .i64 0,.int .i64 0,.int .i64 0,.int .i64 0,.int .i64 0,.int .u32 0,.int .i64 0,.int .i64 0,.slice none 0 0,.int .i64 0,.int .i64 0,.int .i64 0,.int .i64 0,.int .i64 0,.int .i64 0]):=blk_new w [.int .i64 0,.int .i64 0,.int .i64 0,.int .i64 0,.int .i64 0,.int .i64 0,.int .i64 0,.int .i64 0,.int .i64 0,.int .i64 0,.bool false,.bool false,.int .i64 0,.int .i64 0,.int .i64 0,.int .i64 0,.int .i64 0,.int .i64 0,.int .i64 0,.int .u32 0,.int .i64 0,.int .i64 0,.slice none 0 0,.int .i64 0,.int .i64 0,.int .i64 0,.int .i64 0,.int .i64 0,.int .i64 0] _
 have HSZ:Hid (w.heap.size < (w.alloc (.cells #[.int .i64 0,.int .i64 0,.int .i64 0,.int .i64 0,.int .i64 0,.int .i64 0,.int .i64 0,.int .i64 0,.int .i64 0,.int .i64 0,.bool false,.bool false,.int .i64 0,.int .i64 0,.int .i64 0,.int .i64 0,.int .i64 0,.int .i64 0,.int .i64 0,.int .u32 0,.int .i64 0,.int .i64 0,.slice none 0 0,.int .i64 0,.int .i64 0,.int .i64 0,.int .i64 0,.int .i64 0,.int .i64 0] 328)).heap.size):=by show _ < _; simp
 have HN:=Hd hn
 obtain ⟨A,c,hlk⟩:=h.look_all hi
 obtain ⟨n,hnd⟩:∃ n,ndAt x ci=n:=⟨_,rfl⟩
 obtain ⟨u,hws⟩:∃ u,wsAt x ci=u:=⟨_,rfl⟩
 rw [hnd,hws] at hlk
 have HL:=Hd hlk
 obtain ⟨p,hp⟩:∃ p,par x.t ci=p:=⟨_,rfl⟩
 have HP:=Hd hp
 have HP64:Hid (I64 p):=by rw [← hp]; exact par_64 h.tree.ok ci
 have HKL:Hid ((kids x.t p).length≤100000):=by show _≤_; have:=kids_le x.t p; omega
 have HS:=Hd h
 unfold SpotQ
 rw [hp,hnd,hws]
 clear h hn hi hlk hp hb0 hnd hws
 have HPC:=Hd (tparent HS0.out.tree ci HI.out)
 rw [HP.out] at HPC
 obtain ⟨c0,-,-,-,-,-⟩:=HS0.out.top.1
 have i0:=HS0.out.top.2
 have hinv:=inv_parent (.pointer (some ⟨b,0,none⟩))
 go_enter Tryz.func212,Tryz.ntmps212
 go_wp2_with (fail)
 refine HPC.out.mono ?_
 rintro e w2 ⟨rfl,hb2⟩
 generalize (w.alloc (.cells #[.int .i64 0,.int .i64 0,.int .i64 0,.int .i64 0,.int .i64 0,.int .i64 0,.int .i64 0,.int .i64 0,.int .i64 0,.int .i64 0,.bool false,.bool false,.int .i64 0,.int .i64 0,.int .i64 0,.int .i64 0,.int .i64 0,.int .i64 0,.int .i64 0,.int .u32 0,.int .i64 0,.int .i64 0,.slice none 0 0,.int .i64 0,.int .i64 0,.int .i64 0,.int .i64 0,.int .i64 0,.int .i64 0] 328))=wz at *
 have HB2:Hid (Below w.heap.size w w2):=HB0.out.trans (hb2.mono HB0.out.size)
 have HJ0:Hid (JV w.heap.size [.int .i64 0,.int .i64 0,.int .i64 0,.int .i64 0,.int .i64 0,.int .i64 0,.int .i64 0,.int .i64 0,.int .i64 0,.int .i64 0,.bool false,.bool false,.int .i64 0,.int .i64 0,.int .i64 0,.int .i64 0,.int .i64 0,.int .i64 0,.int .i64 0,.int .u32 0,.int .i64 0,.int .i64 0,.slice none 0 0,.int .i64 0,.int .i64 0,.int .i64 0,.int .i64 0,.int .i64 0,.int .i64 0] (spcs ci p (idx (kids x.t p) ci) n A c u) false w2):=⟨HZ.out.below' hb2⟩
 have HLT:Hid (w.heap.size < w2.heap.size):=Nat.lt_of_lt_of_le HSZ.out hb2.size
 clear hb2 HPC HZ HSZ hinv c0 i0 HS0
 have FB:Hid (∀ W,KY w.heap.size w2 W→Below w.heap.size w W):=fun W hk=>HB2.out.trans (hk.to_below (Nat.le_refl _) HB2.out.size)
 have FS:Hid (∀ W,KY w.heap.size w2 W→SceneAt W g b m s Z x):=fun W hk=>HS.out.below (FB.out W hk)
 have FL:Hid (∀ W,KY w.heap.size w2 W→(Instr.lookup tPlaces (.map (some m)) (.int .i64 ci) false).run Tryz.prog W=.ok (.agg (plcs n A c u).toArray) W∧NdOff Z.3 (SFoot b m s x.t) W n A):=fun W hk=>HL.out W (FB.out W hk)
 have HK:Hid (∀ W,KY w.heap.size w2 W→Calls Tryz.prog 319 #[.pointer (some ⟨b,0,none⟩),.int .i64 p] W fun e w'=>∃ A9 c9,e=.returned (.slice A9 (kids x.t p).length c9)∧Row eI w' A9 (kids x.t p)∧(∀ a,A9=some a→kids x.t p≠[]→a.block≠w.heap.size)∧Below W.heap.size W w'):=fun W hk=>by
  refine (tkids (FS.out W hk).tree (by have:=HN.out; omega) p HP64.out).mono ?_
  rintro e w' ⟨v,rfl,ho,hb⟩
  obtain ⟨A9,c9,rfl,-,-,hr⟩:=IOwn.irow ho
  refine ⟨A9,c9,rfl,hr,fun a ea _ e=>?_,hb⟩
  have h1:=(SOwn.block ho (show (Value.slice A9 (kids x.t p).length c9).ownBlock=some a.block by rw [ea]; rfl)).1
  have:=HLT.out
  have:=hk.size
  omega
 go_upto_region 2 with (fail)
 refine regs.wp_region_put (KY w.heap.size) (fun L wx=>JV w.heap.size [.int .i64 0,.int .i64 0,.int .i64 0,.int .i64 0,.int .i64 0,.int .i64 0,.int .i64 0,.int .i64 0,.int .i64 0,.int .i64 0,.bool false,.bool false,.int .i64 0,.int .i64 0,.int .i64 0,.int .i64 0,.int .i64 0,.int .i64 0,.int .i64 0,.int .u32 0,.int .i64 0,.int .i64 0,.slice none 0 0,.int .i64 0,.int .i64 0,.int .i64 0,.int .i64 0,.int .i64 0,.int .i64 0] (spcs ci p (idx (kids x.t p) ci) n A c u) (L 17) wx) [12,13,14,15,16,17,18,19,20,21,22,23,24,25,26,27,28] (by kernel_rfl) (by kernel_rfl) (fun _=>KY.refl _ _) (fun _ _ _ h k=>h.trans k) (fun i=>(match i with
  | 0=>regs.Say.val _ (.int .i64 ci)
  | 1=>regs.Say.val _ (.int .i64 p)
  | 2=>regs.Say.val _ (.pointer (some ⟨g,0,none⟩))
  | 3=>regs.Say.val _ (.pointer (some ⟨g,0,none⟩))
  | 4=>regs.Say.val _ (.pointer (some ⟨g,0,none⟩))
  | 5=>regs.Say.val _ (.iface 109 (.pointer (some ⟨b,0,none⟩)))
  | 6=>regs.Say.val _ (.int .i64 p)
  | 7=>sayK w.heap.size (kids x.t p)
  | 8=>regs.Say.val _ (.int .i64 ci)
  | 9=>regs.Say.val _ (.int .i64 (idx (kids x.t p) ci))
  | 10=>regs.Say.val _ (.pointer (some ⟨g,0,none⟩))
  | 11=>regs.Say.val _ (.pointer (some ⟨g,0,none⟩))
  | 12=>regs.Say.val _ (.pointer (some ⟨g,5,none⟩))
  | 13=>regs.Say.val _ (.map (some m))
  | 14=>regs.Say.val _ (.int .i64 ci)
  | 15=>regs.Say.val _ (.agg (plcs n A c u).toArray)
  | 16=>regs.Say.val _ (.agg (spcs ci p (idx (kids x.t p) ci) n A c u).toArray)
  | 17=>regs.Say.any _
  | _=>regs.Say.any _:regs.Say (KY w.heap.size)).p) (fun _=>regs.Say.mono _) (by kernel_rfl) ((KY.refl _ _).below (Below.refl _ _).drew) (HJ0.out.below (Below.refl _ _).drew) ⟨?_,?_,?_,?_,?_,?_,?_,?_,?_,?_,?_,?_,?_,?_,?_,?_,?_,?_,trivial⟩ ?_
 ·refine regs.StepOK.plain rfl fun L a w1 hh=>?_
  have h1:a.tmps[1]?.getD undef=.int .i64 ci:=rq (hh.old 1 rfl)
  have hJ:=Hd hh.st; clear hh; go_simp; exact ⟨_,rfl,KY.refl _ _,rfl,hJ.out⟩
 ·refine regs.StepOK.plain rfl fun L a w1 hh=>?_
  have h5:a.tmps[5]?.getD undef=.int .i64 p:=rq (hh.old 5 rfl)
  have hJ:=Hd hh.st; clear hh; go_simp; exact ⟨_,rfl,KY.refl _ _,rfl,hJ.out⟩
 ·refine regs.StepOK.plain rfl fun L a w1 hh=>?_
  have h0:a.tmps[0]?.getD undef=.pointer (some ⟨g,0,none⟩):=rq (hh.old 0 rfl)
  have hJ:=Hd hh.st; clear hh; go_simp; exact ⟨_,rfl,KY.refl _ _,rfl,hJ.out⟩
 ·refine regs.StepOK.plain rfl fun L a w1 hh=>?_
  have h14:=rq (hh.dep 2 14 (by kernel_rfl) (by kernel_rfl))
  have hJ:=Hd hh.st; clear hh; go_simp; exact ⟨_,rfl,KY.refl _ _,rfl,hJ.out⟩
 ·refine regs.StepOK.plain rfl fun L a w1 hh=>?_
  have h15:=rq (hh.dep 3 15 (by kernel_rfl) (by kernel_rfl))
  have i0:=((FS.out _ hh.rel).blk.blk).inside
  have hJ:=Hd hh.st; clear hh; go_simp; exact ⟨_,rfl,KY.refl _ _,rfl,hJ.out⟩
 ·refine regs.StepOK.plain rfl fun L a w1 hh=>?_
  have h16:=rq (hh.dep 4 16 (by kernel_rfl) (by kernel_rfl))
  have hB:=Hd ((FS.out _ hh.rel).blk.blk)
  have c0:w1.cell? ⟨g,0,none⟩=some (.iface 109 (.pointer (some ⟨b,0,none⟩))):=hB.out.cell 0
  have i0:=hB.out.inside
  have hJ:=Hd hh.st; clear hh; go_simp; exact ⟨_,rfl,KY.refl _ _,rfl,hJ.out⟩
 ·refine regs.StepOK.plain rfl fun L a w1 hh=>?_
  have h5:a.tmps[5]?.getD undef=.int .i64 p:=rq (hh.old 5 rfl)
  have hJ:=Hd hh.st; clear hh; go_simp; exact ⟨_,rfl,KY.refl _ _,rfl,hJ.out⟩
 ·refine regs.StepOK.plain rfl fun L a w1 hh=>?_
  have h17:=rq (hh.dep 5 17 (by kernel_rfl) (by kernel_rfl))
  have h18:=rq (hh.dep 6 18 (by kernel_rfl) (by kernel_rfl))
  have hinv:=inv_kids (.pointer (some ⟨b,0,none⟩))
  have hC:=Hd (HK.out _ hh.rel)
  have hJ:=Hd hh.st; clear hh; go_simp; refine hC.out.mono ?_
  rintro e w9 ⟨A9,c9,rfl,hr9,hq9,hb9⟩
  exact ⟨_,rfl,(KY.refl _ _).below hb9,⟨A9,c9,rfl,hr9,hq9⟩,hJ.out.below hb9⟩
 ·refine regs.StepOK.plain rfl fun L a w1 hh=>?_
  have h1:a.tmps[1]?.getD undef=.int .i64 ci:=rq (hh.old 1 rfl)
  have hJ:=Hd hh.st; clear hh; go_simp; exact ⟨_,rfl,KY.refl _ _,rfl,hJ.out⟩
 ·refine regs.StepOK.plain rfl fun L a w1 hh=>?_
  have h20:=rq (hh.dep 8 20 (by kernel_rfl) (by kernel_rfl))
  obtain ⟨A9,c9,e9,hr9,-⟩:=hh.dep 7 19 (by kernel_rfl) (by kernel_rfl)
  have h19:a.tmps[19]?.getD undef=.slice A9 (kids x.t p).length c9:=rq (e9)
  clear e9
  have hC:=Hd (index_int A9 (kids x.t p) c9 ci w1 hr9 HKL.out)
  clear hr9
  have hJ:=Hd hh.st; clear hh; go_simp; refine hC.out.mono ?_
  rintro e w9 ⟨rfl,hb9⟩
  exact ⟨_,rfl,(KY.refl _ _).below hb9,rfl,hJ.out.below hb9⟩
 ·refine regs.StepOK.plain rfl fun L a w1 hh=>?_
  have h0:a.tmps[0]?.getD undef=.pointer (some ⟨g,0,none⟩):=rq (hh.old 0 rfl)
  have hJ:=Hd hh.st; clear hh; go_simp; exact ⟨_,rfl,KY.refl _ _,rfl,hJ.out⟩
 ·refine regs.StepOK.plain rfl fun L a w1 hh=>?_
  have h22:=rq (hh.dep 10 22 (by kernel_rfl) (by kernel_rfl))
  have hJ:=Hd hh.st; clear hh; go_simp; exact ⟨_,rfl,KY.refl _ _,rfl,hJ.out⟩
 ·refine regs.StepOK.plain rfl fun L a w1 hh=>?_
  have h23:=rq (hh.dep 11 23 (by kernel_rfl) (by kernel_rfl))
  have i0:=((FS.out _ hh.rel).blk.blk).inside
  have hJ:=Hd hh.st; clear hh; go_simp; exact ⟨_,rfl,KY.refl _ _,rfl,hJ.out⟩
 ·refine regs.StepOK.plain rfl fun L a w1 hh=>?_
  have h24:=rq (hh.dep 12 24 (by kernel_rfl) (by kernel_rfl))
  have hB:=Hd ((FS.out _ hh.rel).blk.blk)
  have c0:w1.cell? ⟨g,5,none⟩=some (.map (some m)):=hB.out.cell 5
  have i0:=hB.out.inside
  have hJ:=Hd hh.st; clear hh; go_simp; exact ⟨_,rfl,KY.refl _ _,rfl,hJ.out⟩
 ·refine regs.StepOK.plain rfl fun L a w1 hh=>?_
  have h1:a.tmps[1]?.getD undef=.int .i64 ci:=rq (hh.old 1 rfl)
  have hJ:=Hd hh.st; clear hh; go_simp; exact ⟨_,rfl,KY.refl _ _,rfl,hJ.out⟩
 ·refine regs.StepOK.plain rfl fun L a w1 hh=>?_
  have h25:=rq (hh.dep 13 25 (by kernel_rfl) (by kernel_rfl))
  have h26:=rq (hh.dep 14 26 (by kernel_rfl) (by kernel_rfl))
  have hlk:=(FL.out _ hh.rel).1
  have hJ:=Hd hh.st; clear hh; go_simp; exact ⟨_,rfl,KY.refl _ _,rfl,hJ.out⟩
 ·refine regs.StepOK.plain rfl fun L a w1 hh=>?_
  have h12:=rq (hh.dep 0 12 (by kernel_rfl) (by kernel_rfl))
  have h13:=rq (hh.dep 1 13 (by kernel_rfl) (by kernel_rfl))
  have h21:=rq (hh.dep 9 21 (by kernel_rfl) (by kernel_rfl))
  have h27:=rq (hh.dep 15 27 (by kernel_rfl) (by kernel_rfl))
  have hJ:=Hd hh.st
  exact wp_build _ _ rfl (by simp [go_sem,h12,h13,h21,h27]) (build_spot ci p _ n A c u w1) ⟨_,rfl,KY.refl _ _,rfl,hJ.out⟩
 ·refine regs.StepOK.plain rfl fun L a w1 hh=>?_
  have h4:a.tmps[4]?.getD undef=.pointer (some ⟨w.heap.size,0,none⟩):=rq (hh.old 4 rfl)
  have h28:=rq (hh.dep 16 28 (by kernel_rfl) (by kernel_rfl))
  have hB9:=hh.st.blk
  rw [hh.un] at hB9
  refine wp_stow 328 _ _ rfl w.heap.size 0 (by simpa [go_sem] using h4) (spcs ci p (idx (kids x.t p) ci) n A c u) (by simpa [go_sem] using h28) _ hB9 (Nat.le_of_ble_eq_true rfl) (by kernel_rfl) (by rfl) ?_
  intro w9 hW9 hC9
  exact ⟨undef,rfl,KY.wrote hW9,trivial,⟨hC9⟩⟩
 intro L w3 val hL hJ hR hv
 have HR3:=Hd hR
 have HJ3:=Hd hJ
 rw [hL 17 (by decide)] at HJ3
 clear hv hL hJ hR
 simp only [regs.putAll,List.map_cons,List.map_nil]
 simp only [Act.put,List.setIfInBounds_toArray,List.set_cons_zero,List.set_cons_succ]
 generalize val 12=v12,val 13=v13,val 14=v14,val 15=v15,val 16=v16,val 17=v17,val 18=v18,val 19=v19,val 20=v20,val 21=v21,val 22=v22,val 23=v23,val 24=v24,val 25=v25,val 26=v26,val 27=v27,val 28=v28 at *
 go_wp2_with (fail)
 exact blk_ret rfl rfl HJ3.out.blk Tryz.underlying328 rfl (by kernel_rfl) ⟨A,c,rfl,(HL.out _ (Below.refl _ _)).2,FB.out _ HR3.out⟩
/-! ### A node is moved,and moved back -/
theorem movS_not {t:T} {i p n:Int} (h:(movS t i p n).2≠0):(movS t i p n).1=t:=by
 unfold movS at h ⊢
 by_cases h1:i=0
 ·rw [if_pos h1]
 rw [if_neg h1] at h ⊢
 by_cases h2:has t i=false
 ·rw [if_pos h2]
 rw [if_neg h2] at h ⊢
 by_cases h3:has t p=false
 ·rw [if_pos h3]
 rw [if_neg h3] at h ⊢
 by_cases h4:p=i∨within t p i=true
 ·rw [if_pos h4]
 rw [if_neg h4] at h ⊢
 by_cases h5:n < 0∨(((kids t p).filter fun k=>decide (k≠i)).length:Int) < n
 ·rw [if_pos h5]
 rw [if_neg h5] at h
 exact absurd rfl h
theorem movS_yes {t:T} {i p n:Int} (h:(movS t i p n).2=0):(movS t i p n).1=trm.move i p n.toNat t∧i∈ids t∧n.toNat≤((kids t p).filter fun k=>decide (k≠i)).length:=by
 unfold movS at h ⊢
 by_cases h1:i=0
 ·rw [if_pos h1] at h; cases h
 rw [if_neg h1] at h ⊢
 by_cases h2:has t i=false
 ·rw [if_pos h2] at h; cases h
 rw [if_neg h2] at h ⊢
 by_cases h3:has t p=false
 ·rw [if_pos h3] at h; cases h
 rw [if_neg h3] at h ⊢
 by_cases h4:p=i∨within t p i=true
 ·rw [if_pos h4] at h; cases h
 rw [if_neg h4] at h ⊢
 by_cases h5:n < 0∨(((kids t p).filter fun k=>decide (k≠i)).length:Int) < n
 ·rw [if_pos h5] at h; cases h
 rw [if_neg h5]
 exact ⟨rfl,(has_iff.1 (by simpa using h2)).resolve_left h1,by omega⟩
def moveS (x:PSc) (i p n:Int):PSc×Int:=if (movS x.t i p n).2≠0 then (x,(movS x.t i p n).2) else (⟨(movS x.t i p n).1,x.nd,x.ws⟩,0)
theorem mov_back {t t':T} {i p n:Int} (ok:Ok t) (h:movS t i p n=(t',0)):i∈ids t∧(∀ j,has t' j=true↔has t j=true)∧∃ t2,movS t' i (par t i) (idx (kids t (par t i)) i)=(t2,0)∧∀ q,kids t2 q=kids t q:=by
 have hy:=movS_yes (t:=t) (i:=i) (p:=p) (n:=n) (by rw [h])
 rw [h] at hy
 obtain ⟨h1,h2,h3⟩:=hy
 simp only at h1
 have hok:Ok t':=by have:=(movS_ok ok i p n).1; rw [h] at this; exact this
 subst h1
 have hk:=kid_of h2
 have hlt:(kids t (par t i)).idxOf i < (kids t (par t i)).length:=List.idxOf_lt_length_of_mem hk
 have he:(kids t (par t i))[(kids t (par t i)).idxOf i]=i:=List.getElem_idxOf hlt
 have hb:=move_back ok h2 h3 hlt he hok
 refine ⟨h2,fun j=>?_,_,?_,hb.2⟩
 ·rw [has_iff,has_iff,ids_move h2]
 ·unfold idx
  rw [if_pos hk]
  exact hb.1
theorem enters_move1:Enters Tryz.prog 214:=enters_of Tryz.func214 (by kernel_rfl) rfl
theorem move_undo (h:SceneAt w g b m s Z x) (hn:x.t.length≤1000) {kb ki kp:Nat} {ci p q:Int} {n:Nd} {A:Option Addr} {c:Nat} {u:Mp} {t2:T} (hb:Blk w kb [.pointer (some ⟨g,0,none⟩)]) (hc:Blk w ki [.int .i64 ci]) (hpb:Blk w kp (spcs ci p q n A c u)) (h1:¬ SFoot b m s x.t kb) (h2:¬ SFoot b m s x.t ki) (h3:¬ SFoot b m s x.t kp) (hi:I64 ci) (hp:I64 p) (hmv:movS x.t ci p q=(t2,0)) :
  Calls Tryz.prog 214 #[.pointer (some ⟨kb,0,none⟩),.pointer (some ⟨ki,0,none⟩),.pointer (some ⟨kp,0,none⟩)] w fun e w'=>(∃ r,e=.returned r)∧∃ s',SMid w' g b m s' Z t2 (fun j=>has x.t j=true) x.nd x.ws∧TurnP (SFoot b m s x.t) (SFoot b m s' t2) w w':=by
 have HMV:=Hd hmv
 have HS:=Hd h
 have HN:=Hd hn
 have HB:=Hd hb
 have HC:=Hd hc
 have HPB:=Hd hpb
 have HNB:=Hd h1
 have HNC:=Hd h2
 have HNP:=Hd h3
 have HGT:=Hd h.blk
 have HNG:=Hd h.gfar
 have HI:=Hd hi
 have HP:=Hd hp
 clear h hn hb hc hpb h1 h2 h3 hi hp hmv
 go_enter Tryz.func214,Tryz.ntmps214
 go_upto_region 0 with (fail)
 refine regs.wp_region_put (TurnP (SFoot b m s x.t) (SFoot b m s x.t)) (fun L wx=>MidJ w g b m s Z x.t (fun i=>has x.t i=true) x.nd x.ws t2 (L 9) wx) [3,4,5,6,7,8,9,10,11,12] (by kernel_rfl) (by kernel_rfl) (fun _=>TurnP.refl _ _) (fun _ _ _ h k=>h.trans k) (fun i=>(match i with
  | 0=>regs.Say.val _ (.pointer (some ⟨g,0,none⟩))
  | 1=>regs.Say.val _ (.pointer (some ⟨g,0,none⟩))
  | 2=>regs.Say.val _ (.pointer (some ⟨g,1,none⟩))
  | 3=>regs.Say.val _ (.pointer (some ⟨b,0,none⟩))
  | 4=>regs.Say.val _ (.int .i64 ci)
  | 5=>regs.Say.val _ (.pointer (some ⟨kp,1,none⟩))
  | 6=>regs.Say.val _ (.int .i64 p)
  | 7=>regs.Say.val _ (.pointer (some ⟨kp,2,none⟩))
  | 8=>regs.Say.val _ (.int .i64 q)
  | 9=>regs.Say.any _
  | _=>regs.Say.any _:regs.Say (TurnP (SFoot b m s x.t) (SFoot b m s x.t))).p) (fun _=>regs.Say.mono _) (by kernel_rfl) (TurnP.below (Below.refl _ _).drew) (⟨fun _=>HS.out.mid.below (Below.refl _ _).drew,(fun e=>nomatch e)⟩) ⟨?_,?_,?_,?_,?_,?_,?_,?_,?_,?_,trivial⟩ ?_
 ·refine regs.StepOK.plain rfl fun L a w1 hh=>?_
  have h0:a.tmps[0]?.getD undef=.pointer (some ⟨kb,0,none⟩):=rq (hh.old 0 rfl)
  have hB:=Hd (HB.out.off HNB.out hh.rel)
  have c0:w1.cell? ⟨kb,0,none⟩=some (.pointer (some ⟨g,0,none⟩)):=hB.out.cell 0
  have i0:=hB.out.inside
  have hJ:=Hd hh.st; clear hh; go_simp; exact ⟨_,rfl,TurnP.refl _ _,rfl,hJ.out⟩
 ·refine regs.StepOK.plain rfl fun L a w1 hh=>?_
  have h3:=rq (hh.dep 0 3 (by kernel_rfl) (by kernel_rfl))
  have hJ:=Hd hh.st; clear hh; go_simp; exact ⟨_,rfl,TurnP.refl _ _,rfl,hJ.out⟩
 ·refine regs.StepOK.plain rfl fun L a w1 hh=>?_
  have h4:=rq (hh.dep 1 4 (by kernel_rfl) (by kernel_rfl))
  have i0:=((BlkT.off HGT.out HNG.out hh.rel).blk).inside
  have hJ:=Hd hh.st; clear hh; go_simp; exact ⟨_,rfl,TurnP.refl _ _,rfl,hJ.out⟩
 ·refine regs.StepOK.plain rfl fun L a w1 hh=>?_
  have h5:=rq (hh.dep 2 5 (by kernel_rfl) (by kernel_rfl))
  have hB:=Hd ((BlkT.off HGT.out HNG.out hh.rel).blk)
  have c0:w1.cell? ⟨g,1,none⟩=some (.pointer (some ⟨b,0,none⟩)):=hB.out.cell 1
  have i0:=hB.out.inside
  have hJ:=Hd hh.st; clear hh; go_simp; exact ⟨_,rfl,TurnP.refl _ _,rfl,hJ.out⟩
 ·refine regs.StepOK.plain rfl fun L a w1 hh=>?_
  have h1:a.tmps[1]?.getD undef=.pointer (some ⟨ki,0,none⟩):=rq (hh.old 1 rfl)
  have hB:=Hd (HC.out.off HNC.out hh.rel)
  have c0:w1.cell? ⟨ki,0,none⟩=some (.int .i64 ci):=hB.out.cell 0
  have i0:=hB.out.inside
  have hJ:=Hd hh.st; clear hh; go_simp; exact ⟨_,rfl,TurnP.refl _ _,rfl,hJ.out⟩
 ·refine regs.StepOK.plain rfl fun L a w1 hh=>?_
  have h2:a.tmps[2]?.getD undef=.pointer (some ⟨kp,0,none⟩):=rq (hh.old 2 rfl)
  have i0:=(HPB.out.off HNP.out hh.rel).inside
  have hJ:=Hd hh.st; clear hh; go_simp; exact ⟨_,rfl,TurnP.refl _ _,rfl,hJ.out⟩
 ·refine regs.StepOK.plain rfl fun L a w1 hh=>?_
  have h8:=rq (hh.dep 5 8 (by kernel_rfl) (by kernel_rfl))
  have hB:=Hd (HPB.out.off HNP.out hh.rel)
  have c0:w1.cell? ⟨kp,1,none⟩=some (.int .i64 p):=hB.out.cell 1
  have i0:=hB.out.inside
  have hJ:=Hd hh.st; clear hh; go_simp; exact ⟨_,rfl,TurnP.refl _ _,rfl,hJ.out⟩
 ·refine regs.StepOK.plain rfl fun L a w1 hh=>?_
  have h2:a.tmps[2]?.getD undef=.pointer (some ⟨kp,0,none⟩):=rq (hh.old 2 rfl)
  have i0:=(HPB.out.off HNP.out hh.rel).inside
  have hJ:=Hd hh.st; clear hh; go_simp; exact ⟨_,rfl,TurnP.refl _ _,rfl,hJ.out⟩
 ·refine regs.StepOK.plain rfl fun L a w1 hh=>?_
  have h10:=rq (hh.dep 7 10 (by kernel_rfl) (by kernel_rfl))
  have hB:=Hd (HPB.out.off HNP.out hh.rel)
  have c0:w1.cell? ⟨kp,2,none⟩=some (.int .i64 q):=hB.out.cell 2
  have i0:=hB.out.inside
  have hJ:=Hd hh.st; clear hh; go_simp; exact ⟨_,rfl,TurnP.refl _ _,rfl,hJ.out⟩
 ·refine regs.StepOK.plain rfl fun L a w1 hh=>?_
  have h6:=rq (hh.dep 3 6 (by kernel_rfl) (by kernel_rfl))
  have h7:=rq (hh.dep 4 7 (by kernel_rfl) (by kernel_rfl))
  have h9:=rq (hh.dep 6 9 (by kernel_rfl) (by kernel_rfl))
  have h11:=rq (hh.dep 8 11 (by kernel_rfl) (by kernel_rfl))
  have hS:=Hd (hh.st.no hh.un)
  have hR:=Hd (show TurnP (SFoot b m s x.t) (SFoot b m s x.t) w w1 from hh.rel)
  have hB:=Hd (show ∀ wq,regs.bl w1 wq→True from fun _ _=>trivial)
  clear hh hB
  go_simp
  refine (tmove hS.out.tree HN.out ci p q HI.out HP.out).mono ?_
  rw [HMV.out]
  rintro e w9 ⟨s9,rfl,ht9,hu9⟩
  have hm:=hS.out.step ht9 hu9
  exact ⟨_,rfl,hm.2.wide (fun _ k=>k),trivial,⟨(fun e=>nomatch e),fun _=>⟨_,hm.1,hR.out.trans hm.2⟩⟩⟩
 intro L w4 val hL hJ hR hv
 have HR4:=Hd hR
 obtain ⟨s5,hmq,htq⟩:=hJ.yes (hL 9 (by decide))
 have HM4:=Hd hmq
 have HT4:=Hd htq
 clear hv hL hJ hR hmq htq
 simp only [regs.putAll,List.map_cons,List.map_nil]
 simp only [Act.put,List.setIfInBounds_toArray,List.set_cons_zero,List.set_cons_succ]
 generalize val 3=v3,val 4=v4,val 5=v5,val 6=v6,val 7=v7,val 8=v8,val 9=v9,val 10=v10,val 11=v11,val 12=v12 at *
 go_wp2_with (fail)
 go_end0
 exact ⟨⟨_,rfl⟩,s5,HM4.out,HT4.out⟩
theorem move_any (h:SceneAt w g b m s Z x) (hn:x.t.length≤900) (ci cp cn:Int) (hi:I64 ci) (hp:I64 cp) :
  Calls Tryz.prog 173 #[.pointer (some ⟨g,0,none⟩),.int .i64 ci,.int .i64 cp,.int .i64 cn] w (OpQ g b m Z s x (moveS x ci cp cn) w):=by
 have hb0:Below w.heap.size w ((w.alloc (.cells #[.pointer (some ⟨g,0,none⟩)] 25)).alloc (.cells #[.int .i64 ci] 3)):=((Below.refl _ _).alloc (Nat.le_refl _) _).alloc (by simp) _
 have HB0:=Hd hb0
 have HB1:Hid (Blk ((w.alloc (.cells #[.pointer (some ⟨g,0,none⟩)] 25)).alloc (.cells #[.int .i64 ci] 3)) w.heap.size [.pointer (some ⟨g,0,none⟩)]):=(blk_new w [.pointer (some ⟨g,0,none⟩)] _).alloc _
 have HC1:Hid (Blk ((w.alloc (.cells #[.pointer (some ⟨g,0,none⟩)] 25)).alloc (.cells #[.int .i64 ci] 3)) (w.heap.size + 1) [.int .i64 ci]):=blk_at (w.alloc _) _ (by simp) [.int .i64 ci] _
 have HS0:Hid (SceneAt ((w.alloc (.cells #[.pointer (some ⟨g,0,none⟩)] 25)).alloc (.cells #[.int .i64 ci] 3)) g b m s Z x):=h.below hb0
 have HSI:Hid (∀ k,SFoot b m s x.t k→k < w.heap.size):=h.inside
 have HOE:Hid (∀ k,Z.3 k→k < w.heap.size):=fun k hk=>(h.old k hk).1
 have HOK:=Hd h.tree.ok
 have HN:Hid (x.t.length≤1000):=by show _≤_; omega
 have HSZ:Hid (((w.alloc (.cells #[.pointer (some ⟨g,0,none⟩)] 25)).alloc (.cells #[.int .i64 ci] 3)).heap.size=w.heap.size + 2):=by show _=_; simp
 have HI:=Hd hi
 have HP:=Hd hp
 obtain ⟨R,hR⟩:∃ R,moveS x ci cp cn=R:=⟨_,rfl⟩
 obtain ⟨⟨t1,e0⟩,hmv⟩:∃ r,movS x.t ci cp cn=r:=⟨_,rfl⟩
 have HMV:=Hd hmv
 have HR:Hid (R=if e0≠0 then (x,e0) else (⟨t1,x.nd,x.ws⟩,0)):=by
  show _=_
  rw [← hR]
  unfold moveS
  rw [hmv]
 have HSP:=Hd (spot_any HS0.out HN.out ci hi)
 unfold SpotQ at HSP
 rw [hR]
 have c0:((w.alloc (.cells #[.pointer (some ⟨g,0,none⟩)] 25)).alloc (.cells #[.int .i64 ci] 3)).cell? ⟨w.heap.size,0,none⟩=some (.pointer (some ⟨g,0,none⟩)):=HB1.out.cell 0
 have i0:=HB1.out.inside
 have c1:((w.alloc (.cells #[.pointer (some ⟨g,0,none⟩)] 25)).alloc (.cells #[.int .i64 ci] 3)).cell? ⟨w.heap.size + 1,0,none⟩=some (.int .i64 ci):=HC1.out.cell 0
 have i1:=HC1.out.inside
 clear hR h hn hi hp hb0 hmv
 go_enter Tryz.func173,Tryz.ntmps173
 go_wp2_with (fail)
 refine HSP.out.mono ?_
 rintro e w2 ⟨A,c,rfl,hnd,hb2⟩
 generalize ((w.alloc (.cells #[.pointer (some ⟨g,0,none⟩)] 25)).alloc (.cells #[.int .i64 ci] 3))=wz at *
 have HZ2:Hid (Blk (w2.alloc (.cells #[.int .i64 0,.int .i64 0,.int .i64 0,.int .i64 0,.int .i64 0,.int .i64 0,.int .i64 0,.int .i64 0,.int .i64 0,.int .i64 0,.bool false,.bool false,.int .i64 0,.int .i64 0,.int .i64 0,.int .i64 0,.int .i64 0,.int .i64 0,.int .i64 0,.int .u32 0,.int .i64 0,.int .i64 0,.slice none 0 0,.int .i64 0,.int .i64 0,.int .i64 0,.int .i64 0,.int .i64 0,.int .i64 0] 328)) w2.heap.size [.int .i64 0,.int .i64 0,.int .i64 0,.int .i64 0,.int .i64 0,.int .i64 0,.int .i64 0,.int .i64 0,.int .i64 0,.int .i64 0,.bool false,.bool false,.int .i64 0,.int .i64 0,.int .i64 0,.int .i64 0,.int .i64 0,.int .i64 0,.int .i64 0,.int .u32 0,.int .i64 0,.int .i64 0,.slice none 0 0,.int .i64 0,.int .i64 0,.int .i64 0,.int .i64 0,.int .i64 0,.int .i64 0]):=blk_new w2 [.int .i64 0,.int .i64 0,.int .i64 0,.int .i64 0,.int .i64 0,.int .i64 0,.int .i64 0,.int .i64 0,.int .i64 0,.int .i64 0,.bool false,.bool false,.int .i64 0,.int .i64 0,.int .i64 0,.int .i64 0,.int .i64 0,.int .i64 0,.int .i64 0,.int .u32 0,.int .i64 0,.int .i64 0,.slice none 0 0,.int .i64 0,.int .i64 0,.int .i64 0,.int .i64 0,.int .i64 0,.int .i64 0] _
 have HBa:Hid (Below w2.heap.size w2 (w2.alloc (.cells #[.int .i64 0,.int .i64 0,.int .i64 0,.int .i64 0,.int .i64 0,.int .i64 0,.int .i64 0,.int .i64 0,.int .i64 0,.int .i64 0,.bool false,.bool false,.int .i64 0,.int .i64 0,.int .i64 0,.int .i64 0,.int .i64 0,.int .i64 0,.int .i64 0,.int .u32 0,.int .i64 0,.int .i64 0,.slice none 0 0,.int .i64 0,.int .i64 0,.int .i64 0,.int .i64 0,.int .i64 0,.int .i64 0] 328))):=(Below.refl _ _).alloc (Nat.le_refl _) _
 have HB2:Hid (Below wz.heap.size wz w2):=hb2
 clear hb2 HSP c0 i0 c1 i1
 go_upto_region 2 with (first | (with_reducible show wpList _ _ _ (Oper.mk _ (Op.store _ _ _) _ _ _ _ :: _) _ _; first | (refine wpl_stow 328 _ _ rfl rfl rfl _ 0 rfl (spcs ci (par x.t ci) (idx (kids x.t (par x.t ci)) ci) (ndAt x ci) A c (wsAt x ci)) rfl ([.int .i64 0,.int .i64 0,.int .i64 0,.int .i64 0,.int .i64 0,.int .i64 0,.int .i64 0,.int .i64 0,.int .i64 0,.int .i64 0,.bool false,.bool false,.int .i64 0,.int .i64 0,.int .i64 0,.int .i64 0,.int .i64 0,.int .i64 0,.int .i64 0,.int .u32 0,.int .i64 0,.int .i64 0,.slice none 0 0,.int .i64 0,.int .i64 0,.int .i64 0,.int .i64 0,.int .i64 0,.int .i64 0]) HZ2.out (spcs ci (par x.t ci) (idx (kids x.t (par x.t ci)) ci) (ndAt x ci) A c (wsAt x ci)) rfl (Nat.le_of_ble_eq_true rfl) (by kernel_rfl) (spcs_one _ _ _ _ _ _ _) ?_; intro w3 HW3 HK3)))
 have HB23:Hid (Below w2.heap.size w2 w3):=HW3.out.below HBa.out (Nat.le_refl _)
 have HBz:Hid (Below wz.heap.size wz w3):=HB2.out.trans (HB23.out.mono HB2.out.size)
 have HB:=Hd (HB1.out.below' HBz.out)
 have HC:=Hd (HC1.out.below' HBz.out)
 have HS:=Hd (HS0.out.below HBz.out)
 have HNB:Hid (¬ SFoot b m s x.t w.heap.size):=fun e=>by have:=HSI.out _ e; omega
 have HNC:Hid (¬ SFoot b m s x.t (w.heap.size + 1)):=fun e=>by have:=HSI.out _ e; omega
 have HGT:=Hd HS.out.blk
 have HNG:=Hd HS.out.gfar
 have hkp:w.heap.size + 2≤w2.heap.size:=by have:=HB2.out.size; have:=HSZ.out; omega
 have HKP:=Hd hkp
 obtain ⟨kp,hk⟩:∃ kp,w2.heap.size=kp:=⟨_,rfl⟩
 rw [hk] at HK3 HKP ⊢
 have HNP:Hid (¬ SFoot b m s x.t kp):=fun e=>by have:=HSI.out _ e; have:=HKP.out; omega
 clear hk hkp HZ2 HBa HW3 HB23 HB2 hnd HB1 HC1 HS0
 refine regs.wp_region_put (TurnP (SFoot b m s x.t) (SFoot b m s x.t)) (fun L wx=>MidJ w3 g b m s Z x.t (fun i=>has x.t i=true) x.nd x.ws t1 (L 7) wx) [15,16,17,18,19,20,21,22,11] (by kernel_rfl) (by kernel_rfl) (fun _=>TurnP.refl _ _) (fun _ _ _ h k=>h.trans k) (fun i=>(match i with
  | 0=>regs.Say.val _ (.pointer (some ⟨g,0,none⟩))
  | 1=>regs.Say.val _ (.pointer (some ⟨g,0,none⟩))
  | 2=>regs.Say.val _ (.pointer (some ⟨g,1,none⟩))
  | 3=>regs.Say.val _ (.pointer (some ⟨b,0,none⟩))
  | 4=>regs.Say.val _ (.int .i64 ci)
  | 5=>regs.Say.val _ (.int .i64 cp)
  | 6=>regs.Say.val _ (.int .i64 cn)
  | 7=>regs.Say.val _ (.int .i64 e0)
  | 8=>regs.Say.val _ (.int .i64 e0)
  | _=>regs.Say.any _:regs.Say (TurnP (SFoot b m s x.t) (SFoot b m s x.t))).p) (fun _=>regs.Say.mono _) (by kernel_rfl) (TurnP.below (Below.refl _ _).drew) (⟨fun _=>HS.out.mid.below (Below.refl _ _).drew,(fun e=>nomatch e)⟩) ⟨?_,?_,?_,?_,?_,?_,?_,?_,?_,trivial⟩ ?_
 ·refine regs.StepOK.plain rfl fun L a w1 hh=>?_
  have h4:a.tmps[4]?.getD undef=.pointer (some ⟨w.heap.size,0,none⟩):=rq (hh.old 4 rfl)
  have hB:=Hd (HB.out.off HNB.out hh.rel)
  have c0:w1.cell? ⟨w.heap.size,0,none⟩=some (.pointer (some ⟨g,0,none⟩)):=hB.out.cell 0
  have i0:=hB.out.inside
  have hJ:=Hd hh.st; clear hh; go_simp; exact ⟨_,rfl,TurnP.refl _ _,rfl,hJ.out⟩
 ·refine regs.StepOK.plain rfl fun L a w1 hh=>?_
  have h15:=rq (hh.dep 0 15 (by kernel_rfl) (by kernel_rfl))
  have hJ:=Hd hh.st; clear hh; go_simp; exact ⟨_,rfl,TurnP.refl _ _,rfl,hJ.out⟩
 ·refine regs.StepOK.plain rfl fun L a w1 hh=>?_
  have h16:=rq (hh.dep 1 16 (by kernel_rfl) (by kernel_rfl))
  have i0:=((BlkT.off HGT.out HNG.out hh.rel).blk).inside
  have hJ:=Hd hh.st; clear hh; go_simp; exact ⟨_,rfl,TurnP.refl _ _,rfl,hJ.out⟩
 ·refine regs.StepOK.plain rfl fun L a w1 hh=>?_
  have h17:=rq (hh.dep 2 17 (by kernel_rfl) (by kernel_rfl))
  have hB:=Hd ((BlkT.off HGT.out HNG.out hh.rel).blk)
  have c0:w1.cell? ⟨g,1,none⟩=some (.pointer (some ⟨b,0,none⟩)):=hB.out.cell 1
  have i0:=hB.out.inside
  have hJ:=Hd hh.st; clear hh; go_simp; exact ⟨_,rfl,TurnP.refl _ _,rfl,hJ.out⟩
 ·refine regs.StepOK.plain rfl fun L a w1 hh=>?_
  have h5:a.tmps[5]?.getD undef=.pointer (some ⟨(w.heap.size + 1),0,none⟩):=rq (hh.old 5 rfl)
  have hB:=Hd (HC.out.off HNC.out hh.rel)
  have c0:w1.cell? ⟨(w.heap.size + 1),0,none⟩=some (.int .i64 ci):=hB.out.cell 0
  have i0:=hB.out.inside
  have hJ:=Hd hh.st; clear hh; go_simp; exact ⟨_,rfl,TurnP.refl _ _,rfl,hJ.out⟩
 ·refine regs.StepOK.plain rfl fun L a w1 hh=>?_
  have h2:a.tmps[2]?.getD undef=.int .i64 cp:=rq (hh.old 2 rfl)
  have hJ:=Hd hh.st; clear hh; go_simp; exact ⟨_,rfl,TurnP.refl _ _,rfl,hJ.out⟩
 ·refine regs.StepOK.plain rfl fun L a w1 hh=>?_
  have h3:a.tmps[3]?.getD undef=.int .i64 cn:=rq (hh.old 3 rfl)
  have hJ:=Hd hh.st; clear hh; go_simp; exact ⟨_,rfl,TurnP.refl _ _,rfl,hJ.out⟩
 ·refine regs.StepOK.plain rfl fun L a w1 hh=>?_
  have h18:=rq (hh.dep 3 18 (by kernel_rfl) (by kernel_rfl))
  have h19:=rq (hh.dep 4 19 (by kernel_rfl) (by kernel_rfl))
  have h20:=rq (hh.dep 5 20 (by kernel_rfl) (by kernel_rfl))
  have h21:=rq (hh.dep 6 21 (by kernel_rfl) (by kernel_rfl))
  have hS:=Hd (hh.st.no hh.un)
  have hR:=Hd (show TurnP (SFoot b m s x.t) (SFoot b m s x.t) w3 w1 from hh.rel)
  have hB:=Hd (show ∀ wq,regs.bl w1 wq→True from fun _ _=>trivial)
  clear hh hB
  go_simp
  refine (tmove hS.out.tree HN.out ci cp cn HI.out HP.out).mono ?_
  rw [HMV.out]
  rintro e w9 ⟨s9,rfl,ht9,hu9⟩
  have hm:=hS.out.step ht9 hu9
  exact ⟨_,rfl,hm.2.wide (fun _ k=>k),rfl,⟨(fun e=>nomatch e),fun _=>⟨_,hm.1,hR.out.trans hm.2⟩⟩⟩
 ·refine regs.StepOK.plain rfl fun L a w1 hh=>?_
  have h22:=rq (hh.dep 7 22 (by kernel_rfl) (by kernel_rfl))
  have hJ:=Hd hh.st; clear hh; go_simp; exact ⟨_,rfl,TurnP.refl _ _,rfl,hJ.out⟩
 intro L w4 val hL hJ hR hv
 have h11:val 11=.int .i64 e0:=hv 8 11 (by kernel_rfl)
 have HR4:=Hd hR
 obtain ⟨s5,hmq,htq⟩:=hJ.yes (hL 7 (by decide))
 have HM4:=Hd hmq
 have HT4:=Hd htq
 clear hv hL hJ hR hmq htq
 simp only [regs.putAll,List.map_cons,List.map_nil,h11]
 simp only [Act.put,List.setIfInBounds_toArray,List.set_cons_zero,List.set_cons_succ]
 clear h11
 generalize val 15=v15,val 16=v16,val 17=v17,val 18=v18,val 19=v19,val 20=v20,val 21=v21,val 22=v22 at *
 by_cases h0:¬ e0=0
 ·have t5:(e0 == 0)=false:=by simpa using h0
  have HE2:Hid (R=(x,e0)):=by show _=_; rw [HR.out,if_pos h0]
  have HNZ:=Hd h0
  have HT1:Hid (t1=x.t):=by
   have:=movS_not (t:=x.t) (i:=ci) (p:=cp) (n:=cn) (by rw [HMV.out]; exact h0)
   rw [HMV.out] at this
   exact this
  clear h0 HR
  go_wp2_with (fail)
  go_ret2
  rw [HE2.out]
  rw [HT1.out] at HM4 HT4
  exact ⟨_,s5,rfl,HM4.out.scene fun _=>Iff.rfl,((TurnP.below HB0.out).trans (TurnP.below HBz.out)).trans HT4.out,fun e=>absurd e HNZ.out⟩
 obtain rfl:e0=0:=by simpa using h0
 have HE2:Hid (R=(⟨t1,x.nd,x.ws⟩,0)):=by show _=_; rw [HR.out,if_neg (by simp)]
 have HMB:=Hd (mov_back HOK.out HMV.out)
 clear h0 HR
 go_wp2_with (fail)
 go_ret2
 rw [HE2.out]
 have hsc:SceneAt w4 g b m s5 Z ⟨t1,x.nd,x.ws⟩:=HM4.out.scene fun j=>(HMB.out.2.1 j).symm
 have hlen:t1.length≤1000:=by have:=(movS_ok HOK.out ci cp cn).2; rw [HMV.out] at this; have:=HN.out; simp only at *; omega
 refine ⟨_,s5,rfl,hsc,((TurnP.below HB0.out).trans (TurnP.below HBz.out)).trans HT4.out,fun _=>⟨fun k=>k=w.heap.size∨k=w.heap.size + 1∨k=kp,_,_,rfl,enters_move1,?_,?_⟩⟩
 ·rintro k (rfl | rfl | rfl)
  ·exact ⟨Nat.lt_of_lt_of_le HB.out.inside HT4.out.size,fun e=>e.elim (HT4.out.far _ HB.out.inside HNB.out).1 fun e=>by have:=HOE.out _ e; omega⟩
  ·exact ⟨Nat.lt_of_lt_of_le HC.out.inside HT4.out.size,fun e=>e.elim (HT4.out.far _ HC.out.inside HNC.out).1 fun e=>by have:=HOE.out _ e; omega⟩
  ·exact ⟨Nat.lt_of_lt_of_le HK3.out.inside HT4.out.size,fun e=>e.elim (HT4.out.far _ HK3.out.inside HNP.out).1 fun e=>by have:=HOE.out _ e; have:=HKP.out; omega⟩
 ·intro W s1 E hK hs1
  have hblk:∀ {k:Nat} {cs:List Value},Blk w3 k cs→¬ SFoot b m s x.t k→W.heap[k]?=w4.heap[k]?→Blk W k cs:=fun h1 h2 h3=>h1.stays (h3.trans (HT4.out.far _ h1.inside h2).2)
  obtain ⟨t2,hm2,hal⟩:=HMB.out.2.2
  refine (move_undo hs1 hlen (hblk HB.out HNB.out (hK _ (.inl rfl)).1) (hblk HC.out HNC.out (hK _ (.inr (.inl rfl))).1) (hblk HK3.out HNP.out (hK _ (.inr (.inr rfl))).1) (hK _ (.inl rfl)).2.1 (hK _ (.inr (.inl rfl))).2.1 (hK _ (.inr (.inr rfl))).2.1 HI.out (par_64 HOK.out ci) hm2).mono ?_
  rintro e W' ⟨he,s2,h5,h6⟩
  have h7:=h5.scene (fun j=>by rw [alike_has hal]; exact HMB.out.2.1 j)
  rw [SFoot.alike hal] at h6
  exact ⟨he,s2,h7.like ⟨HOK.out,hal,fun _ _=>rfl,fun _ _=>rfl⟩,h6⟩
end
end Go.Proofs.YthpifjcddgmjnaaGreat
