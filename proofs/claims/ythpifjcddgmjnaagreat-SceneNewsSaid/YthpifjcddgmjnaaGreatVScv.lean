import Derived.Test.YthpifjcddgmjnaaGreatVScW
import Derived.Deep.Cut
set_option maxHeartbeats 16000000
set_option maxRecDepth 100000
namespace Go.Proofs.YthpifjcddgmjnaaGreat
open Go.RowKit pxm imm trm Go.Maps
abbrev tSize:TypeId:=111
theorem wpl_build {P:Program} {ops:Array Oper} {rest:List Oper} {o:Oper} {a:Act} {Q:Exit→Act→World→Prop} {w w':World} (t:TypeId) (parts:Array (Nat×Operand)) (ho:o.op=.build t parts) (hgd:Region.wanted o (yielded ops a.tmps)=true) {vals:Array (Nat×Value)} (hv:(parts.map fun q=>(q.1,a.eval q.2))=vals) {v:Value} (hrun:(Instr.build t vals).run P w=.ok v w')
  (h:wpList P ops Q rest (a.put o.dst v) w'):wpList P ops Q (o :: rest) a w:=by
 subst hv
 unfold wpList
 rw [if_pos hgd]
 refine .inl ?_
 unfold Oper.wp execOp
 simp only [ho,Sem.run_bind,Result.andThen_ok,hrun]
 exact h
def sccs (b m:Nat) (Z:ZZ):List Value:=[.iface 109 (.pointer (some ⟨b,0,none⟩)),.pointer (some ⟨b,0,none⟩),.int .i64 Z.1,.int .i64 Z.2.1,.int .i64 Z.2.2,.map (some m)]
theorem build_scene (b m:Nat) (W H M:Int) (w:World):(Instr.build tScene #[(0,.iface 109 (.pointer (some ⟨b,0,none⟩))),(1,.pointer (some ⟨b,0,none⟩)),(2,.agg #[.int .i64 W,.int .i64 H,.int .i64 M]),(3,.map (some m))]).run Tryz.prog w =
  .ok (.agg #[.iface 109 (.pointer (some ⟨b,0,none⟩)),.pointer (some ⟨b,0,none⟩),.int .i64 W,.int .i64 H,.int .i64 M,.map (some m)]) w:=by kernel_rfl
def OfQ (b m:Nat) (Z:ZZ) (w:World) (e:Ending) (w':World):Prop:=∃ g,e=.returned (.pointer (some ⟨g,0,none⟩))∧w.heap.size≤g∧BlkT w' g (sccs b m Z) tScene∧Below w.heap.size w w'
theorem of_any (Z:ZZ) (b m:Nat) (w:World) :
  Calls Tryz.prog 56 #[.agg #[.int .i64 Z.1,.int .i64 Z.2.1,.int .i64 Z.2.2],.pointer (some ⟨b,0,none⟩),.map (some m)] w (OfQ b m Z w):=by
 go_enter Tryz.func56,Tryz.ntmps56
 go_wp2_with ((with_reducible show wpList _ _ _ (Oper.mk _ (Op.build _ _) _ _ _ _ :: _) _ _); refine wpl_build _ _ rfl rfl (by simp [go_sem]) (build_scene b m Z.1 Z.2.1 Z.2.2 _) ?_)
 go_ret
 exact ⟨_,rfl,by omega,by simpa [sccs] using BlkT.new (w.alloc _) (sccs b m Z) tScene,((Below.refl _ _).alloc (Nat.le_refl _) _).alloc (by simp) _⟩
def plain0:LV:=[(0,plv Nd.plain none 0 Mp.one)]
structure NewJ (base:Nat) (Z:ZZ) (i4 i5 i10 i11 i12 i13:Bool) (v29 v30 v35 v36 v6:Value) (w:World):Prop where
 bsz:base≤w.heap.size
 tree:i4=true→∃ b s,v29=.pointer (some ⟨b,0,none⟩)∧TreeAt w b s []∧(∀ k,FootT b s [] k→base≤k)∧(i5=true→∀ m,v30=.map (some m)→¬ FootT b s [] m)
 map:i5=true→∃ m,v30=.map (some m)∧VM w m (bif i10 then plain0 else [])∧base≤m
 mv:i11=true→v35=v30
 scn:i12=true→∃ g b s m,v36=.pointer (some ⟨g,0,none⟩)∧base≤g∧BlkT w g (sccs b m Z) tScene∧TreeAt w b s []∧VM w m plain0∧(∀ k,SFoot b m s [] k→base≤k)∧¬ FootT b s [] m∧¬ SFoot b m s [] g
 out:i13=true→v6=v36
 o10:i10=true→i5=true
 o11:i11=true→i10=true
 o12:i12=true→i4=true∧i11=true
 o13:i13=true→i12=true
section
variable {base:Nat} {Z:ZZ} {i4 i5 i10 i11 i12 i13:Bool} {v29 v30 v35 v36 v6:Value} {w w':World}
theorem NewJ.slots {u29 u30 u35 u36 u6:Value} (h:NewJ base Z i4 i5 i10 i11 i12 i13 v29 v30 v35 v36 v6 w) (e1:u29=v29) (e2:u30=v30) (e3:u35=v35) (e4:u36=v36) (e5:u6=v6):NewJ base Z i4 i5 i10 i11 i12 i13 u29 u30 u35 u36 u6 w:=by
 rw [e1,e2,e3,e4,e5]; exact h
theorem NewJ.below (h:NewJ base Z i4 i5 i10 i11 i12 i13 v29 v30 v35 v36 v6 w) (hb:Below w.heap.size w w'):NewJ base Z i4 i5 i10 i11 i12 i13 v29 v30 v35 v36 v6 w' where
 bsz:=Nat.le_trans h.bsz hb.size
 tree e:=by
  obtain ⟨b,s,h1,h2,h3⟩:=h.tree e
  exact ⟨b,s,h1,h2.below hb,h3⟩
 map e:=by
  obtain ⟨m,h1,h2,h3⟩:=h.map e
  exact ⟨m,h1,h2.below hb,h3⟩
 mv:=h.mv
 scn e:=by
  obtain ⟨g,b,s,m,h1,h2,h3,h4,h5,h6⟩:=h.scn e
  exact ⟨g,b,s,m,h1,h2,h3.stays (hb.block _ h3.inside),h4.below hb,h5.below hb,h6⟩
 out:=h.out
 o10:=h.o10
 o11:=h.o11
 o12:=h.o12
 o13:=h.o13
theorem not_of {i j:Bool} (h:i=true→j=true) (e:j=false):i=false:=by cases i with | false=>rfl | true=>rw [h rfl] at e; cases e
theorem NewJ.start (hb:base≤w.heap.size):NewJ base Z false false false false false false v29 v30 v35 v36 v6 w:=
 ⟨hb,(fun e=>nomatch e),(fun e=>nomatch e),(fun e=>nomatch e),(fun e=>nomatch e),(fun e=>nomatch e),(fun e=>nomatch e),(fun e=>nomatch e),(fun e=>nomatch e),(fun e=>nomatch e)⟩
theorem NewJ.grow (h:NewJ base Z i4 i5 i10 i11 i12 i13 v29 v30 v35 v36 v6 w) (h4:i4=false) {b:Nat} {s:Sh} {u29:Value} (hb:Below w.heap.size w w') (h1:TreeAt w' b s []) (h2:∀ k,FootT b s [] k→w.heap.size≤k) (e29:u29=.pointer (some ⟨b,0,none⟩)):NewJ base Z true i5 i10 i11 i12 i13 u29 v30 v35 v36 v6 w':=
 have h12:=not_of (fun e=>(h.o12 e).1) h4
 have h13:=not_of h.o13 h12
 have h':=h.below hb
 ⟨h'.bsz,fun _=>⟨b,s,e29,h1,fun k hk=>Nat.le_trans h.bsz (h2 k hk),fun e m em hm=>by
  obtain ⟨m',e1,e2,-⟩:=h.map e
  rw [em] at e1
  injection e1 with e1
  injection e1 with e1
  have:=h2 m hm
  have:=e2.inside
  omega⟩,h'.map,h'.mv,(fun e=>by rw [h12] at e; cases e),(fun e=>by rw [h13] at e; cases e),h'.o10,h'.o11,(fun e=>⟨rfl,(h'.o12 e).2⟩),h'.o13⟩
theorem NewJ.make {u30:Value} (h:NewJ base Z i4 i5 i10 i11 i12 i13 v29 v30 v35 v36 v6 w) (h5:i5=false) (e30:u30=.map (some w.heap.size)):NewJ base Z i4 true i10 i11 i12 i13 v29 u30 v35 v36 v6 (w.alloc (.map #[] 0)):=by
 have h10:=not_of h.o10 h5
 have h11:=not_of h.o11 h10
 subst e30 h5 h10 h11
 have hb:Below w.heap.size w (w.alloc (.map #[] 0)):=(Below.refl _ _).alloc (Nat.le_refl _) _
 have h':=h.below hb
 refine ⟨h'.bsz,fun e=>?_,fun _=>⟨_,rfl,VM.made w,h.bsz⟩,fun e=>(nomatch e),h'.scn,h'.out,(fun e=>(nomatch e)),(fun e=>(nomatch e)),h'.o12,h'.o13⟩
 obtain ⟨b0,s0,h10,h20,h30,-⟩:=h.tree e
 refine ⟨b0,s0,h10,h20.below hb,h30,fun _ m em hm=>?_⟩
 injection em with em
 injection em with em
 have:=h20.raw.inside m hm
 omega
theorem NewJ.put (h:NewJ base Z i4 i5 i10 i11 i12 i13 v29 v30 v35 v36 v6 w) (h5:i5=true) (h10:i10=false):∃ m w',v30=.map (some m)∧(Instr.mapUpdate tPlaces (.map (some m)) (.int .i64 0) (plv Nd.plain none 0 Mp.one)).run Tryz.prog w=.ok () w'∧Below base w w'∧NewJ base Z i4 i5 true i11 i12 i13 v29 v30 v35 v36 v6 w':=by
 subst h5
 have h11:=not_of h.o11 h10
 have h12:=not_of (fun e=>(h.o12 e).2) h11
 subst h10
 obtain ⟨m,h1,h2,h3⟩:=h.map rfl
 obtain ⟨w',hrun,hm',hg⟩:=h2.store und_places (i:=0) (by constructor <;> decide) (plv Nd.plain none 0 Mp.one) (by show [_].length≤_; simp)
 have hne:∀ k,k < w.heap.size→k≠m→w'.heap[k]?=w.heap[k]?:=fun k hk hn=>hg.block k hk fun e=>hn (Option.some.inj e)
 refine ⟨m,w',h1,hrun,(Below.refl _ _).grown hg h.bsz fun k e=>by rw [← Option.some.inj e]; exact h3,⟨Nat.le_trans h.bsz hg.size,fun e=>?_,fun _=>⟨m,h1,hm',h3⟩,h.mv,fun e=>?_,h.out,fun _=>rfl,fun _=>rfl,h.o12,h.o13⟩⟩
 ·obtain ⟨b,s,e1,e2,e3,e4⟩:=h.tree e
  exact ⟨b,s,e1,e2.stays fun k hk=>hne k (e2.raw.inside k hk) fun e5=>e4 rfl m h1 (e5 ▸ hk),e3,e4⟩
 ·rw [h12] at e; cases e
theorem NewJ.last (h:NewJ base Z i4 i5 i10 i11 i12 i13 v29 v30 v35 v36 v6 w) (h4:i4=true) (h11:i11=true) (h12:i12=false):∃ b m,v29=.pointer (some ⟨b,0,none⟩)∧v35=.map (some m)∧∀ e w',OfQ b m Z w e w'→∃ u,e=.returned u∧Below w.heap.size w w'∧NewJ base Z i4 i5 i10 i11 true i13 v29 v30 v35 u v6 w':=by
 have h13:=not_of h.o13 h12
 have h10:=h.o11 h11
 have h5:=h.o10 h10
 subst h4 h5 h10 h11 h12
 obtain ⟨b,s,e1,e2,e3,e4⟩:=h.tree rfl
 obtain ⟨m,f1,f2,f3⟩:=h.map rfl
 refine ⟨b,m,e1,(h.mv rfl).trans f1,?_⟩
 rintro e w' ⟨g,rfl,g1,g2,g3⟩
 have h':=h.below g3
 have hnf:=e4 rfl m f1
 refine ⟨_,rfl,g3,⟨h'.bsz,h'.tree,h'.map,h'.mv,fun _=>⟨g,b,s,m,rfl,Nat.le_trans h.bsz g1,g2,e2.below g3,f2.below g3,fun k hk=>?_,hnf,fun hk=>?_⟩,(fun e=>by rw [h13] at e; cases e),h'.o10,h'.o11,(fun _=>⟨rfl,rfl⟩),(fun _=>rfl)⟩⟩
 ·rcases hk with e | e
  ·rw [e]; exact f3
  ·exact e3 k e
 ·rcases hk with e | e
  ·have:=f2.inside; omega
  ·have:=e2.raw.inside g e; omega
theorem NewJ.copy {u35:Value} (h:NewJ base Z i4 i5 i10 i11 i12 i13 v29 v30 v35 v36 v6 w) (h10:i10=true) (e35:u35=v30):NewJ base Z i4 i5 i10 true i12 i13 v29 v30 u35 v36 v6 w:=⟨h.bsz,h.tree,h.map,fun _=>e35,h.scn,h.out,h.o10,fun _=>h10,fun e=>⟨(h.o12 e).1,rfl⟩,h.o13⟩
theorem NewJ.tell {u6:Value} (h:NewJ base Z i4 i5 i10 i11 i12 i13 v29 v30 v35 v36 v6 w) (h12:i12=true) (e6:u6=v36):NewJ base Z i4 i5 i10 i11 i12 true v29 v30 v35 v36 u6 w:=⟨h.bsz,h.tree,h.map,h.mv,h.scn,fun _=>e6,h.o10,h.o11,h.o12,fun _=>h12⟩
theorem NewJ.scene (h:NewJ base Z i4 i5 i10 i11 true true v29 v30 v35 v36 v6 w) (hE:∀ k,Z.3 k→k < base):∃ g b m s,v6=.pointer (some ⟨g,0,none⟩)∧SceneAt w g b m s Z ⟨[],fun _=>Nd.plain,fun _=>Mp.one⟩∧(∀ k,SFoot b m s [] k→base≤k)∧base≤g:=by
 obtain ⟨g,b,s,m,h1,h2,h3,h4,h5,h6,h7,h8⟩:=h.scn rfl
 refine ⟨g,b,m,s,(h.out rfl).trans h1,⟨h3,h4,⟨plain0,h5,fun i hi=>?_,fun i hi=>?_⟩,h8,h7,fun k hk=>⟨?_,fun e=>?_,fun e=>?_⟩⟩,h6,h2⟩
 ·by_cases e:i=0
  ·rw [e]; rfl
  ·exact absurd (by simp [plain0,omap.look,Ne.symm e]) hi
 ·have e:i=0:=by
   rcases has_iff.1 hi with e | e
   ·exact e
   ·cases e
  subst e
  exact ⟨_,rfl,none,0,rfl,row_none rfl _,(fun a e=>nomatch e),(fun a e=>nomatch e)⟩
 ·have:=hE k hk; have:=h.bsz; omega
 ·have:=h6 k e; have:=hE k hk; omega
 ·have:=hE k hk; omega
end
end Go.Proofs.YthpifjcddgmjnaaGreat
namespace Go.Proofs.YthpifjcddgmjnaaGreat
open Go.RowKit pxm imm trm Go.Maps
def NewQ (Z:ZZ) (w:World) (e:Ending) (w':World):Prop:=
 ∃ g b m s,e=.returned (.tuple #[.pointer (some ⟨g,0,none⟩),.int .i64 0])∧SceneAt w' g b m s Z ⟨[],fun _=>Nd.plain,fun _=>Mp.one⟩∧Below w.heap.size w w'∧(∀ k,SFoot b m s [] k→w.heap.size≤k)∧w.heap.size≤g
section
variable {w:World}
theorem make_places (w:World):(Instr.makeMap tPlaces none).run Tryz.prog w=.ok (.map (some w.heap.size)) (w.alloc (.map #[] 0)):=rfl
theorem build_size (a b c:Int) (w:World):(Instr.build tSize #[(0,.int .i64 a),(1,.int .i64 b),(2,.int .i64 c)]).run Tryz.prog w=.ok (.agg #[.int .i64 a,.int .i64 b,.int .i64 c]) w:=by kernel_rfl
theorem new_ok (Z:ZZ) (hE:∀ k,Z.3 k→k < w.heap.size) (h1:1≤Z.1∧Z.1≤4096) (h2:1≤Z.2.1∧Z.2.1≤4096) (h3:1≤Z.2.2∧Z.2.2≤65536) :
  Calls Tryz.prog 16 #[.int .i64 Z.1,.int .i64 Z.2.1,.int .i64 Z.2.2] w (NewQ Z w):=by
 have HE:=Hd hE
 obtain ⟨a1,a2⟩:=h1
 obtain ⟨b1,b2⟩:=h2
 obtain ⟨d1,d2⟩:=h3
 have HQ:Hid (NewQ Z w=NewQ Z w):=rfl
 clear hE
 go_enter Tryz.func16,Tryz.ntmps16
 go_upto_region 1 with (fail)
 go_cut [23] from 9 (fun u wx=>u=.bool false∧wx=w)
 case first=>
  go_wp2_with (fail)
  all_goals first
   | (go_meet; case rel=>exact ⟨by first | rfl | (simp; omega),rfl⟩)
   | (exfalso; omega)
 case rest=>
 obtain ⟨rfl,rfl⟩:=hcut
 go_wp2_with (fail)
 refine (plain_nd wc).mono ?_
 rintro e w1 ⟨rfl,hb1⟩
 have HB1:=Hd hb1
 have HZ2:Hid (Blk (w1.alloc (.cells #[.int .i64 0,.int .i64 0,.int .i64 0,.int .i64 0,.int .i64 0,.int .i64 0,.int .i64 0,.bool false,.bool false,.int .i64 0,.int .i64 0,.int .i64 0,.int .i64 0,.int .i64 0,.int .i64 0,.int .i64 0,.int .u32 0,.int .i64 0,.int .i64 0,.slice none 0 0] 72)) w1.heap.size [.int .i64 0,.int .i64 0,.int .i64 0,.int .i64 0,.int .i64 0,.int .i64 0,.int .i64 0,.bool false,.bool false,.int .i64 0,.int .i64 0,.int .i64 0,.int .i64 0,.int .i64 0,.int .i64 0,.int .i64 0,.int .u32 0,.int .i64 0,.int .i64 0,.slice none 0 0]):=blk_new w1 [.int .i64 0,.int .i64 0,.int .i64 0,.int .i64 0,.int .i64 0,.int .i64 0,.int .i64 0,.bool false,.bool false,.int .i64 0,.int .i64 0,.int .i64 0,.int .i64 0,.int .i64 0,.int .i64 0,.int .i64 0,.int .u32 0,.int .i64 0,.int .i64 0,.slice none 0 0] _
 have HBa:Hid (Below w1.heap.size w1 (w1.alloc (.cells #[.int .i64 0,.int .i64 0,.int .i64 0,.int .i64 0,.int .i64 0,.int .i64 0,.int .i64 0,.bool false,.bool false,.int .i64 0,.int .i64 0,.int .i64 0,.int .i64 0,.int .i64 0,.int .i64 0,.int .i64 0,.int .u32 0,.int .i64 0,.int .i64 0,.slice none 0 0] 72))):=(Below.refl _ _).alloc (Nat.le_refl _) _
 clear hb1
 go_upto_region 4 with (first | (with_reducible show wpList _ _ _ (Oper.mk _ (Op.store _ _ _) _ _ _ _ :: _) _ _; first | (refine wpl_stow 72 _ _ rfl rfl rfl _ 0 rfl (Nd.plain.cs none 0) rfl ([.int .i64 0,.int .i64 0,.int .i64 0,.int .i64 0,.int .i64 0,.int .i64 0,.int .i64 0,.bool false,.bool false,.int .i64 0,.int .i64 0,.int .i64 0,.int .i64 0,.int .i64 0,.int .i64 0,.int .i64 0,.int .u32 0,.int .i64 0,.int .i64 0,.slice none 0 0]) HZ2.out (Nd.plain.cs none 0) rfl (Nat.le_of_ble_eq_true rfl) (by kernel_rfl) (Nd.one _ _ _) ?_; intro w3 HW3 HK3)))
 have HB3:Hid (Below wc.heap.size wc w3):=HB1.out.trans ((HW3.out.below HBa.out (Nat.le_refl _)).mono HB1.out.size)
 obtain ⟨k8,hk8⟩:∃ k8,w1.heap.size=k8:=⟨_,rfl⟩
 rw [hk8] at HK3 ⊢
 clear HZ2 HBa HW3 HB1 hk8
 refine regv.wp_region_put (Below w3.heap.size) (fun L V wx=>NewJ w3.heap.size Z (L 4) (L 5) (L 10) (L 11) (L 12) (L 13) (V 29) (V 30) (V 35) (V 36) (V 6) wx) [25,26,27,28,29,30,31,32,33,34,35,36,6,7] (by kernel_rfl) (by kernel_rfl) (fun _=>Below.refl _ _) (fun _ _ _ h k=>h.trans k) (fun i=>(match i with
  | 0=>regs.Say.val _ (.int .i64 Z.1)
  | 1=>regs.Say.val _ (.int .i64 Z.2.1)
  | 2=>regs.Say.val _ (.int .i64 Z.2.2)
  | 3=>regs.Say.val _ (.agg ([.int .i64 Z.1,.int .i64 Z.2.1,.int .i64 Z.2.2]).toArray)
  | 4=>regs.Say.any _
  | 5=>regs.Say.any _
  | 6=>regs.Say.val _ (.agg (Nd.plain.cs none 0).toArray)
  | 7=>regs.Say.val _ (.pointer (some ⟨k8,0,none⟩))
  | 8=>regs.Say.val _ (.agg (Mp.one.cs).toArray)
  | 9=>regs.Say.val _ (.agg (plcs Nd.plain none 0 Mp.one).toArray)
  | 10=>regs.Say.any _
  | 11=>regs.Say.any _
  | 12=>regs.Say.any _
  | 13=>regs.Say.any _
  | 14=>regs.Say.val _ (.int .i64 0)
  | _=>regs.Say.any _:regs.Say (Below w3.heap.size)).p) (fun _=>regs.Say.mono _) (by kernel_rfl) ((Below.refl _ _).drew) (NewJ.start (Below.refl 0 w3).drew.size) ⟨?_,?_,?_,?_,?_,?_,?_,?_,?_,?_,?_,?_,?_,?_,?_,trivial⟩ ?_
 ·refine regv.StepOK.plain rfl fun L a w1 hh=>?_
  have h0:a.tmps[0]?.getD undef=.int .i64 Z.1:=rq (hh.old 0 rfl)
  have hJ:=Hd hh.st; clear hh; go_simp; exact ⟨_,rfl,Below.refl _ _,rfl,NewJ.slots hJ.out (regv.sl_ne (by decide)) (regv.sl_ne (by decide)) (regv.sl_ne (by decide)) (regv.sl_ne (by decide)) (regv.sl_ne (by decide))⟩
 ·refine regv.StepOK.plain rfl fun L a w1 hh=>?_
  have h1:a.tmps[1]?.getD undef=.int .i64 Z.2.1:=rq (hh.old 1 rfl)
  have hJ:=Hd hh.st; clear hh; go_simp; exact ⟨_,rfl,Below.refl _ _,rfl,NewJ.slots hJ.out (regv.sl_ne (by decide)) (regv.sl_ne (by decide)) (regv.sl_ne (by decide)) (regv.sl_ne (by decide)) (regv.sl_ne (by decide))⟩
 ·refine regv.StepOK.plain rfl fun L a w1 hh=>?_
  have h2:a.tmps[2]?.getD undef=.int .i64 Z.2.2:=rq (hh.old 2 rfl)
  have hJ:=Hd hh.st; clear hh; go_simp; exact ⟨_,rfl,Below.refl _ _,rfl,NewJ.slots hJ.out (regv.sl_ne (by decide)) (regv.sl_ne (by decide)) (regv.sl_ne (by decide)) (regv.sl_ne (by decide)) (regv.sl_ne (by decide))⟩
 ·refine regv.StepOK.plain rfl fun L a w1 hh=>?_
  have h25:=rq (hh.dep 0 25 (by kernel_rfl) (by kernel_rfl))
  have h26:=rq (hh.dep 1 26 (by kernel_rfl) (by kernel_rfl))
  have h27:=rq (hh.dep 2 27 (by kernel_rfl) (by kernel_rfl))
  have hJ:=Hd hh.st
  exact wp_build _ _ rfl (by simp [go_sem,h25,h26,h27]) (build_size Z.1 Z.2.1 Z.2.2 w1) ⟨_,rfl,Below.refl _ _,rfl,NewJ.slots hJ.out (regv.sl_ne (by decide)) (regv.sl_ne (by decide)) (regv.sl_ne (by decide)) (regv.sl_ne (by decide)) (regv.sl_ne (by decide))⟩
 ·refine regv.StepOK.plain rfl fun L a w1 hh=>?_
  have hJ:=Hd hh.st
  have hsz:=Hd hh.size
  have hC:=Hd (tnew w1)
  have hun:=Hd hh.un
  clear hh
  go_simp
  refine hC.out.mono ?_
  rintro e w9 ⟨b9,s9,rfl,ht9,hb9,hf9⟩
  exact ⟨_,rfl,hb9.mono hJ.out.bsz,trivial,NewJ.slots (hJ.out.grow hun.out hb9 ht9 hf9 rfl) (regv.sl_same (by rw [hsz.out]; simp)) (regv.sl_ne (by decide)) (regv.sl_ne (by decide)) (regv.sl_ne (by decide)) (regv.sl_ne (by decide))⟩
 ·refine regv.StepOK.plain rfl fun L a w1 hh=>?_
  have hJ:=Hd hh.st
  have hsz:=Hd hh.size
  have hmm:=make_places w1
  have hu:=Hd (hh.st.make hh.un rfl)
  clear hh
  go_simp
  exact ⟨_,rfl,(Below.refl _ _).alloc hJ.out.bsz _,trivial,NewJ.slots hu.out (regv.sl_ne (by decide)) (regv.sl_same (by rw [hsz.out]; simp)) (regv.sl_ne (by decide)) (regv.sl_ne (by decide)) (regv.sl_ne (by decide))⟩
 ·refine regv.StepOK.plain rfl fun L a w1 hh=>?_
  have h8:a.tmps[8]?.getD undef=.pointer (some ⟨k8,0,none⟩):=rq (hh.old 8 rfl)
  have hB:=Hd (HK3.out.below' hh.rel)
  have hJ:=Hd hh.st
  exact wp_take 72 _ rfl k8 0 (by simpa [go_sem] using h8) _ hB.out (Nd.plain.cs none 0) rfl _ Tryz.underlying72 rfl (by kernel_rfl) ⟨_,rfl,Below.refl _ _,rfl,NewJ.slots hJ.out (regv.sl_ne (by decide)) (regv.sl_ne (by decide)) (regv.sl_ne (by decide)) (regv.sl_ne (by decide)) (regv.sl_ne (by decide))⟩
 ·refine regv.StepOK.plain rfl fun L a w1 hh=>?_
  have h8:a.tmps[8]?.getD undef=.pointer (some ⟨k8,0,none⟩):=rq (hh.old 8 rfl)
  have i0:=(HK3.out.below' hh.rel).inside
  have hJ:=Hd hh.st; clear hh; go_simp; exact ⟨_,rfl,Below.refl _ _,rfl,NewJ.slots hJ.out (regv.sl_ne (by decide)) (regv.sl_ne (by decide)) (regv.sl_ne (by decide)) (regv.sl_ne (by decide)) (regv.sl_ne (by decide))⟩
 ·refine regv.StepOK.plain rfl fun L a w1 hh=>?_
  have h32:=rq (hh.dep 7 32 (by kernel_rfl) (by kernel_rfl))
  have hB:=Hd (HK3.out.below' hh.rel)
  have hJ:=Hd hh.st
  exact wp_take 68 _ rfl k8 0 (by simpa [go_sem] using h32) _ hB.out (Mp.one.cs) rfl _ Tryz.underlying68 rfl (by kernel_rfl) ⟨_,rfl,Below.refl _ _,rfl,NewJ.slots hJ.out (regv.sl_ne (by decide)) (regv.sl_ne (by decide)) (regv.sl_ne (by decide)) (regv.sl_ne (by decide)) (regv.sl_ne (by decide))⟩
 ·refine regv.StepOK.plain rfl fun L a w1 hh=>?_
  have h31:=rq (hh.dep 6 31 (by kernel_rfl) (by kernel_rfl))
  have h33:=rq (hh.dep 8 33 (by kernel_rfl) (by kernel_rfl))
  have hJ:=Hd hh.st
  exact wp_build _ _ rfl (by simp [go_sem,h31,h33]) (build_placed Nd.plain none 0 Mp.one w1) ⟨_,rfl,Below.refl _ _,rfl,NewJ.slots hJ.out (regv.sl_ne (by decide)) (regv.sl_ne (by decide)) (regv.sl_ne (by decide)) (regv.sl_ne (by decide)) (regv.sl_ne (by decide))⟩
 ·refine regv.StepOK.plain rfl fun L a w1 hh=>?_
  have h34:=rq (hh.dep 9 34 (by kernel_rfl) (by kernel_rfl))
  obtain ⟨m9,w9,e9,hrun,hb9,hs9⟩:=hh.st.put (hh.up 5 (by kernel_rfl)) hh.un
  have h30:a.tmps[30]?.getD undef=.map (some m9):=rq (e9)
  unfold plv at hrun
  clear hh
  go_simp
  exact ⟨⟨undef,trivial⟩,NewJ.slots hs9 rfl e9.symm rfl rfl rfl⟩
 ·refine regv.StepOK.plain rfl fun L a w1 hh=>?_
  have hsz:=Hd hh.size
  have h30:a.tmps[30]?.getD undef=regv.sl a 30:=by unfold regv.sl; rw [Array.getD_eq_getD_getElem?]
  have hu:=Hd (hh.st.copy (hh.up 10 (by kernel_rfl)) rfl)
  clear hh
  go_simp
  exact ⟨_,rfl,Below.refl _ _,trivial,NewJ.slots hu.out (regv.sl_ne (by decide)) (regv.sl_ne (by decide)) (regv.sl_same (by rw [hsz.out]; simp)) (regv.sl_ne (by decide)) (regv.sl_ne (by decide))⟩
 ·refine regv.StepOK.plain rfl fun L a w1 hh=>?_
  have h28:=rq (hh.dep 3 28 (by kernel_rfl) (by kernel_rfl))
  have hJ:=Hd hh.st
  have hsz:=Hd hh.size
  obtain ⟨b9,m9,e29,e35,hQ0⟩:=hh.st.last (hh.up 4 (by kernel_rfl)) (hh.up 11 (by kernel_rfl)) hh.un
  have h29:a.tmps[29]?.getD undef=.pointer (some ⟨b9,0,none⟩):=rq (e29)
  have h35:a.tmps[35]?.getD undef=.map (some m9):=rq (e35)
  have hQ:=Hd hQ0
  have hC:=Hd (of_any Z b9 m9 w1)
  clear hQ0
  clear hh
  go_simp
  refine hC.out.mono ?_
  intro e w9 hq
  obtain ⟨u9,rfl,hb9,hs9⟩:=hQ.out e w9 hq
  exact ⟨_,rfl,hb9.mono hJ.out.bsz,trivial,NewJ.slots hs9 (regv.sl_ne (by decide)) (regv.sl_ne (by decide)) (regv.sl_ne (by decide)) (regv.sl_same (by rw [hsz.out]; simp)) (regv.sl_ne (by decide))⟩
 ·refine regv.StepOK.plain rfl fun L a w1 hh=>?_
  have hsz:=Hd hh.size
  have h36:a.tmps[36]?.getD undef=regv.sl a 36:=by unfold regv.sl; rw [Array.getD_eq_getD_getElem?]
  have hu:=Hd (hh.st.tell (hh.up 12 (by kernel_rfl)) rfl)
  clear hh
  go_simp
  exact ⟨_,rfl,Below.refl _ _,trivial,NewJ.slots hu.out (regv.sl_ne (by decide)) (regv.sl_ne (by decide)) (regv.sl_ne (by decide)) (regv.sl_ne (by decide)) (regv.sl_same (by rw [hsz.out]; simp))⟩
 ·refine regv.StepOK.plain rfl fun L a w1 hh=>?_
  have hJ:=Hd hh.st; clear hh; go_simp; exact ⟨_,rfl,Below.refl _ _,rfl,NewJ.slots hJ.out (regv.sl_ne (by decide)) (regv.sl_ne (by decide)) (regv.sl_ne (by decide)) (regv.sl_ne (by decide)) (regv.sl_ne (by decide))⟩
 intro L w4 val hL hJ hR hv
 have h7:val 7=.int .i64 0:=hv 14 7 (by kernel_rfl)
 have HR4:=Hd hR
 have hN:NewJ w3.heap.size Z (L 4) (L 5) (L 10) (L 11) true true (val 29) (val 30) (val 35) (val 36) (val 6) w4:=by
  have h:=hJ
  rw [hL 12 (by decide),hL 13 (by decide)] at h
  exact h
 obtain ⟨g,b,m,s,e6,hsc,hft,hgb⟩:=hN.scene (fun k hk=>Nat.lt_of_lt_of_le (HE.out k hk) HB3.out.size)
 have HSC:=Hd (And.intro hsc (And.intro hft hgb))
 clear hv hL hJ hR hN hsc hft hgb
 simp only [regs.putAll,List.map_cons,List.map_nil,h7]
 simp only [Act.put,List.setIfInBounds_toArray,List.set_cons_zero,List.set_cons_succ]
 clear h7
 generalize val 25=v25,val 26=v26,val 27=v27,val 28=v28,val 29=v29,val 30=v30,val 31=v31,val 32=v32,val 33=v33,val 34=v34,val 35=v35,val 36=v36 at *
 rw [e6]
 clear e6
 go_wp2_with (fail)
 go_ret2
 have hz:=HB3.out.size
 exact ⟨g,b,m,s,rfl,HSC.out.1,HB3.out.trans (HR4.out.mono HB3.out.size),fun k hk=>Nat.le_trans hz (HSC.out.2.1 k hk),Nat.le_trans hz HSC.out.2.2⟩
theorem new_bad:Calls Tryz.prog 16 #[.int .i64 0,.int .i64 1,.int .i64 1] w fun e w'=>e=.returned (.tuple #[.pointer none,.int .i64 11])∧Below w.heap.size w w':=by
 go_enter Tryz.func16,Tryz.ntmps16
 go_wp2_with (fail)
 go_ret2
 exact ⟨rfl,Below.refl _ _⟩
end
end Go.Proofs.YthpifjcddgmjnaaGreat
namespace Go.Proofs.YthpifjcddgmjnaaGreat
open Go.RowKit pxm imm trm Go.Maps
abbrev tFresh:TypeId:=236
theorem und_fresh:Tryz.prog.underlying tFresh=some (.map 3 68):=Tryz.underlying236
theorem zero_map (w:World):(zeroValue 68).run Tryz.prog w=.ok (.agg Mp.o.cs.toArray) w:=by kernel_rfl
def FRm (w:World) (mf:Nat) (fr:Int→Option Mp):Prop:=∃ es,VM w mf es∧∀ j,omap.look es j=(fr j).map fun q=>.agg q.cs.toArray
theorem FRm.stays {w w':World} {mf:Nat} {fr:Int→Option Mp} (h:FRm w mf fr) (hb:w'.heap[mf]?=w.heap[mf]?):FRm w' mf fr:=by
 obtain ⟨es,h1,h2⟩:=h
 exact ⟨es,h1.stays hb,h2⟩
theorem FRm.inside {w:World} {mf:Nat} {fr:Int→Option Mp} (h:FRm w mf fr):mf < w.heap.size:=h.elim fun _ h=>h.1.inside
theorem FRm.below {w w':World} {mf:Nat} {fr:Int→Option Mp} (h:FRm w mf fr) (hb:Below w.heap.size w w'):FRm w' mf fr:=h.stays (hb.block _ h.inside)
theorem FRm.look {w:World} {mf:Nat} {fr:Int→Option Mp} (h:FRm w mf fr) {i:Int} (hi:I64 i):(Instr.lookup tFresh (.map (some mf)) (.int .i64 i) true).run Tryz.prog w=.ok (.tuple #[.agg (((fr i).getD Mp.o).cs).toArray,.bool (fr i).isSome]) w:=by
 obtain ⟨es,h1,h2⟩:=h
 have h3:=h1.look_ok und_fresh (zero_map w) hi
 rw [h2] at h3
 cases e:fr i with
 | none=>rw [e] at h3; exact h3
 | some q=>rw [e] at h3; exact h3
theorem field_map (n:Nd) (A:Option Addr) (c:Nat) (w:World):(Instr.field 72 (.agg (n.cs A c).toArray) 0).run Tryz.prog w=.ok (.agg n.m.cs.toArray) w:=by kernel_rfl
theorem field_world (n:Nd) (A:Option Addr) (c:Nat) (u:Mp) (w:World):(Instr.field tPlaced (.agg (plcs n A c u).toArray) 1).run Tryz.prog w=.ok (.agg u.cs.toArray) w:=by kernel_rfl
theorem bs_map (q:Mp) (w:World):(Instr.buildSlice 333 1 #[(0,.agg q.cs.toArray)]).run Tryz.prog w=.ok (.slice (some ⟨w.heap.size,0,none⟩) 1 1) (w.alloc (.cells q.cs.toArray 68)):=by kernel_rfl
def reckonS (x:PSc) (fr:Int→Option Mp) (i:Int):Mp×Int:=if i=0 then ((ndAt x i).m,0) else (ndAt x i).m.thens [(fr (par x.t i)).getD (wsAt x (par x.t i))]
section
variable {w w':World} {g b m:Nat} {s:Sh} {Z:ZZ} {x:PSc}
theorem SceneAt.look_no (h:SceneAt w g b m s Z x) {i:Int} (hi:I64 i):∃ A c,∀ W,Below w.heap.size w W→(Instr.lookup tPlaces (.map (some m)) (.int .i64 i) false).run Tryz.prog W=.ok (.agg (plcs (ndAt x i) A c (wsAt x i)).toArray) W:=by
 obtain ⟨A,c,hl⟩:=h.look_all hi
 exact ⟨A,c,fun W hb=>(hl W hb).1⟩
theorem reckon_any (h:SceneAt w g b m s Z x) (i:Int) (hi:I64 i) {mf:Nat} {fr:Int→Option Mp} (hf:FRm w mf fr) :
  Calls Tryz.prog 124 #[.pointer (some ⟨g,0,none⟩),.int .i64 i,.map (some mf)] w fun e w'=>e=.returned (.tuple #[.agg ((reckonS x fr i).1.cs).toArray,.int .i64 (reckonS x fr i).2])∧Below w.heap.size w w':=by
 obtain ⟨R,hR⟩:∃ R,reckonS x fr i=R:=⟨_,rfl⟩
 have HR:=Hd hR
 rw [hR]
 unfold reckonS at HR
 obtain ⟨A,c,hl⟩:=h.look_no hi
 obtain ⟨n,hn⟩:∃ n,ndAt x i=n:=⟨_,rfl⟩
 obtain ⟨u,hu⟩:∃ u,wsAt x i=u:=⟨_,rfl⟩
 obtain ⟨p,hp⟩:∃ p,par x.t i=p:=⟨_,rfl⟩
 rw [hn,hu] at hl
 rw [hn,hp] at HR
 have HL:=Hd hl
 have HP:=Hd hp
 have HP64:Hid (I64 p):=by rw [← hp]; exact par_64 h.tree.ok i
 have HS:=Hd h
 have HF:=Hd hf
 have HI:=Hd hi
 have HB0:Hid (Below w.heap.size w (w.alloc (.cells #[.int .i64 0,.int .i64 0,.int .i64 0,.int .i64 0,.int .i64 0,.int .i64 0] 68))):=(Below.refl _ _).alloc (Nat.le_refl _) _
 have HZ0:Hid (Blk (w.alloc (.cells #[.int .i64 0,.int .i64 0,.int .i64 0,.int .i64 0,.int .i64 0,.int .i64 0] 68)) w.heap.size [.int .i64 0,.int .i64 0,.int .i64 0,.int .i64 0,.int .i64 0,.int .i64 0]):=blk_new w [.int .i64 0,.int .i64 0,.int .i64 0,.int .i64 0,.int .i64 0,.int .i64 0] _
 have HSZ:Hid ((w.alloc (.cells #[.int .i64 0,.int .i64 0,.int .i64 0,.int .i64 0,.int .i64 0,.int .i64 0] 68)).heap.size=w.heap.size + 1):=by show _=_; simp
 clear hR hl hn hu hp h hf hi
 go_enter Tryz.func124,Tryz.ntmps124
 go_upto_region 1 with (fail)
 generalize (w.alloc (.cells #[.int .i64 0,.int .i64 0,.int .i64 0,.int .i64 0,.int .i64 0,.int .i64 0] 68))=w0 at *
 obtain ⟨⟨-,-,-,-,-,c5⟩,i0⟩:=(HS.out.below HB0.out).top
 have hlk:=HL.out w0 HB0.out
 have hf1:=field_node n A c u w0
 have hf2:=field_map n A c w0
 have HZ2:Hid (Blk (w0.alloc (.cells #[.int .i64 0,.int .i64 0,.int .i64 0,.int .i64 0,.int .i64 0,.int .i64 0] 68)) w0.heap.size [.int .i64 0,.int .i64 0,.int .i64 0,.int .i64 0,.int .i64 0,.int .i64 0]):=blk_new w0 [.int .i64 0,.int .i64 0,.int .i64 0,.int .i64 0,.int .i64 0,.int .i64 0] _
 have HBa:Hid (Below w0.heap.size w0 (w0.alloc (.cells #[.int .i64 0,.int .i64 0,.int .i64 0,.int .i64 0,.int .i64 0,.int .i64 0] 68))):=(Below.refl _ _).alloc (Nat.le_refl _) _
 go_upto_region 2 with (first | (with_reducible show wpList _ _ _ (Oper.mk _ (Op.store _ _ _) _ _ _ _ :: _) _ _; first | (refine wpl_stow 68 _ _ rfl rfl rfl _ 0 rfl (n.m.cs) rfl ([.int .i64 0,.int .i64 0,.int .i64 0,.int .i64 0,.int .i64 0,.int .i64 0]) HZ2.out (n.m.cs) rfl (Nat.le_of_ble_eq_true rfl) (by kernel_rfl) (Mp.one1 _) ?_; intro w3 HW3 HK3)))
 have HB3:Hid (Below w0.heap.size w0 w3):=HW3.out.below HBa.out (Nat.le_refl _)
 have HB03:Hid (Below w.heap.size w w3):=HB0.out.trans (HB3.out.mono HB0.out.size)
 have HZ3:Hid (Blk w3 w.heap.size [.int .i64 0,.int .i64 0,.int .i64 0,.int .i64 0,.int .i64 0,.int .i64 0]):=HZ0.out.below' HB3.out
 have HLT:Hid (w.heap.size < w0.heap.size∧w0.heap.size < w3.heap.size):=⟨by have:=HSZ.out; omega,HK3.out.inside⟩
 clear hlk hf1 hf2 c5 i0 HZ2 HBa HW3 HZ0 HL
 obtain ⟨k8,hk8⟩:∃ k8,w0.heap.size=k8:=⟨_,rfl⟩
 rw [hk8] at HK3 HLT ⊢
 clear hk8 HSZ
 by_cases h0:i=0
 ·subst h0
  have HE:Hid (R=(n.m,0)):=by show _=_; rw [← HR.out,if_pos rfl]
  clear HR
  go_wp2_with (first | (with_reducible show wpList _ _ _ (Oper.mk _ (Op.load _ _) _ _ _ _ :: _) _ _; first | (refine wpl_take 68 _ rfl rfl _ 0 rfl (n.m.cs) HK3.out (n.m.cs) rfl _ Tryz.underlying68 rfl (by kernel_rfl) ?_)) | (with_reducible show wpList _ _ _ (Oper.mk _ (Op.store _ _ _) _ _ _ _ :: _) _ _; first | (refine wpl_stow 68 _ _ rfl rfl rfl _ 0 rfl (n.m.cs) rfl ([.int .i64 0,.int .i64 0,.int .i64 0,.int .i64 0,.int .i64 0,.int .i64 0]) HZ3.out (n.m.cs) rfl (Nat.le_of_ble_eq_true rfl) (by kernel_rfl) (Mp.one1 _) ?_; intro w4 HW4 HK4)))
  rw [HE.out]
  exact blk_ret2 rfl rfl rfl HK4.out Tryz.underlying68 rfl (by kernel_rfl) ⟨rfl,HW4.out.below HB03.out (Nat.le_refl _)⟩
 have t1:(i == 0)=false:=by simpa using h0
 have HE:Hid (R=n.m.thens [(fr p).getD (wsAt x p)]):=by show _=_; rw [← HR.out,if_neg h0]
 clear HR h0
 have HS3:=Hd (HS.out.below HB03.out)
 have HPC:=Hd (tparent HS3.out.tree i HI.out)
 rw [HP.out] at HPC
 obtain ⟨⟨c0,-,-,-,-,-⟩,i0⟩:=HS3.out.top
 have hinv:=inv_parent (.pointer (some ⟨b,0,none⟩))
 go_wp2_with (fail)
 refine HPC.out.mono ?_
 rintro e w4 ⟨rfl,hb4⟩
 have HB4:=Hd hb4
 have HB04:Hid (Below w.heap.size w w4):=HB03.out.trans (hb4.mono HB03.out.size)
 have HK4:Hid (Blk w4 k8 n.m.cs):=HK3.out.below' hb4
 have HZ4:Hid (Blk w4 w.heap.size [.int .i64 0,.int .i64 0,.int .i64 0,.int .i64 0,.int .i64 0,.int .i64 0]):=HZ3.out.below' hb4
 have HL4:Hid (w.heap.size < k8∧k8 < w4.heap.size):=⟨HLT.out.1,Nat.lt_of_lt_of_le HLT.out.2 hb4.size⟩
 clear hb4 HPC hinv c0 i0 HS3 HK3 HZ3 HB3 HB4 HB03 HLT t1
 have hlk:=(HF.out.below HB04.out).look HP64.out
 obtain ⟨q,hq⟩:∃ q,(fr p).getD Mp.o=q:=⟨_,rfl⟩
 rw [hq] at hlk
 have HQ:=Hd hq
 have HZ5:Hid (Blk (w4.alloc (.cells #[.int .i64 0,.int .i64 0,.int .i64 0,.int .i64 0,.int .i64 0,.int .i64 0] 68)) w4.heap.size [.int .i64 0,.int .i64 0,.int .i64 0,.int .i64 0,.int .i64 0,.int .i64 0]):=blk_new w4 [.int .i64 0,.int .i64 0,.int .i64 0,.int .i64 0,.int .i64 0,.int .i64 0] _
 have HBa:Hid (Below w4.heap.size w4 (w4.alloc (.cells #[.int .i64 0,.int .i64 0,.int .i64 0,.int .i64 0,.int .i64 0,.int .i64 0] 68))):=(Below.refl _ _).alloc (Nat.le_refl _) _
 clear hq
 go_upto_region 6 with (first | (with_reducible show wpList _ _ _ (Oper.mk _ (Op.store _ _ _) _ _ _ _ :: _) _ _; first | (refine wpl_stow 68 _ _ rfl rfl rfl _ 0 rfl (q.cs) rfl ([.int .i64 0,.int .i64 0,.int .i64 0,.int .i64 0,.int .i64 0,.int .i64 0]) HZ5.out (q.cs) rfl (Nat.le_of_ble_eq_true rfl) (by kernel_rfl) (Mp.one1 _) ?_; intro w5 HW5 HK5)))
 have HB5:Hid (Below w4.heap.size w4 w5):=HW5.out.below HBa.out (Nat.le_refl _)
 have HB05:Hid (Below w.heap.size w w5):=HB04.out.trans (HB5.out.mono HB04.out.size)
 have HK8:Hid (Blk w5 k8 n.m.cs):=HK4.out.below' HB5.out
 have HZ8:Hid (Blk w5 w.heap.size [.int .i64 0,.int .i64 0,.int .i64 0,.int .i64 0,.int .i64 0,.int .i64 0]):=HZ4.out.below' HB5.out
 obtain ⟨k9,hk9⟩:∃ k9,w4.heap.size=k9:=⟨_,rfl⟩
 have HL5:Hid (w.heap.size < k8∧k8 < k9∧k9 < w5.heap.size):=⟨HL4.out.1,by rw [← hk9]; exact HL4.out.2,by rw [← hk9]; exact HK5.out.inside⟩
 rw [hk9] at HK5 ⊢
 clear hlk HZ5 HBa HW5 HK4 HZ4 HL4 HB04 hk9 HB5
 cases hfr:(fr p) with
 | some q2=>
  obtain rfl:q2=q:=by have:=HQ.out; rw [hfr] at this; exact this
  have HE2:Hid (R=n.m.thens [q2]):=by show _=_; rw [HE.out,hfr]; rfl
  clear hfr HE
  have t3:(some q2:Option Mp).isSome=true:=rfl
  go_wp2_with (first | (with_reducible show wpList _ _ _ (Oper.mk _ (Op.load _ _) _ _ _ _ :: _) _ _; first | (refine wpl_take 68 _ rfl rfl _ 0 rfl (n.m.cs) HK8.out (n.m.cs) rfl _ Tryz.underlying68 rfl (by kernel_rfl) ?_) | (refine wpl_take 68 _ rfl rfl _ 0 rfl (q2.cs) HK5.out (q2.cs) rfl _ Tryz.underlying68 rfl (by kernel_rfl) ?_)) | ((with_reducible show wpList _ _ _ (Oper.mk _ (Op.buildSlice _ _ _) _ _ _ _ :: _) _ _); refine wpl_bs _ _ _ rfl rfl (by simp [go_sem]) (bs_map q2 _) ?_))
  have hmr:MRow (w5.alloc (.cells q2.cs.toArray 68)) (some ⟨w5.heap.size,0,none⟩) [q2]:=by
   have:=mrow_new w5 [q2] 68 rfl
   rwa [show ([q2]:List Mp).flatMap Mp.cs=q2.cs from by simp] at this
  refine (mp_thens n.m _ [q2] 1 _ hmr (by simp)).mono ?_
  rintro e w9 ⟨rfl,hb9⟩
  have hb8:Below w5.heap.size w5 w9:=((Below.refl _ _).alloc (Nat.le_refl _) _).trans (hb9.mono (by simp))
  rw [show (n.m.thens [q2]).1.v=.agg (n.m.thens [q2]).1.cs.toArray from rfl]
  have HB9:Hid (Below w.heap.size w w9):=HB05.out.trans (hb8.mono HB05.out.size)
  have HZ9:Hid (Blk w9 w.heap.size [.int .i64 0,.int .i64 0,.int .i64 0,.int .i64 0,.int .i64 0,.int .i64 0]):=HZ8.out.below' hb8
  rw [← HE2.out]
  obtain ⟨RM,RE⟩:=R
  clear hmr hb9 hb8
  dsimp only
  go_wp2_with (first | (with_reducible show wpList _ _ _ (Oper.mk _ (Op.store _ _ _) _ _ _ _ :: _) _ _; first | (refine wpl_stow 68 _ _ rfl rfl rfl _ 0 rfl (RM.cs) rfl ([.int .i64 0,.int .i64 0,.int .i64 0,.int .i64 0,.int .i64 0,.int .i64 0]) HZ9.out (RM.cs) rfl (Nat.le_of_ble_eq_true rfl) (by kernel_rfl) (Mp.one1 _) ?_; intro wz HWz HKz)))
  exact blk_ret2 rfl rfl rfl HKz.out Tryz.underlying68 rfl (by kernel_rfl) ⟨rfl,HWz.out.below HB9.out (Nat.le_refl _)⟩
 | none=>
  obtain rfl:Mp.o=q:=by have:=HQ.out; rw [hfr] at this; exact this
  have HE2:Hid (R=n.m.thens [wsAt x p]):=by show _=_; rw [HE.out,hfr]; rfl
  clear hfr HE HQ
  have t3:(none:Option Mp).isSome=false:=rfl
  obtain ⟨A6,c6,hl6⟩:=HS.out.look_no HP64.out
  obtain ⟨n6,hn6⟩:∃ n6,ndAt x p=n6:=⟨_,rfl⟩
  obtain ⟨u6,hu6⟩:∃ u6,wsAt x p=u6:=⟨_,rfl⟩
  have hlk:=hl6 w5 HB05.out
  rw [hn6,hu6] at hlk
  rw [hu6] at HE2
  have hf3:=field_world n6 A6 c6 u6 w5
  obtain ⟨⟨-,-,-,-,-,c5⟩,i0⟩:=(HS.out.below HB05.out).top
  clear hl6 hn6 hu6
  go_upto_region 8 with (first | (with_reducible show wpList _ _ _ (Oper.mk _ (Op.store _ _ _) _ _ _ _ :: _) _ _; first | (refine wpl_stow 68 _ _ rfl rfl rfl _ 0 rfl (u6.cs) rfl (Mp.o.cs) HK5.out (u6.cs) rfl (Nat.le_of_ble_eq_true rfl) (by kernel_rfl) (Mp.one1 _) ?_; intro w6 HW6 HK6)))
  have HB06:Hid (Below w.heap.size w w6):=HW6.out.below HB05.out (by have:=HL5.out; omega)
  have HKm6:Hid (Blk w6 k8 n.m.cs):=HW6.out.blk (by have:=HL5.out; omega) HK8.out
  have HZ6:Hid (Blk w6 w.heap.size [.int .i64 0,.int .i64 0,.int .i64 0,.int .i64 0,.int .i64 0,.int .i64 0]):=HW6.out.blk (by have:=HL5.out; omega) HZ8.out
  clear hlk hf3 c5 i0 HW6 HK8 HZ8 HK5
  go_wp2_with (first | (with_reducible show wpList _ _ _ (Oper.mk _ (Op.load _ _) _ _ _ _ :: _) _ _; first | (refine wpl_take 68 _ rfl rfl _ 0 rfl (n.m.cs) HKm6.out (n.m.cs) rfl _ Tryz.underlying68 rfl (by kernel_rfl) ?_) | (refine wpl_take 68 _ rfl rfl _ 0 rfl (u6.cs) HK6.out (u6.cs) rfl _ Tryz.underlying68 rfl (by kernel_rfl) ?_)) | ((with_reducible show wpList _ _ _ (Oper.mk _ (Op.buildSlice _ _ _) _ _ _ _ :: _) _ _); refine wpl_bs _ _ _ rfl rfl (by simp [go_sem]) (bs_map u6 _) ?_))
  have hmr:MRow (w6.alloc (.cells u6.cs.toArray 68)) (some ⟨w6.heap.size,0,none⟩) [u6]:=by
   have:=mrow_new w6 [u6] 68 rfl
   rwa [show ([u6]:List Mp).flatMap Mp.cs=u6.cs from by simp] at this
  refine (mp_thens n.m _ [u6] 1 _ hmr (by simp)).mono ?_
  rintro e w9 ⟨rfl,hb9⟩
  have hb8:Below w6.heap.size w6 w9:=((Below.refl _ _).alloc (Nat.le_refl _) _).trans (hb9.mono (by simp))
  rw [show (n.m.thens [u6]).1.v=.agg (n.m.thens [u6]).1.cs.toArray from rfl]
  have HB9:Hid (Below w.heap.size w w9):=HB06.out.trans (hb8.mono HB06.out.size)
  have HZ9:Hid (Blk w9 w.heap.size [.int .i64 0,.int .i64 0,.int .i64 0,.int .i64 0,.int .i64 0,.int .i64 0]):=HZ6.out.below' hb8
  rw [← HE2.out]
  obtain ⟨RM,RE⟩:=R
  clear hmr hb9 hb8
  dsimp only
  go_wp2_with (first | (with_reducible show wpList _ _ _ (Oper.mk _ (Op.store _ _ _) _ _ _ _ :: _) _ _; first | (refine wpl_stow 68 _ _ rfl rfl rfl _ 0 rfl (RM.cs) rfl ([.int .i64 0,.int .i64 0,.int .i64 0,.int .i64 0,.int .i64 0,.int .i64 0]) HZ9.out (RM.cs) rfl (Nat.le_of_ble_eq_true rfl) (by kernel_rfl) (Mp.one1 _) ?_; intro wz HWz HKz)))
  exact blk_ret2 rfl rfl rfl HKz.out Tryz.underlying68 rfl (by kernel_rfl) ⟨rfl,HWz.out.below HB9.out (Nat.le_refl _)⟩
end
end Go.Proofs.YthpifjcddgmjnaaGreat
namespace Go.Proofs.YthpifjcddgmjnaaGreat
open Go.RowKit trm itr Go.Shelf
attribute [local go_sem] Oper.semAt_some
theorem backr_call (A:Option Addr) (n c:Nat) (w:World):Calls Tryz.prog 122 #[.slice A n c] w fun e w'=>e=.returned (.func (.func 175) #[] #[.pointer (some ⟨w.heap.size,0,none⟩)])∧w'=w.alloc (.cells #[.slice A n c] 240):=by
 go_enter Tryz.func122,Tryz.ntmps122
 go_wp2_with (fail)
 go_ret
 exact ⟨rfl,rfl⟩
structure BackR (bx:Nat) (A:Option Addr) (c:Nat) (l:List Value) (W:World):Prop where
 box:W.cell? ⟨bx,0,none⟩=some (.slice A l.length c)
 at_:∀ j (hj:j < l.length),∃ g,A=some ⟨g,0,none⟩∧W.cell? ⟨g,j,none⟩=some (l[j])
theorem BackR.bk {bx:Nat} {A:Option Addr} {c:Nat} {l:List Value} {W W':World} {B:Nat} (h:BackR bx A c l W) (hb:Bk B W W'):BackR bx A c l W':=
 ⟨cell_bk hb h.box,fun j hj=>by
  obtain ⟨g,e,hc⟩:=h.at_ j hj
  exact ⟨g,e,cell_bk hb hc⟩⟩
def backrE (l:List Value):List (Array Value):=(List.range l.length).map fun j=>#[.int .i64 ((l.length:Int) - 1 - (j:Nat)),(l.getD (l.length - 1 - j) undef)]
theorem backrE_len (l:List Value):(backrE l).length=l.length:=by simp [backrE]
theorem backrE_at (l:List Value) {j:Nat} (hj:j < (backrE l).length):(backrE l)[j]=#[.int .i64 ((l.length:Int) - 1 - (j:Nat)),(l.getD (l.length - 1 - j) undef)]:=by simp [backrE]
theorem backr_iter {bx:Nat} {A:Option Addr} {c:Nat} {l:List Value} {W:World} (hl:l.length≤100000) (h:BackR bx A c l W) :
  IterL Tryz.prog 175 #[.pointer (some ⟨bx,0,none⟩)] (backrE l) (fun _=>Eq) (fun A' B=>BackR bx A c l A'→BackR bx A c l B) W:=by
 intro lp J Jx _ _ hY h0
 have HY:=Hd hY
 have HL:=Hd hl
 have c0:=h.box
 have HB:=Hd h
 clear hY hl h
 refine (callsIn_wide (n:=0)).1 (callsIn_of_wp Tryz.func175 rfl trivial ?_ rfl)
 simp only [Tryz.ntmps175,List.size_toArray,List.length_cons,List.length_nil,Nat.reduceAdd,Nat.reduceSub,Array.replicate_succ,Array.replicate_zero,List.push_toArray,List.append_toArray,List.nil_append,List.cons_append]
 have hlb:(l.length:Int)≤100000:=by have:=HL.out; omega
 gi_wp2_with (fail)
 gi_loopw [3] (fun x wr=>∃ j:Nat,j≤l.length∧x=.int .i64 ((l.length:Int) - 1 - (j:Nat))∧Hid (J j wr)∧Hid (BackR bx A c l wr)) (fun x _=>(intOf x + 1).toNat)
 case atStart=>exact ⟨0,Nat.zero_le _,by simp,h0,HB⟩
 case round=>
  obtain ⟨j,hj,rfl,HJ,HK⟩:=hrel
  by_cases hlt:j < l.length
  ·have hlt':j < (backrE l).length:=by rw [backrE_len]; exact hlt
   obtain ⟨fn,tmps,assign,body,hy,hR⟩:=HY.out j hlt' wr HJ.out
   rw [backrE_at] at hy
   obtain ⟨m,hm⟩:∃ m,l.length - 1 - j=m:=⟨_,rfl⟩
   have e:(l.length:Int) - 1 - (j:Nat)=(m:Nat):=by omega
   have hml:m < l.length:=by omega
   have e2:((m:Nat):Int) - 1=(l.length:Int) - 1 - ((j + 1:Nat):Int):=by omega
   obtain ⟨g,rA,k1⟩:=HK.out.at_ m hml
   rw [hm,List.getD_eq_getElem?_getD,List.getElem?_eq_getElem hml,Option.getD_some] at hy
   have cb:=HK.out.box
   subst rA
   rw [e] at hy ⊢
   generalize l[m]=x at *
   have hmb:((m:Nat):Int)≤100000:=by omega
   have HE2:=Hd e2
   have HM:=Hd hm
   have HR:=Hd hR
   clear e e2 hm hR
   gi_wp2_with (fail)
   refine ⟨rfl,HR.out.mono ?_⟩
   rintro e W3 ⟨-,(⟨rfl,hJ3,hk3⟩ | ⟨rfl,hJx3⟩)⟩
   ·have HB3:Hid (BackR bx (some ⟨g,0,none⟩) c l W3):=hk3 HK.out
    have HJ3:=Hd hJ3
    clear hJ3 hk3 HJ HK
    gi_wp2_with (fail)
    go_roundw
    case rel=>exact ⟨j + 1,by omega,by rw [← HE2.out],HJ3,HB3⟩
    case measure=>simp [intOf]
   ·have HJ3:=Hd hJx3
    clear hJx3 HJ HK
    gi_wp2_with (fail)
    refine bodyPost_ret (results_none rfl _ _ _) rfl ?_
    exact ⟨⟨_,rfl⟩,.inr ⟨j + 1,by rw [backrE_len]; omega,HJ3.out⟩⟩
  ·have e:(l.length:Int) - 1 - (j:Nat)=-1:=by omega
   obtain rfl:j=l.length:=by omega
   have HJ2:Hid (J (backrE l).length wr):=by rw [backrE_len]; exact HJ
   rw [e]
   clear e HJ HK
   gi_wp2_with (fail)
   go_end0
   exact ⟨⟨_,rfl⟩,.inl HJ2.out⟩
end Go.Proofs.YthpifjcddgmjnaaGreat
namespace Go.Proofs.YthpifjcddgmjnaaGreat
open Go.RowKit pxm imm trm Go.Maps
def eqN (n1 n2:Nd):Bool:=eqNd n1.m n1.op n1.hi n1.cl n1.r n2.m n2.op n2.hi n2.cl n2.r (eqLk n1.lk.k n1.lk.W n1.lk.H n1.lk.p n1.lk.iw n1.lk.ih n1.lk.l n2.lk.k n2.lk.W n2.lk.H n2.lk.p n2.lk.iw n2.lk.ih n2.lk.l)
theorem same_node (n1 n2:Nd) (A1 A2:Option Addr) (c1 c2:Nat) (u1 u2:Mp) (m1:n1.lk.l.length≤300) (m2:n2.lk.l.length≤300) (w:World) (h1:Row eW w A1 n1.lk.l) (h2:Row eW w A2 n2.lk.l) :
  Calls Tryz.prog 69 #[plv n1 A1 c1 u1,plv n2 A2 c2 u2] w fun e w'=>e=.returned (.bool (eqN n1 n2))∧Below w.heap.size w w':=by
 unfold plv
 have HB0:Hid (Below w.heap.size w ((w.alloc (.cells (plcs n1 A1 c1 u1).toArray 143)).alloc (.cells (plcs n2 A2 c2 u2).toArray 143))):=((Below.refl _ _).alloc (Nat.le_refl _) _).alloc (by simp) _
 have HK1:Hid (Blk ((w.alloc (.cells (plcs n1 A1 c1 u1).toArray 143)).alloc (.cells (plcs n2 A2 c2 u2).toArray 143)) w.heap.size (plcs n1 A1 c1 u1)):=(blk_new w (plcs n1 A1 c1 u1) _).alloc _
 have HK2:Hid (Blk ((w.alloc (.cells (plcs n1 A1 c1 u1).toArray 143)).alloc (.cells (plcs n2 A2 c2 u2).toArray 143)) (w.heap.size + 1) (plcs n2 A2 c2 u2)):=blk_at (w.alloc _) _ (by simp) (plcs n2 A2 c2 u2) _
 have HEQ:=Hd (ndequal_any n1.m n1.op n1.hi n1.cl n1.r n1.lk.k n1.lk.W n1.lk.H n1.lk.p n1.lk.iw n1.lk.ih A1 n1.lk.l c1 n2.m n2.op n2.hi n2.cl n2.r n2.lk.k n2.lk.W n2.lk.H n2.lk.p n2.lk.iw n2.lk.ih A2 n2.lk.l c2 (by unfold maxLen; omega) (by unfold maxLen; omega) ((w.alloc (.cells (plcs n1 A1 c1 u1).toArray 143)).alloc (.cells (plcs n2 A2 c2 u2).toArray 143)) (Row.below h1 HB0.out) (Row.below h2 HB0.out))
 rw [← Nd.v_eq n1 A1 c1,← Nd.v_eq n2 A2 c2,show eqNd n1.m n1.op n1.hi n1.cl n1.r n2.m n2.op n2.hi n2.cl n2.r (eqLk n1.lk.k n1.lk.W n1.lk.H n1.lk.p n1.lk.iw n1.lk.ih n1.lk.l n2.lk.k n2.lk.W n2.lk.H n2.lk.p n2.lk.iw n2.lk.ih n2.lk.l)=eqN n1 n2 from rfl] at HEQ
 unfold Nd.v at HEQ
 clear m1 m2 h1 h2
 go_enter Tryz.func69,Tryz.ntmps69
 go_upto_region 1 with (fail)
 generalize ((w.alloc (.cells (plcs n1 A1 c1 u1).toArray 143)).alloc (.cells (plcs n2 A2 c2 u2).toArray 143))=w0 at *
 have i1:=HK1.out.inside
 have i2:=HK2.out.inside
 go_wp2_with (first | (with_reducible show wpList _ _ _ (Oper.mk _ (Op.load _ _) _ _ _ _ :: _) _ _; first | (refine wpl_take 72 _ rfl rfl _ 0 rfl (plcs n1 A1 c1 u1) HK1.out (n1.cs A1 c1) rfl _ Tryz.underlying72 rfl (by kernel_rfl) ?_) | (refine wpl_take 72 _ rfl rfl _ 0 rfl (plcs n2 A2 c2 u2) HK2.out (n2.cs A2 c2) rfl _ Tryz.underlying72 rfl (by kernel_rfl) ?_)))
 refine HEQ.out.mono ?_
 rintro e w1 ⟨rfl,hb1⟩
 have HB1:=Hd (HB0.out.trans (hb1.mono HB0.out.size))
 clear hb1 HEQ
 go_wp2_with (fail)
 go_ret
 exact ⟨rfl,HB1.out⟩
end Go.Proofs.YthpifjcddgmjnaaGreat
namespace Go.Proofs.YthpifjcddgmjnaaGreat
open Go.RowKit pxm imm trm Go.Maps
def wstep (m:Mp) (w:Option Mp):Option Mp:=w.bind fun w=>if (m.thens [w]).2=0 then some (m.thens [w]).1 else none
def worldOf (t:T) (nd:Int→Nd) (i:Int):Option Mp:=(line t i).foldr (fun j w=>wstep (nd j).m w) (some (nd 0).m)
theorem worldOf_0 (t:T) (nd:Int→Nd):worldOf t nd 0=some (nd 0).m:=by unfold worldOf; rw [line_0]; rfl
theorem worldOf_step {t:T} (ok:Ok t) (nd:Int→Nd) {i:Int} (hi:i∈ids t):worldOf t nd i=wstep (nd i).m (worldOf t nd (par t i)):=by
 unfold worldOf
 rw [line_step ok hi]
 rfl
theorem line_same {t t':T} (ok:Ok t) (ok':Ok t') {i:Int} (hi:i=0∨i∈ids t') (h:∀ j∈line t' i,j∈ids t∧par t' j=par t j):line t' i=line t i:=by
 refine ok'.climb (P:=fun i=>(∀ j∈line t' i,j∈ids t∧par t' j=par t j)→line t' i=line t i) (fun _=>by rw [line_0,line_0]) (fun i hi ih hs=>?_) hi h
 rw [line_step ok' hi] at hs ⊢
 obtain ⟨h1,h2⟩:=hs i List.mem_cons_self
 rw [line_step ok h1,ih fun j hj=>hs j (List.mem_cons_of_mem _ hj),h2]
theorem worldOf_same {t t':T} {nd nd':Int→Nd} {i:Int} (h1:line t' i=line t i) (h0:(nd' 0).m=(nd 0).m) (h2:∀ j∈line t i,(nd' j).m=(nd j).m):worldOf t' nd' i=worldOf t nd i:=by
 unfold worldOf
 rw [h1,h0]
 generalize some (nd 0).m=z
 revert h2
 generalize line t i=l
 intro h2
 induction l with
 | nil=>rfl
 | cons j l ih=>
  rw [List.foldr_cons,List.foldr_cons,h2 j List.mem_cons_self,ih fun k hk=>h2 k (List.mem_cons_of_mem _ hk)]
def Settled (x:PSc) (S:Int→Prop):Prop:=∀ i,has x.t i=true→(∀ j∈line x.t i,¬ S j)→¬ S 0→worldOf x.t x.nd i=some (x.ws i)
theorem Settled.step {x y:PSc} {S S':Int→Prop} (h:Settled x S) (ok:Ok x.t) (ok':Ok y.t) (hS:∀ j,S j→S' j)
  (hs:∀ j,has y.t j=true→¬ S' j→has x.t j=true∧(j≠0→par y.t j=par x.t j)∧(y.nd j).m=(x.nd j).m∧y.ws j=x.ws j):Settled y S':=by
 intro i hi hl h0
 have hh:=has_iff.1 hi
 have hj:∀ j∈line y.t i,j∈ids x.t∧par y.t j=par x.t j∧(y.nd j).m=(x.nd j).m:=fun j hj=>by
  have h1:=line_mem ok' hh hj
  obtain ⟨h2,h3,h4,-⟩:=hs j (has_iff.2 (.inr h1)) (hl j hj)
  have hn:=ok'.ne0 h1
  exact ⟨(has_iff.1 h2).resolve_left hn,h3 hn,h4⟩
 have e:=line_same ok ok' hh fun j hj'=>⟨(hj j hj').1,(hj j hj').2.1⟩
 have hr:=hs 0 (has_iff.2 (.inl rfl)) h0
 have hi2:¬ S' i:=by
  rcases hh with e0 | e0
  ·rw [e0]; exact h0
  ·exact hl i (by rw [line_step ok' e0]; exact List.mem_cons_self)
 have h5:=hs i hi hi2
 rw [worldOf_same e hr.2.2.1 fun j hj'=>(hj j (by rw [e]; exact hj')).2.2,h i h5.1 (fun j hj' k=>hl j (by rw [e]; exact hj') (hS j k)) fun k=>h0 (hS 0 k),h5.2.2.2]
def touch (o:Op9):Prop:=o.k=1∨o.k=3∨o.k=4
theorem doS_ok {M:Int} {x:PSc} (ok:Ok x.t) (o:Op9):Ok (doS M x o).1.t:=by
 unfold doS
 split
 ·unfold createS
  split
  ·exact ok
  ·split
   ·exact ok
   ·exact (addS_ok ok _ _ _).1
 split
 ·unfold removeS
  split
  ·exact ok
  ·exact (remS_ok ok _).1
 split
 ·unfold moveS
  split
  ·exact ok
  ·exact (movS_ok ok _ _ _).1
 split
 ·unfold setS
  split
  ·exact ok
  ·split <;> exact ok
 ·exact ok
theorem setN_m {n:Nd} {o:Op9} (h:o.k≠4):(setN n o).m=n.m:=by
 unfold setN
 rw [if_neg h]
 split
 ·rfl
 split
 ·rfl
 split
 ·rfl
 split <;> rfl
theorem Settled.op {M:Int} {x:PSc} {S:Int→Prop} (h:Settled x S) (ok:Ok x.t) {o:Op9} (hz:(doS M x o).2=0):Settled (doS M x o).1 fun j=>S j∨(j=o.i∧touch o):=by
 refine h.step ok (doS_ok ok o) (fun j hj=>.inl hj) fun j hj hn=>?_
 have hn2:touch o→j≠o.i:=fun ht e=>hn (.inr ⟨e,ht⟩)
 clear hn h
 unfold doS at hz hj ⊢
 by_cases h1:o.k=1
 ·rw [if_pos h1] at hz hj ⊢
  have hne:=hn2 (.inl h1)
  unfold createS at hz hj ⊢
  by_cases e1:(addS x.t o.i o.p o.n).2≠0
  ·rw [if_pos e1] at hz; exact absurd hz e1
  rw [if_neg e1] at hz hj ⊢
  by_cases e2:M < ((x.t.length + 2:Nat):Int)
  ·rw [if_pos e2] at hz; cases hz
  rw [if_neg e2] at hj ⊢
  obtain ⟨⟨t',e0⟩,ht⟩:∃ q,addS x.t o.i o.p o.n=q:=⟨_,rfl⟩
  have h0:e0=0:=by rw [ht] at e1; simpa using e1
  subst h0
  obtain ⟨b1,b2,b3,b4,b5,b6⟩:=addS_back ok ht
  rw [ht] at hj ⊢
  simp only at hj ⊢
  have hw:Ok (gone [o.i] t'):=by have:=Ok.gone b1 b2; rwa [b5] at this
  have hp:=alike_par hw ok b6 j
  rw [par_gone b1.nd,if_neg (by simpa using hne)] at hp
  exact ⟨((b4 j).1 hj).resolve_left hne,fun _=>hp,by rw [upd_ne _ hne],upd_ne _ hne _⟩
 rw [if_neg h1] at hz hj ⊢
 by_cases h2:o.k=2
 ·rw [if_pos h2] at hz hj ⊢
  unfold removeS at hz hj ⊢
  by_cases e1:(remS x.t o.i).2.2≠0
  ·rw [if_pos e1] at hz; exact absurd hz e1
  rw [if_neg e1] at hj ⊢
  obtain ⟨hi,hr⟩:=remS_yes (by simpa using e1)
  rw [hr] at hj ⊢
  simp only at hj ⊢
  have hh:=(has_gone ok hi).1 hj
  refine ⟨hh.2,fun _=>?_,by simp⟩
  rw [par_gone ok.nd,if_neg hh.1]
 rw [if_neg h2] at hz hj ⊢
 by_cases h3:o.k=3
 ·rw [if_pos h3] at hz hj ⊢
  have hne:=hn2 (.inr (.inl h3))
  unfold moveS at hz hj ⊢
  by_cases e1:(movS x.t o.i o.p o.n).2≠0
  ·rw [if_pos e1] at hz; exact absurd hz e1
  rw [if_neg e1] at hj ⊢
  obtain ⟨m1,m2,m3⟩:=movS_yes (by simpa using e1)
  rw [m1] at hj ⊢
  simp only at hj ⊢
  refine ⟨?_,fun _=>?_,by simp⟩
  ·rw [has_iff,ids_move m2,← has_iff] at hj; exact hj
  ·rw [par_move ok.nd,if_neg hne]
 rw [if_neg h3] at hz hj ⊢
 by_cases h4:4≤o.k∧o.k≤8
 ·rw [if_pos h4] at hz hj ⊢
  unfold setS at hz hj ⊢
  by_cases e1:has x.t o.i=false
  ·rw [if_pos e1] at hz; cases hz
  rw [if_neg e1] at hz hj ⊢
  by_cases e2:(setN Nd.plain o).chk≠0
  ·rw [if_pos e2] at hz; exact absurd hz e2
  rw [if_neg e2] at hj ⊢
  refine ⟨hj,fun _=>rfl,?_,rfl⟩
  simp only
  by_cases e3:j=o.i
  ·rw [e3,upd_same]
   exact setN_m fun e4=>hn2 (.inr (.inr e4)) e3
  ·rw [upd_ne _ e3]
 ·rw [if_neg h4] at hz
  cases hz
theorem Settled.mono {x:PSc} {S S':Int→Prop} (h:Settled x S) (hs:∀ j,S j→S' j):Settled x S':=fun i hi hl h0=>h i hi (fun j hj k=>hl j hj (hs j k)) fun k=>h0 (hs 0 k)
theorem allS_ok {M:Int}:∀ (l:List Op9) {x:PSc},Ok x.t→Ok (allS M x l).1.t
 | [],_,ok=>ok
 | o :: l,x,ok=>by
  rw [allS_cons]
  split
  ·exact ok
  ·exact allS_ok l (doS_ok ok o)
theorem allS_fit {M:Int}:∀ (l:List Op9) {x:PSc},(∀ o∈l,OpOk o)→(∀ i,Fit (x.nd i))→∀ i,Fit ((allS M x l).1.nd i)
 | [],_,_,h=>h
 | o :: l,x,ho,h=>by
  rw [allS_cons]
  split
  ·exact h
  ·exact allS_fit l (fun o' h'=>ho o' (List.mem_cons_of_mem _ h')) (doS_fit h (ho o List.mem_cons_self))
theorem allS_len {M:Int}:∀ (l:List Op9) {x:PSc},Ok x.t→(allS M x l).1.t.length≤x.t.length + l.length
 | [],_,_=>Nat.le_refl _
 | o :: l,x,ok=>by
  rw [allS_cons]
  split
  ·simp only; omega
  ·have h1:=doS_len (M:=M) ok o
   have h2:=allS_len (M:=M) l (doS_ok (M:=M) ok o)
   simp only [List.length_cons]
   omega
theorem Settled.all {M:Int}:∀ (l:List Op9) {x:PSc} {S:Int→Prop},Ok x.t→Settled x S→(allS M x l).2.2=0→Settled (allS M x l).1 fun j=>S j∨∃ o∈l,j=o.i∧touch o
 | [],x,S,_,h,_=>h.mono fun j hj=>.inl hj
 | o :: l,x,S,ok,h,hz=>by
  rw [allS_cons] at hz ⊢
  by_cases e:(doS M x o).2≠0
  ·rw [if_pos e] at hz; exact absurd hz e
  rw [if_neg e] at hz ⊢
  refine (Settled.all l (doS_ok ok o) (h.op ok (by simpa using e)) hz).mono fun j hj=>?_
  rcases hj with (hj | hj) | ⟨o',h1,h2⟩
  ·exact .inl hj
  ·exact .inr ⟨o,List.mem_cons_self,hj⟩
  ·exact .inr ⟨o',List.mem_cons_of_mem _ h1,h2⟩
end Go.Proofs.YthpifjcddgmjnaaGreat
namespace Go.Proofs.YthpifjcddgmjnaaGreat
open Go.RowKit pxm imm trm Go.Maps
structure UnI (t:T) (Sn:Int→Prop) (i:Int) (k:Nat) (next row:List Int):Prop where
 nx:next=i :: row.flatMap (kids t)
 sub:∀ j,j∈row↔j∈next.take k∧¬ Sn j
 le:k≤next.length
 nd:next.Nodup
 rnd:row.Nodup
 deep:∀ j∈next,has t j=true∧depth t i≤depth t j
 inw:∀ j∈next,j=i∨within t j i=true
 up:∀ v (hv:v < row.length),v=0∨par t row[v]∈row.take v
theorem UnI.start {t:T} {Sn:Int→Prop} {i:Int} (hi:has t i=true):UnI t Sn i 0 [i] []:=
 ⟨rfl,by simp,Nat.zero_le _,by simp,by simp,fun j hj=>by rw [List.mem_singleton.1 hj]; exact ⟨hi,Nat.le_refl _⟩,fun j hj=>.inl (List.mem_singleton.1 hj),fun v hv=>absurd hv (by simp)⟩
section
variable {t:T} {Sn:Int→Prop} {i:Int} {k:Nat} {next row:List Int}
theorem UnI.len (h:UnI t Sn i k next row):next.length≤t.length + 1:=by
 have:=len_of_sub (m:=0 :: ids t) h.nd fun x hx=>by
  rcases has_iff.1 (h.deep x hx).1 with e | e
  ·exact List.mem_cons.2 (.inl e)
  ·exact List.mem_cons_of_mem _ e
 rwa [List.length_cons,ids_len] at this
theorem UnI.skip (h:UnI t Sn i k next row) (hk:k < next.length) (hs:Sn next[k]):UnI t Sn i (k + 1) next row:=by
 refine ⟨h.nx,fun j=>?_,hk,h.nd,h.rnd,h.deep,h.inw,h.up⟩
 rw [h.sub,List.take_succ_eq_append_getElem hk,List.mem_append,List.mem_singleton]
 constructor
 ·exact fun h1=>⟨.inl h1.1,h1.2⟩
 ·rintro ⟨h1 | h1,h2⟩
  ·exact ⟨h1,h2⟩
  ·exact absurd (h1 ▸ hs) h2
theorem UnI.new (h:UnI t Sn i k next row) (hk:k < next.length):next[k]∉row:=fun h1=>by
 have h2:=((h.sub _).1 h1).1
 obtain ⟨u,hu,e⟩:=List.mem_iff_getElem.1 h2
 rw [List.getElem_take] at e
 have hu2:u < k:=by rw [List.length_take] at hu; omega
 have:=List.pairwise_iff_getElem.1 h.nd u k (by omega) hk hu2
 exact this e
theorem UnI.go (ok:Ok t) (hi:i=0∨i∈ids t) (h:UnI t Sn i k next row) (hk:k < next.length) (hs:¬ Sn next[k]):UnI t Sn i (k + 1) (next++kids t next[k]) (row++[next[k]]):=by
 have hnew:=h.new hk
 have hdk:=h.deep _ (List.getElem_mem hk)
 obtain ⟨y,hy⟩:∃ y,next[k]=y:=⟨_,rfl⟩
 rw [hy] at hs hnew hdk ⊢
 have hfresh:∀ c∈kids t y,c∉next:=fun c hc hm=>by
  have hp:=(ok.kid hc).2
  have hd:=depth_kid ok hc
  rw [h.nx] at hm
  rcases List.mem_cons.1 hm with e | e
  ·rw [e] at hd; omega
  ·obtain ⟨r,hr,hcr⟩:=List.mem_flatMap.1 e
   have:=(ok.kid hcr).2
   exact hnew (by rw [← hp,this]; exact hr)
 refine ⟨by rw [h.nx,List.flatMap_append]; simp,fun j=>?_,by rw [List.length_append]; omega,?_,?_,fun j hj=>?_,fun j hj=>?_,fun v hv=>?_⟩
 ·rw [List.mem_append,List.mem_singleton,h.sub,List.take_append_of_le_length (by omega),List.take_succ_eq_append_getElem hk,List.mem_append,List.mem_singleton,hy]
  constructor
  ·rintro (h1 | h1)
   ·exact ⟨.inl h1.1,h1.2⟩
   ·exact ⟨.inr h1,h1 ▸ hs⟩
  ·rintro ⟨h1 | h1,h2⟩
   ·exact .inl ⟨h1,h2⟩
   ·exact .inr h1
 ·exact List.nodup_append.2 ⟨h.nd,kids_nodup ok.nd y,fun a ha b hb e=>hfresh b hb (e ▸ ha)⟩
 ·exact List.nodup_append.2 ⟨h.rnd,by simp,fun a ha b hb e=>hnew (by rw [← List.mem_singleton.1 hb,← e]; exact ha)⟩
 ·rcases List.mem_append.1 hj with hj | hj
  ·exact h.deep j hj
  ·exact ⟨has_iff.2 (.inr (ok.kid hj).1),by have:=depth_kid ok hj; omega⟩
 ·rcases List.mem_append.1 hj with hj | hj
  ·exact h.inw j hj
  ·right
   obtain ⟨h1,h2⟩:=ok.kid hj
   rw [trm.within_iff ok h1 hi,h2]
   exact h.inw y (by rw [← hy]; exact List.getElem_mem hk)
 ·by_cases hlt:v < row.length
  ·rw [List.getElem_append_left hlt,List.take_append_of_le_length (by omega)]
   exact h.up v hlt
  ·rw [List.length_append,List.length_singleton] at hv
   obtain rfl:v=row.length:=by omega
   have hym:y∈next:=by rw [← hy]; exact List.getElem_mem hk
   simp only [List.getElem_append_right (Nat.le_refl _),Nat.sub_self,List.getElem_singleton,List.take_left]
   rw [h.nx] at hym
   rcases List.mem_cons.1 hym with e | e
   ·left
    cases hr:row with
    | nil=>rfl
    | cons a l=>
     exfalso
     have h0:k=0:=by
      rcases Nat.eq_zero_or_pos k with h0 | h0
      ·exact h0
      ·have hz:next[0]'(by omega)=i:=by simp only [h.nx,List.getElem_cons_zero]
       have:=List.pairwise_iff_getElem.1 h.nd 0 k (by omega) hk h0
       exact absurd (hz.trans (e.symm.trans hy.symm)) this
     have:=(h.sub a).1 (by rw [hr]; exact List.mem_cons_self)
     rw [h0] at this
     simp at this
   ·right
    obtain ⟨r,hr,hyr⟩:=List.mem_flatMap.1 e
    rw [(ok.kid hyr).2]
    exact hr
theorem UnI.done (ok:Ok t) (h:UnI t Sn i k next row) (hk:next.length≤k) (hcl:∀ j,Sn j→∀ c∈kids t j,Sn c) (hi:i=0∨i∈ids t) (j:Int):j∈row↔(j=i∨within t j i=true)∧¬ Sn j:=by
 have hsub:=h.sub
 rw [List.take_of_length_le hk] at hsub
 constructor
 ·intro hj
  exact ⟨h.inw j ((hsub j).1 hj).1,((hsub j).1 hj).2⟩
 ·rintro ⟨hj,hs⟩
  obtain ⟨n,hn⟩:∃ n,depth t j≤n:=⟨_,Nat.le_refl _⟩
  induction n generalizing j with
  | zero=>
   rcases hj with rfl | hj
   ·exact (hsub _).2 ⟨by rw [h.nx]; exact List.mem_cons_self,hs⟩
   ·have:=within_deep ok hj; omega
  | succ n ih=>
   rcases hj with rfl | hj
   ·exact (hsub _).2 ⟨by rw [h.nx]; exact List.mem_cons_self,hs⟩
   ·have hjj:=(within_has hj).1
    have hk:=kid_of hjj
    have hp:=(trm.within_iff ok hjj hi).1 hj
    have hd:=depth_kid ok hk
    have hr:=ih (par t j) hp (fun e=>hs (hcl _ e j hk)) (by omega)
    exact (hsub j).2 ⟨by rw [h.nx]; exact List.mem_cons_of_mem _ (List.mem_flatMap.2 ⟨_,hr,hk⟩),hs⟩
end
end Go.Proofs.YthpifjcddgmjnaaGreat
