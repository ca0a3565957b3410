import Derived.Test.YthoildbfghfhpaaGreatQFlC
import Derived.Deep.LoopGhost
set_option maxHeartbeats 16000000
set_option maxRecDepth 100000
namespace Go.Proofs.YthoildbfghfhpaaGreat
section
open Go.RowKit pxm imm trm Go.Maps
abbrev tClips:TypeId:=204
def pv (p:Option Nat):Value:=.pointer (p.map fun b=>⟨b,0,none⟩)
def clC (c:Cl) (up:Option Nat) (n:Nat):List Value:=[.int .i64 c.b.a,.int .i64 c.b.b,.int .i64 c.b.c,.int .i64 c.b.d,.int .i64 c.b.e,.int .i64 c.b.f,.int .i64 c.r.a,.int .i64 c.r.b,.int .i64 c.r.c,.int .i64 c.r.d,pv up,.int .i64 (n:Nat)]
def ClR (w:World):Option Nat->List Cl->Prop
 | p,[]=>p=none
 | p,c::l=>∃ b up,p=some b∧BlkT w b (clC c up (l.length+1)) tClips∧ClR w up l
theorem ClR.keep {w w':World} (h:∀ (k:Nat) (cu:Array Value) (fr:Nat×Nat),w.heap[k]?=some (Obj.cells cu tClips fr)->w'.heap[k]?=w.heap[k]?):∀ {l:List Cl} {p:Option Nat},ClR w p l->ClR w' p l
 | [],_,hp=>hp
 | _::_,_,⟨b,up,e,hb,hu⟩=>⟨b,up,e,hb.stays (h _ _ _ hb),ClR.keep h hu⟩
theorem ClR.below {w w':World} {l:List Cl} {p:Option Nat} (hp:ClR w p l) (hb:Below w.heap.size w w'):ClR w' p l:=hp.keep fun _ _ _ hk=>hb.block _ (Array.getElem?_eq_some_iff.1 hk).1
theorem ClR.size {w:World} {l:List Cl} {p:Option Nat} (hp:ClR w p l):∀ {j:Nat},j<=l.length->∃ q,ClR w q (l.drop j):=by
 intro j hj
 induction l generalizing p j with
 | nil=>exact ⟨p,by rw [List.drop_nil];exact hp⟩
 | cons c l ih=>
  obtain ⟨b,up,e,hb,hu⟩:=hp;cases j with
  | zero=>exact ⟨p,b,up,e,hb,hu⟩
  | succ j=>exact ih hu (by simpa using hj)
theorem clen_any (l:List Cl) (p:Option Nat) (w:World) (h:ClR w p l):Calls Tryz.prog 89 #[pv p] w fun e w'=>e=.returned (.int .i64 (l.length:Nat))∧Below w.heap.size w w':=by
 cases l with
 | nil=>
  obtain rfl:p=none:=h;unfold pv;simp only [Option.map_none];go_enter Tryz.func89,Tryz.ntmps89;go_wp2_with (fail);go_ret;exact ⟨rfl,bR⟩
 | cons c l=>
  obtain ⟨b,up,rfl,hb,-⟩:=h;have c11:=hb.blk.c 11 rfl;have bi:=hb.inside;clear hb;rw [List.length_cons];generalize l.length+1=n at *;unfold pv;simp only [Option.map_some];go_enter Tryz.func89,Tryz.ntmps89;go_wp2_with (fail);go_ret;exact ⟨rfl,bR⟩
theorem make_cl (n:Nat) (hn:n<=2000):∃ zs:List Value,zs.length=n*10∧∀ w:World,(Instr.makeSlice 68 (.int .i64 (n:Nat)) (.int .i64 (n:Nat))).run Tryz.prog w=.ok (.slice (some ⟨w.heap.size,0,none⟩) n n) (w.alloc (.cells zs.toArray 152)):=by
 have info:(Tryz.prog.info? 152).map (fun i=>(i.zero,i.size,i.bytes))=some (some (.agg #[.int .i64 0,.int .i64 0,.int .i64 0,.int .i64 0,.int .i64 0,.int .i64 0,.int .i64 0,.int .i64 0,.int .i64 0,.int .i64 0]),10,80):=by kernel_rfl
 obtain ⟨i,hi,hz,hsize,hby⟩:=info_parts info;refine ⟨(madeCells (Value.agg #[.int .i64 0,.int .i64 0,.int .i64 0,.int .i64 0,.int .i64 0,.int .i64 0,.int .i64 0,.int .i64 0,.int .i64 0,.int .i64 0]).cells (n*10)).toList,by rw [Array.length_toList,size_madeCells],fun w=>?_⟩;have h:=run_make (P:=Tryz.prog) w 68 152 i _ Tryz.underlying68 hi hz .i64 .i64 n n (by omega) (by omega) (by rw [hby];omega) (by omega);rw [hsize,Int.toNat_natCast] at h;rw [Array.toArray_toList];exact h
structure PJ (g:Nat) (c0 c1:List Value) (d:Bool) (w:World):Prop where
 no:d=false->Blk w g c0
 yes:d=true->Blk w g c1
theorem PJ.below {g:Nat} {c0 c1:List Value} {d:Bool} {w w':World} (h:PJ g c0 c1 d w) (hb:Below w.heap.size w w'):PJ g c0 c1 d w':=⟨fun e=>(h.no e).below' hb,fun e=>(h.yes e).below' hb⟩
def clK (zs:List Value) (l:List Cl) (j:Nat):List Value:=zs.take ((l.length - j)*10)++(l.take j).reverse.flatMap Cl.cs
theorem flat_len10 (l:List Cl):(l.flatMap Cl.cs).length=l.length*10:=by
 induction l with
 | nil=>rfl
 | cons c l ih=>rw [List.flatMap_cons,List.length_append,Cl.cs_len,ih,List.length_cons];omega
theorem clK_len {zs:List Value} {l:List Cl} {j:Nat} (hz:zs.length=l.length*10) (hj:j<=l.length):(clK zs l j).length=l.length*10:=by
 unfold clK;rw [List.length_append,List.length_take,flat_len10,List.length_reverse,List.length_take,hz];omega
theorem clK_step {zs:List Value} {l:List Cl} {j:Nat} (hz:zs.length=l.length*10) (hj:j<l.length):(clK zs l j).take ((l.length - (j+1))*10)++l[j].cs++(clK zs l j).drop ((l.length - (j+1))*10+l[j].cs.length)=clK zs l (j+1):=by
 have h1:(zs.take ((l.length - j)*10)).length=(l.length - j)*10:=by rw [List.length_take,hz];omega
 unfold clK;rw [Cl.cs_len,List.take_append_of_le_length (by rw [h1];omega),List.take_take,Nat.min_eq_left (by omega),show (l.length - (j+1))*10+10=(zs.take ((l.length - j)*10)).length by rw [h1];omega,List.drop_left,List.take_succ_eq_append_getElem hj,List.reverse_append,List.flatMap_append,List.append_assoc];simp
theorem clist_any (l:List Cl) (p:Option Nat) (w:World) (h:ClR w p l) (hn:l.length<=2000):Calls Tryz.prog 53 #[pv p] w fun e w'=>∃ g,e=.returned (.slice (some ⟨g,0,none⟩) l.length l.length)∧w.heap.size<=g∧Blk w' g (l.reverse.flatMap Cl.cs)∧Below w.heap.size w w':=by
 obtain ⟨zs,hz,hmk⟩:=make_cl l.length hn;have HLN:=Hd (clen_any l p w h);have HMK:=Hd hmk;have HZ:=Hd hz;have HC:=Hd h;have HN:=Hd hn;clear hmk hz h hn;go_enter Tryz.func53,Tryz.ntmps53;go_wp2_with (fail);refine HLN.out.mono ?_;rintro e w1 ⟨rfl,hb⟩;have HB1:Hid (Below w.heap.size w w1):=hb;have hmk:=HMK.out w1;clear hb HLN HMK
 obtain ⟨g,hg⟩:∃ g,w1.heap.size=g:=⟨_,rfl⟩
 have HGW:Hid (w.heap.size<=g):=by rw [← hg];exact HB1.out.size
 have HK2:Hid (Blk (w1.alloc (.cells zs.toArray 152)) w1.heap.size zs):=blk_new w1 zs _;have HB2:Hid (Below w.heap.size w (w1.alloc (.cells zs.toArray 152))):=HB1.out.alloc HB1.out.size _
 obtain ⟨n,hln⟩:∃ n,l.length=n:=⟨_,rfl⟩
 have HLL:=Hd hln;rw [hln] at hmk ⊢
 go_upto_region 2 with (fail)
 generalize (w1.alloc (.cells zs.toArray 152))=w2 at *;rw [hg] at HK2;clear hmk hg hln HB1
 go_loopg [0] n (fun k x0 wr=>∃ (j:Nat) (q:Option Nat),j<=n∧k=n - j∧x0=pv q∧Hid (ClR w q (l.drop j))∧Hid (Blk wr g (clK zs l j))∧Hid (Below w.heap.size w wr))
 case atStart=>exact ⟨0,p,Nat.zero_le _,rfl,rfl,HC.out,by
  show Blk _ _ _;unfold clK;rw [Nat.sub_zero,← HZ.out,List.take_length]
  simpa using HK2.out,HB2.out⟩
 case round=>
  obtain ⟨j,q,hj,hgk,rfl,HQ,HKg,HB⟩:=hrel;generalize wr=wA at *;by_cases hlt:j<n
  ·have HJL:Hid (j<n):=hlt;have hjl:j<l.length:=by rw [HLL.out];exact hlt
   have hq:=HQ.out;rw [List.drop_eq_getElem_cons hjl] at hq;obtain ⟨pb,up,rfl,hbc,hup⟩:=hq
   obtain ⟨c,hc⟩:∃ c,l[j]'hjl=c:=⟨_,rfl⟩
   obtain ⟨M,hM⟩:∃ M,n - (j+1)=M:=⟨_,rfl⟩
   have HML:Hid (M<n):=by show _<_;omega
   obtain ⟨c0,hc0⟩:∃ c0,clK zs l j=c0:=⟨_,rfl⟩
   obtain ⟨c1,hc1⟩:∃ c1,clK zs l (j+1)=c1:=⟨_,rfl⟩
   have HC1:=Hd hc1
   have HST:Hid (c0.take (M*10)++c.cs++c0.drop (M*10+c.cs.length)=c1):=by
    have h:=clK_step (by have:=HZ.out;exact this) hjl;rw [hc0,hc1,hc,HLL.out,hM] at h;exact h
   have HKL:Hid (c0.length=n*10):=by
    have h:=clK_len (by have:=HZ.out;exact this) (Nat.le_of_lt hjl);rw [hc0,HLL.out] at h;exact h
   rw [hc0] at HKg;rw [hc] at hbc
   obtain ⟨z,hz⟩:∃ z:Int,((((l.drop (j+1)).length+1:Nat):Int))=z:=⟨_,rfl⟩
   have hz2:z=(M:Nat)+1:=by
    rw [← hz,List.length_drop,HLL.out,hM];simp
   have HBc:Hid (BlkT wA pb (clC c up ((l.drop (j+1)).length+1)) tClips):=hbc.stays (HB.out.block _ hbc.inside);unfold clC at HBc;rw [hz] at HBc;have HUP:=Hd hup;have hMb:(M:Int)<=2000:=by have:=HN.out;have:=HLL.out;omega
   have hz3:IntKind.i64.wrap (z - 1)=(M:Nat):=by
    rw [hz2];exact IntWalk.i64_in _ (by omega) |>.trans (by omega)
   have hz4:wrap64 (z - 1)=(M:Nat):=by
    rw [hz2];exact IntWalk.wrap64_in _ (by omega) |>.trans (by omega)
   have HNE:Hid (pb≠g):=by
    show _≠_;have:=hbc.inside;have:=HGW.out;omega
   have HLT:=Hd (And.intro hlt hM);have c10:=HBc.out.blk.c 10 rfl;have bi:=HBc.out.inside;have gi:=HKg.out.inside;have FB:Hid (∀ W,KX g wA W->Blk W pb [.int .i64 c.b.a,.int .i64 c.b.b,.int .i64 c.b.c,.int .i64 c.b.d,.int .i64 c.b.e,.int .i64 c.b.f,.int .i64 c.r.a,.int .i64 c.r.b,.int .i64 c.r.c,.int .i64 c.r.d,pv up,.int .i64 z]):=fun W hk=>(HBc.out.stays (hk.same _ HBc.out.inside HNE.out)).blk;have FG:Hid (∀ W,KX g wA W->g<W.heap.size):=fun W hk=>Nat.lt_of_lt_of_le HKg.out.inside hk.size;clear hbc hup hc hc0 hc1 hz hz2 hjl hlt hM HQ;unfold pv at *;simp only [Option.map_some] at *
   go_upto_region 4 with (fail)
   refine wR (KX g) (fun L wx=>PJ g c0 c1 (L 11) wx) [13,14,15,16,17,18,19,20,21,22,23] (fun _=>KX.refl _ _) (fun _ _ _ h k=>h.trans k) (fun i=>match i with
    |0=>rV (.slice (some ⟨g,0,none⟩) n n)
    |1|2|6|7|8=>rp pb 0
    |3=>rp pb 11
    |4=>rV (.int .i64 z)
    |5=>rV (.int .i64 (M:Nat))
    |9=>rV (.agg (c.cs).toArray)
    |10=>rV (.pointer (some ⟨g,(M*10),none⟩))
    | _=>ra) (KX.of_below bR.drew) (⟨fun _=>HKg.out.below' bR.drew,nofun⟩) ⟨?_,?_,?_,?_,?_,?_,?_,?_,?_,?_,?_,?_,trivial⟩ ?_
   any_goals (first|refine zp fun L a w1 hh=>?_|fail)
   have h3:=hh.o 3 (v:=.slice (some ⟨g,0,none⟩) n n) rfl;rotate_left;have h0:=hh.p 0 pb 0;rotate_left;have h14:=rq (hh.d 1 14);rotate_left;have h15:=rq (hh.d 2 15);have i0:=(FB.out _ hh.rel).inside;rotate_left;have h16:=rq (hh.d 3 16);have ⟨c0,i0⟩:=(FB.out _ hh.rel).ci 11 rfl;rotate_left;have h17:=rq (hh.d 4 17);rotate_left;have h0:=hh.p 0 pb 0;rotate_left;have h19:=rq (hh.d 6 19);rotate_left;have h20:=rq (hh.d 7 20);have i0:=(FB.out _ hh.rel).inside;rotate_left
   ·have h21:=rq (hh.d 8 21);have hB:=Hd (FB.out _ hh.rel);have hJ:=Hd hh.st;exact wp_take 152 _ rfl pb 0 (by simpa [go_sem] using h21) _ hB.out (c.cs) rfl _ Tryz.underlying152 rfl (by kernel_rfl) ⟨_,rfl,KX.refl _ _,rfl,hJ.out⟩
   have h13:=rq (hh.d 0 13);have h18:=rq (hh.d 5 18);have hlt:=HML.out;have gi:=FG.out _ hh.rel;rotate_left
   ·have h22:=rq (hh.d 9 22);have h23:=rq (hh.d 10 23);have hB8:=hh.st.no hh.un;refine wp_stow 152 _ _ rfl g (M*10) (by simpa [go_sem] using h23) c.cs (by simpa [go_sem] using h22) _ hB8 (by rw [HKL.out,Cl.cs_len];have:=HML.out;omega) (by kernel_rfl) (by rfl) ?_;intro w9 hW9 hB9;rw [HST.out] at hB9;exact ⟨undef,rfl,KX.wrote hW9,trivial,⟨nofun,fun _=>hB9⟩⟩
   any_goals (have hJ:=hh.j;clear hh;go_simp;exact ⟨_,rfl,KX.refl _ _,rfl,hJ.out⟩)
   intro L w4 val hL hJ hR hv;have HR4:=Hd hR;have HK4:=Hd (hJ.yes (hL 11 (by decide)));clear hv hL hJ hR;simp only [regs.putAll,List.map_cons,List.map_nil];simp only [Act.put,List.setIfInBounds_toArray,List.set_cons_zero,List.set_cons_succ]
   skip
   have HB4:=Hd (HB.out.trans (HR4.out.to_below HGW.out HB.out.size));have c10:=(FB.out w4 HR4.out).c 10 rfl;have bi:=(FB.out w4 HR4.out).inside;clear HBc FB FG HKg HB HR4;go_wp2_with (fail)
   go_roundg (n - (j+1))
   case rel=>exact ⟨j+1,up,HLT.out.1,rfl,rfl,HUP.out,by rw [HC1.out];exact HK4.out,HB4.out⟩
   case measure=>have:=HLT.out.1;omega
  ·obtain rfl:j=n:=by omega
   have hq:=HQ.out;rw [List.drop_of_length_le (by rw [HLL.out];exact nR)] at hq;obtain rfl:q=none:=hq
   have HKE:Hid (Blk wA g (l.reverse.flatMap Cl.cs)):=by
    have h:=HKg.out;unfold clK at h;rw [HLL.out,Nat.sub_self,Nat.zero_mul,List.take_zero,List.nil_append,← HLL.out,List.take_length] at h;exact h
   clear HQ HKg;unfold pv;simp only [Option.map_none];go_wp2_with (fail);go_ret;exact ⟨g,by rw [HLL.out];rfl,HGW.out,HKE.out,HB.out⟩
def dnC (d:Dn) (p:Option Nat):List Value:=[.int .i64 d.b.a,.int .i64 d.b.b,.int .i64 d.b.c,.int .i64 d.b.d,.int .i64 d.b.e,.int .i64 d.b.f,.int .i64 (d.o:Nat),pv p]
theorem dnC_one (d:Dn) (p:Option Nat):(dnC d p).all (·.oneCell')=true:=by cases p<;>rfl
theorem build_clip (b:Mp) (r:Bx) (w:World):(Instr.build 152 #[(0,.agg b.cs.toArray),(1,.agg r.cs4.toArray)]).run Tryz.prog w=.ok (.agg (Cl.mk b r).cs.toArray) w:=by kernel_rfl
theorem build_clips (c:Cl) (up:Option Nat) (n:Nat) (z:Int) (hz:z=(n:Nat)) (w:World):(Instr.build tClips #[(0,.agg c.cs.toArray),(1,pv up),(2,.int .i64 z)]).run Tryz.prog w=.ok (.agg (clC c up n).toArray) w:=by
 subst hz;cases up<;>kernel_rfl
structure TJ (A:Nat) (c6:Mp) (o:Value) (p:Option Nat) (b6:Mp) (o2:Value) (i j:Bool) (w:World):Prop where
 blk:Blk w A ((bif i then b6 else c6).cs++[(bif j then o2 else o),pv p])
theorem TJ.below {A:Nat} {c6:Mp} {o:Value} {p:Option Nat} {b6:Mp} {o2:Value} {i j:Bool} {w w':World} (h:TJ A c6 o p b6 o2 i j w) (hb:Below w.heap.size w w'):TJ A c6 o p b6 o2 i j w':=⟨h.blk.below' hb⟩
structure BJ (A:Nat) (b:Mp) (o:Value) (p:Option Nat) (c:List Value) (iB iS:Bool) (v:Value) (w:World):Prop where
 no:iS=false->Blk w A (b.cs++[o,pv p])
 box:iB=true->∃ g,v=pv (some g)∧g≠A∧BlkT w g c tClips
 yes:iS=true->∃ g,v=pv (some g)∧Blk w A (b.cs++[o,pv (some g)])
 lt:A<w.heap.size
theorem BJ.below {A:Nat} {b:Mp} {o:Value} {p:Option Nat} {c:List Value} {iB iS:Bool} {v:Value} {w w':World} (h:BJ A b o p c iB iS v w) (hb:Below w.heap.size w w'):BJ A b o p c iB iS v w':=⟨fun e=>(h.no e).below' hb,fun e=>by
 obtain ⟨g,h1,h2,h3⟩:=h.box e;exact ⟨g,h1,h2,h3.stays (hb.block _ h3.inside)⟩,fun e=>by
 obtain ⟨g,h1,h2⟩:=h.yes e
 exact ⟨g,h1,h2.below' hb⟩,Nat.lt_of_lt_of_le h.lt hb.size⟩
theorem BJ.made {A:Nat} {b:Mp} {o:Value} {p:Option Nat} {c:List Value} {iB iS:Bool} {v u:Value} {w:World} (h:BJ A b o p c iB iS v w) (e:u=.pointer (some ⟨w.heap.size,0,none⟩)) (hi:iS=false):BJ A b o p c true iS u (w.alloc (.cells c.toArray tClips)):=by
 subst hi;exact ⟨fun _=>(h.no rfl).alloc _,fun _=>⟨w.heap.size,e,fun e=>by have:=h.lt;omega,BlkT.new w c _⟩,nofun,by have:=h.lt;simp;omega⟩
theorem BJ.put {A:Nat} {b:Mp} {o:Value} {p:Option Nat} {c:List Value} {iB:Bool} {v:Value} {w:World} {g:Nat} (h:BJ A b o p c iB false v w) (hB:Blk w A (b.cs++[o,pv p])) (e:v=pv (some g)) (hg:g≠A) (hb:BlkT w g c tClips):BJ A b o p c iB true v (w.setCell ⟨A,7,none⟩ (pv (some g))):=
 ⟨nofun,fun _=>⟨g,e,hg,hb.stays (heap_setCell_other _ _ _ _ hg)⟩,fun _=>⟨g,e,hB.set 7 (pv (some g))⟩,by have:=h.lt;simpa [World.setCell] using this⟩
theorem BJ.slots {A:Nat} {b:Mp} {o:Value} {p:Option Nat} {c:List Value} {iB iS:Bool} {v u:Value} {w:World} (h:BJ A b o p c iB iS v w) (e:u=v):BJ A b o p c iB iS u w:=by rw [e];exact h
theorem to_any (d:Dn) (p:Option Nat) (n:Nd) (An:Option Addr) (cn:Nat) (u:Mp) (w:World) (hd:d.o<256) (hn:n.chk=0) (hp:ClR w p d.c) (hl:d.c.length<=1900) :
  Calls Tryz.prog 52 #[.agg (dnC d p).toArray,.agg (n.cs An cn).toArray,.agg u.cs.toArray] w fun e w'=>∃ p',e=.returned (.tuple #[.agg (dnC (d.to n u) p').toArray,.bool (d.ok n u)])∧ClR w' p' (d.to n u).c∧Below w.heap.size w w':=by
 have HB0:Hid (Below w.heap.size w ((((w.alloc (.cells (dnC d p).toArray 144)).alloc (.cells (n.cs An cn).toArray 93)).alloc (.cells u.cs.toArray 65)).alloc (.cells #[.int .i64 0,.int .i64 0,.int .i64 0,.int .i64 0,.int .i64 0,.int .i64 0,.int .i64 0,.pointer none] 144))):=(((bR.alloc nR _).alloc (by simp) _).alloc (by simp;omega) _).alloc (by simp;omega) _
 have HD0:Hid (Blk ((((w.alloc (.cells (dnC d p).toArray 144)).alloc (.cells (n.cs An cn).toArray 93)).alloc (.cells u.cs.toArray 65)).alloc (.cells #[.int .i64 0,.int .i64 0,.int .i64 0,.int .i64 0,.int .i64 0,.int .i64 0,.int .i64 0,.pointer none] 144)) w.heap.size (dnC d p)):=(((blk_new w (dnC d p) _).alloc _).alloc _).alloc _
 have HN0:Hid (Blk ((((w.alloc (.cells (dnC d p).toArray 144)).alloc (.cells (n.cs An cn).toArray 93)).alloc (.cells u.cs.toArray 65)).alloc (.cells #[.int .i64 0,.int .i64 0,.int .i64 0,.int .i64 0,.int .i64 0,.int .i64 0,.int .i64 0,.pointer none] 144)) (w.heap.size+1) (n.cs An cn)):=((blk_at (w.alloc _) _ (by simp) (n.cs An cn) _).alloc _).alloc _
 have HU0:Hid (Blk ((((w.alloc (.cells (dnC d p).toArray 144)).alloc (.cells (n.cs An cn).toArray 93)).alloc (.cells u.cs.toArray 65)).alloc (.cells #[.int .i64 0,.int .i64 0,.int .i64 0,.int .i64 0,.int .i64 0,.int .i64 0,.int .i64 0,.pointer none] 144)) (w.heap.size+1+1) u.cs):=(blk_at ((w.alloc _).alloc _) _ (by simp) u.cs _).alloc _
 have HR0:Hid (BlkT ((((w.alloc (.cells (dnC d p).toArray 144)).alloc (.cells (n.cs An cn).toArray 93)).alloc (.cells u.cs.toArray 65)).alloc (.cells #[.int .i64 0,.int .i64 0,.int .i64 0,.int .i64 0,.int .i64 0,.int .i64 0,.int .i64 0,.pointer none] 144)) (w.heap.size+1+1+1) [.int .i64 0,.int .i64 0,.int .i64 0,.int .i64 0,.int .i64 0,.int .i64 0,.int .i64 0,.pointer none] 144):=blkT_at (((w.alloc _).alloc _).alloc _) _ (by simp) [.int .i64 0,.int .i64 0,.int .i64 0,.int .i64 0,.int .i64 0,.int .i64 0,.int .i64 0,.pointer none] _
 have HSZ0:Hid (((((w.alloc (.cells (dnC d p).toArray 144)).alloc (.cells (n.cs An cn).toArray 93)).alloc (.cells u.cs.toArray 65)).alloc (.cells #[.int .i64 0,.int .i64 0,.int .i64 0,.int .i64 0,.int .i64 0,.int .i64 0,.int .i64 0,.pointer none] 144)).heap.size=w.heap.size+4):=by show _=_;simp
 have HBK:Hid (∀ w,Calls Tryz.prog 87 #[.agg u.cs.toArray] w fun e w'=>e=.returned (.tuple #[.agg u.back.1.cs.toArray,.int .i64 u.back.2])∧Below w.heap.size w w'):=fun w=>mp_back u w
 have HBY:Hid (∀ w,Calls Tryz.prog 88 #[.int .i64 (d.o:Nat),.int .i64 n.op] w fun e w'=>e=.returned (.int .i64 (by_ d.o n.op.toNat:Nat))∧Below w.heap.size w w'):=fun w=>by
  have h:=bel_of_drew (by_any d.o n.op.toNat hd (op_lt hn).1 w);rw [← (op_lt hn).2] at h;exact h
 have HP:=Hd hp;have HL:=Hd hl;have HT1:Hid ((d.to n u).c=if n.cl=true then ⟨u.back.1,n.r⟩::d.c else d.c):=rfl;have HT2:Hid (∀ q,dnC (d.to n u) q=u.back.1.cs++[.int .i64 (by_ d.o n.op.toNat:Nat),pv q]):=fun q=>rfl;have HOK:Hid (d.ok n u=(!n.hi&&(decide (u.back.2=0)&&decide (¬ by_ d.o n.op.toNat=0)))):=rfl;generalize (d.to n u).c=tc at *;generalize dnC (d.to n u)=tcs at *;generalize d.ok n u=ok at *;generalize by_ d.o n.op.toNat=o2 at *
 obtain ⟨⟨b2,e2⟩,hb2⟩:∃ q,u.back=q:=⟨_,rfl⟩
 rw [hb2] at HBK HT1 HT2 HOK;clear hd hn hp hl hb2;go_enter Tryz.func52,Tryz.ntmps52
 go_upto_region 1 with (fail)
 generalize ((((w.alloc (.cells (dnC d p).toArray 144)).alloc (.cells (n.cs An cn).toArray 93)).alloc (.cells u.cs.toArray 65)).alloc (.cells #[.int .i64 0,.int .i64 0,.int .i64 0,.int .i64 0,.int .i64 0,.int .i64 0,.int .i64 0,.pointer none] 144))=w0 at *;have i0:=HU0.out.inside;go_wp2_with (first | (with_reducible refine gL ?_;first | (refine wt 65 0 rfl rfl rfl HU0.out (u.cs) rfl Tryz.underlying65 rfl ?_)));refine (HBK.out _).mono ?_;rintro e w1 ⟨rfl,hb⟩;have HB1:=Hd (HB0.out.trans (hb.mono HB0.out.size));have HD1:=Hd (HD0.out.below' hb);have HN1:=Hd (HN0.out.below' hb)
 have HR1:=Hd (HR0.out.stays (hb.block _ HR0.out.inside));have HS1:Hid (w.heap.size+4<=w1.heap.size):=by have:=hb.size;have:=HSZ0.out;show _<=_;omega
 clear hb HBK HB0 HD0 HN0 HU0 HR0 HSZ0 i0;have HZ:Hid (Blk (w1.alloc (.cells Ve.toArray 67)) w1.heap.size Ve):=blk_new w1 Ve _;have HBa:Hid (Below w1.heap.size w1 (w1.alloc (.cells Ve.toArray 67))):=bR.alloc nR _
 go_upto_region 2 with (first | (with_reducible refine gS ?_;first | (refine wpl_stow 67 _ _ rfl rfl rfl _ 0 rfl (b2.cs) rfl (Ve) HZ.out (b2.cs) rfl (nE rfl) (by kernel_rfl) rfl ?_;intro w2 HW2 HK2)))
 have HBb:Hid (Below w1.heap.size w1 w2):=HW2.out.below HBa.out nR;have HB2:=Hd (HB1.out.trans (HBb.out.mono HB1.out.size));have HD2:=Hd (HD1.out.below' HBb.out);have HN2:=Hd (HN1.out.below' HBb.out);have HR2:=Hd (HR1.out.stays (HBb.out.block _ HR1.out.inside))
 obtain ⟨kb,hkb⟩:∃ kb,w1.heap.size=kb:=⟨_,rfl⟩
 rw [hkb] at HK2 HS1 ⊢;have HS2:Hid (kb<w2.heap.size):=HK2.out.inside;clear HZ HBa HW2 HBb HB1 HD1 HN1 HR1 hkb
 obtain ⟨d0,hd0⟩:∃ d0,w.heap.size=d0:=⟨_,rfl⟩
 have HWd:=Hd hd0;rw [hd0] at HB2 HD2 HN2 HR2 HS1 ⊢;clear hd0;have HNE:Hid (d0+4<=kb):=HS1.out
 have HJ0:Hid (TJ d0 d.b (.int .i64 (d.o:Nat)) p b2 (.int .i64 (o2:Nat)) false false w2.drew):=⟨HD2.out.below' bR.drew⟩
 have F1:Hid (∀ W,KX d0 w2 W->Blk W (d0+1) (n.cs An cn)∧Blk W kb b2.cs):=fun W hk=>⟨HN2.out.stays (hk.same _ HN2.out.inside (by omega)),HK2.out.stays (hk.same _ HK2.out.inside (by have:=HNE.out;omega))⟩
 go_upto_region 2 with (fail)
 refine wR (KX d0) (fun L wx=>TJ d0 d.b (.int .i64 (d.o:Nat)) p b2 (.int .i64 (o2:Nat)) (L 7) (L 9) wx∧(L 9=true->L 5=true)∧(L 5=true->L 2=true)) [15,16,17,18,19,20,21,22] (fun _=>KX.refl _ _) (fun _ _ _ h k=>h.trans k) (fun i=>match i with
  |0=>rV (.agg (b2.cs).toArray)
  |1|8=>rp d0 6
  |2=>rV (.int .i64 (d.o:Nat))
  |3=>rp (d0+1) 6
  |4=>rV (.int .i64 n.op)
  |5=>rV (.int .i64 (o2:Nat))
  |6=>rp d0 0
  | _=>ra) (KX.of_below bR.drew) (⟨HJ0.out,nofun,nofun⟩) ⟨?_,?_,?_,?_,?_,?_,?_,?_,?_,?_,trivial⟩ ?_
 any_goals (first|refine zp fun L a w1 hh=>?_|fail)
 ·have h8:=hh.p 8 kb 0;have hB:=Hd ((F1.out _ hh.rel).2);have hJ:=Hd hh.st;exact wp_take 67 _ rfl kb 0 (by simpa [go_sem] using h8) _ hB.out (b2.cs) rfl _ Tryz.underlying67 rfl (by kernel_rfl) ⟨_,rfl,KX.refl _ _,rfl,hJ.out⟩
 have h3:=hh.p 3 d0 0;have i0:=(hh.st.1.blk).inside;rotate_left
 ·have h16:=rq (hh.d 1 16);have h5:=not_yet hh.st.2.2 hh.un;have h9:=not_yet hh.st.2.1 h5;have hB:=hh.st.1.blk;rw [h9] at hB;have c0:=hB.c 6 rfl;have i0:=hB.inside;clear hB h9 h5;have hJ:=hh.j;clear hh;go_simp;exact ⟨_,rfl,KX.refl _ _,rfl,hJ.out.1,hJ.out.2.1,fun _=>rfl⟩
 have h4:=hh.p 4 ((d0+1)) 0;have i0:=((F1.out _ hh.rel).1).inside;rotate_left;have h18:=rq (hh.d 3 18);have ⟨c0,i0⟩:=((F1.out _ hh.rel).1).ci 6 rfl;rotate_left
 ·have h17:=rq (hh.d 2 17);have h19:=rq (hh.d 4 19);have hC:=Hd (HBY.out w1);have hup:=Hd (hh.up 2 (by kernel_rfl));have hJ:=hh.j;clear hh;go_simp;refine hC.out.mono ?_;rintro e w9 ⟨rfl,hb9⟩;exact ⟨_,rfl,KX.of_below hb9,rfl,hJ.out.1.below hb9,fun _=>rfl,fun _=>hup.out⟩
 have h3:=hh.p 3 d0 0;have i0:=(hh.st.1.blk).inside;rotate_left
 ·have h15:=rq (hh.d 0 15);have h21:=rq (hh.d 6 21);have hJ:=Hd hh.st;have hun:=hh.un;have hB8:=hh.st.1.blk;rw [hun] at hB8;refine wp_stow 67 _ _ rfl d0 0 (by simpa [go_sem] using h21) b2.cs (by simpa [go_sem] using h15) _ hB8 (nE rfl) (by kernel_rfl) (by rfl) ?_;intro w9 hW9 hB9;exact ⟨undef,rfl,KX.wrote hW9,trivial,⟨hB9⟩,hJ.out.2⟩
 have h3:=hh.p 3 d0 0;have i0:=(hh.st.1.blk).inside;rotate_left
 ·have h20:=rq (hh.d 5 20);have h22:=rq (hh.d 8 22);have hJ:=Hd hh.st;have hun:=hh.un;have hB8:=hh.st.1.blk;rw [hun] at hB8;have f0:=hB8.free 6;have i0:=hB8.inside;have HB9:=Hd hB8
  obtain ⟨v6,c6⟩:∃ v,w1.cell? ⟨d0,6,none⟩=some v:=⟨_,hB8.cell 6⟩
  have hup:=Hd (hh.up 5 (by kernel_rfl));clear hh hun hB8;go_simp;exact ⟨KX.wrote ⟨6,[.int .i64 (o2:Nat)],rfl⟩,⟨undef,trivial⟩,⟨HB9.out.set 6 (.int .i64 (o2:Nat))⟩,fun _=>hup.out,hJ.out.2.2⟩
 any_goals (have hJ:=hh.j;clear hh;go_simp;exact ⟨_,rfl,KX.refl _ _,rfl,hJ.out⟩)
 intro L w3 val hL hJ hR hv;have HR3:=Hd hR
 have HD3:Hid (Blk w3 d0 (b2.cs++[.int .i64 (o2:Nat),pv p])):=by
  have h:=hJ.1.blk;rw [hL 7 (by decide),hL 9 (by decide)] at h;exact h
 clear hv hL hJ hR;simp only [regs.putAll,List.map_cons,List.map_nil];simp only [Act.put,List.setIfInBounds_toArray,List.set_cons_zero,List.set_cons_succ]
 skip
 have HB3:Hid (Below d0 w w3):=HB2.out.trans (HR3.out.to_below nR (by have:=HB2.out.size;have:=HWd.out;omega));have HN3:=Hd (F1.out w3 HR3.out).1;have HK3:=Hd (F1.out w3 HR3.out).2;have HRR3:Hid (BlkT w3 (d0+3) [.int .i64 0,.int .i64 0,.int .i64 0,.int .i64 0,.int .i64 0,.int .i64 0,.int .i64 0,.pointer none] 144):=HR2.out.stays (HR3.out.same _ HR2.out.inside (by omega));clear HJ0 F1 HBY HD2 HN2 HK2 HR2 HR3 HB2 HS2;have c8:=HN3.out.c 8 rfl;have i1:=HN3.out.inside
 go_upto_region 3 with (fail)
 go_cut [24] from 23 (fun u9 wx=>u9=.bool n.cl∧wx=w3)
 case first=>
  go_wp2_with (fail)
  go_meet
  case rel=>exact ⟨rfl,rfl⟩
 case rest=>
 obtain ⟨rfl,rfl⟩:=hcut
 rename_i K1 hK1 K2 hK2
 refine hK2 _ _ ?_;clear c8 i1;generalize wc=wm at *;have HLOW:Hid (w.heap.size=d0):=HWd.out
 go_cut [25] from 24 (fun u9 wx=>Hid (∃ p',Blk wx d0 (b2.cs++[.int .i64 (o2:Nat),pv p'])∧ClR wx p' tc)∧Hid (KX d0 wm wx))
 case first=>
  have HCP:Hid (ClR wm p d.c):=HP.out.below (by rw [HLOW.out];exact HB3.out);cases hcl:n.cl with
  | false=>
   rw [hcl] at HT1;have HTC:Hid (tc=d.c):=HT1.out.trans (if_neg (by decide));go_wp2_with (fail)
   go_meet
   case rel=>exact ⟨⟨p,HD3,by rw [HTC.out];exact HCP.out⟩,KX.refl _ _⟩
  | true=>
   rw [hcl] at HT1;have HTC:Hid (tc=⟨b2,n.r⟩::d.c):=HT1.out.trans (if_pos rfl);have HDD:=Hd HD3;have HCW:=Hd HB3.out;clear HT1 HD3 hcl
   have HBZ:Hid (∀ v,BJ d0 b2 (.int .i64 (o2:Nat)) p (clC ⟨b2,n.r⟩ p (d.c.length+1)) false false v wm.drew):=fun v=>⟨fun _=>HDD.out.below' bR.drew,nofun,nofun,HDD.out.inside⟩
   have F1:Hid (∀ W,KX d0 wm W->Blk W (d0+1) (n.cs An cn)∧Blk W kb b2.cs):=fun W hk=>⟨HN3.out.stays (hk.same _ HN3.out.inside (by omega)),HK3.out.stays (hk.same _ HK3.out.inside (by have:=HNE.out;omega))⟩
   have HCK:Hid (∀ W,KX d0 wm W->ClR W p d.c):=fun W hk=>HP.out.keep fun k cu fr h=>by
    have h1:=(Array.getElem?_eq_some_iff.1 h).1;have h2:=HB3.out.size;have h3:=HLOW.out;exact (hk.same k (by omega) (by omega)).trans (HB3.out.block k (by omega))
   have HLE:Hid (∀ W,KX d0 wm W->Calls Tryz.prog 89 #[pv p] W fun e w'=>e=.returned (.int .i64 (d.c.length:Nat))∧Below W.heap.size W w'):=fun W hk=>clen_any d.c p W (HCK.out W hk);have hlb:((d.c.length:Nat):Int)<=1900:=by have:=HL.out;omega
   obtain ⟨nl,hnl⟩:∃ nl,d.c.length=nl:=⟨_,rfl⟩
   rw [hnl] at HBZ HLE hlb;have HNL:=Hd hnl;have hw1:IntKind.i64.wrap ((nl:Nat)+1:Int)=(nl:Nat)+1:=IntWalk.i64_in _ (by omega);clear hnl
   go_upto_region 4 with (fail)
   refine wRv (KX d0) (fun L V wx=>BJ d0 b2 (.int .i64 (o2:Nat)) p (clC ⟨b2,n.r⟩ p (nl+1)) (L 11) (L 13) (V 36) wx∧(L 13=true->L 5=true)∧(L 13=true->L 7=true)∧(L 13=true->L 11=true)) [25,26,27,28,29,30,31,32,33,34,35,36,37] (fun _=>KX.refl _ _) (fun _ _ _ h k=>h.trans k) (fun i=>match i with
    |0=>rV (.agg (b2.cs).toArray)
    |1=>rp (d0+1) 9
    |2=>rV (.agg (n.r.cs4).toArray)
    |3=>rV (.agg ((Cl.mk b2 n.r).cs).toArray)
    |4|6|12=>rp d0 7
    |5|7=>rV (pv p)
    |8=>rV (.int .i64 (nl:Nat))
    |9=>rV (.int .i64 ((nl:Nat)+1))
    |10=>rV (.agg (clC ⟨b2,n.r⟩ p (nl+1)).toArray)
    | _=>ra) (KX.of_below bR.drew) (⟨HBZ.out _,nofun,nofun,nofun⟩) ⟨?_,?_,?_,?_,?_,?_,?_,?_,?_,?_,?_,?_,?_,?_,trivial⟩ ?_
   any_goals (first|refine zpv fun L a w1 hh=>?_|fail)
   ·have h8:=hh.p 8 kb 0;have hB:=Hd ((F1.out _ hh.rel).2);have hJ:=Hd hh.st;exact wp_take 67 _ rfl kb 0 (by simpa [go_sem] using h8) _ hB.out (b2.cs) rfl _ Tryz.underlying67 rfl (by kernel_rfl) ⟨_,rfl,KX.refl _ _,rfl,⟨BJ.slots hJ.out.1 sn,hJ.out.2⟩⟩
   have h4:=hh.p 4 ((d0+1)) 0;have i0:=((F1.out _ hh.rel).1).inside;rotate_left
   ·have h26:=rq (hh.d 1 26);have hB:=Hd ((F1.out _ hh.rel).1);have hJ:=Hd hh.st;exact wp_take 91 _ rfl (d0+1) 9 (by simpa [go_sem] using h26) _ hB.out (n.r.cs4) rfl _ Tryz.underlying91 rfl (by kernel_rfl) ⟨_,rfl,KX.refl _ _,rfl,⟨BJ.slots hJ.out.1 sn,hJ.out.2⟩⟩
   ·have h25:=rq (hh.d 0 25);have h27:=rq (hh.d 2 27);have hJ:=Hd hh.st;exact wp_build _ _ rfl (by simp [go_sem,h25,h27]) (build_clip b2 n.r w1) ⟨_,rfl,KX.refl _ _,rfl,⟨BJ.slots hJ.out.1 sn,hJ.out.2⟩⟩
   have h3:=hh.p 3 d0 0;have i0:=hh.st.1.lt;rotate_left
   ·have h29:=rq (hh.d 4 29);have hS:=not_yet hh.st.2.1 hh.un;have hB:=hh.st.1.no hS;have c0:=hB.c 7 rfl;have i0:=hB.inside;clear hB hS;have hJ:=hh.j;clear hh;go_simp;exact ⟨_,rfl,KX.refl _ _,rfl,BJ.slots hJ.out.1 sn,fun _=>rfl,hJ.out.2.2⟩
   have h3:=hh.p 3 d0 0;have i0:=hh.st.1.lt;rotate_left
   ·have h31:=rq (hh.d 6 31);have hS:=not_yet hh.st.2.2.1 hh.un;have hB:=hh.st.1.no hS;have c0:=hB.c 7 rfl;have i0:=hB.inside;clear hB hS;have hJ:=hh.j;clear hh;go_simp;exact ⟨_,rfl,KX.refl _ _,rfl,BJ.slots hJ.out.1 sn,hJ.out.2.1,(fun _=>rfl),hJ.out.2.2.2⟩
   ·have h32:=rq (hh.d 7 32);have hC:=Hd (HLE.out w1 hh.rel);have hJ:=Hd hh.st;have hsz:=Hd hh.size;clear hh;go_simp;refine hC.out.mono ?_;rintro e w9 ⟨rfl,hb9⟩;exact ⟨_,rfl,KX.of_below hb9,rfl,BJ.slots (hJ.out.1.below hb9) sn,hJ.out.2⟩
   have h33:=rq (hh.d 8 33);rotate_left
   ·have h28:=rq (hh.d 3 28);have h30:=rq (hh.d 5 30);have h34:=rq (hh.d 9 34);have hJ:=Hd hh.st;exact wp_build _ _ rfl (by simp [go_sem,h28,h30,h34]) (build_clips ⟨b2,n.r⟩ p (nl+1) ((nl:Nat)+1:Int) (by simp) w1) ⟨_,rfl,KX.refl _ _,rfl,⟨BJ.slots hJ.out.1 sn,hJ.out.2⟩⟩
   ·have h35:=rq (hh.d 10 35);have hJ:=Hd hh.st;have hsz:=Hd hh.size;have hun:=Hd (not_yet hh.st.2.2.2 hh.un);clear hh;go_simp;exact ⟨_,rfl,KX.of_below (bR.alloc nR _),trivial,⟨BJ.made (iS:=L 13) hJ.out.1 (regv.sl_same (by rw [hsz.out];simp)) hun.out,hJ.out.2.1,hJ.out.2.2.1,fun _=>rfl⟩⟩
   have h3:=hh.p 3 d0 0;have i0:=hh.st.1.lt;rotate_left
   ·have h37:=rq (hh.d 12 37);have hup:=hh.up 11 (by kernel_rfl);obtain ⟨g9,h9,hg9,hb9⟩:=hh.st.1.box hup;have h36:a.tmps[36]?.getD undef=.pointer (some ⟨g9,0,none⟩):=rq (h9);have hB8:=hh.st.1.no hh.un;have hj1:=hh.st.1;rw [hh.un] at hj1;have HJ1:=Hd hj1;have hup2:=Hd hup;have f0:=hB8.free 7;have i0:=hB8.inside;have c7:=hB8.c 7 rfl;have hu30:=Hd (hh.up 5 (by kernel_rfl));have hu32:=Hd (hh.up 7 (by kernel_rfl));have hJ:=Hd hh.st;have HB8:=Hd (And.intro hB8 (And.intro h9 (And.intro hg9 hb9)));clear hh h9 hg9 hb9 hB8 hup hj1;go_simp
    exact ⟨KX.wrote ⟨7,[pv (some g9)],rfl⟩,⟨undef,trivial⟩,BJ.put (iB:=L 11) HJ1.out HB8.out.1 HB8.out.2.1 HB8.out.2.2.1 HB8.out.2.2.2,(fun _=>hu30.out),(fun _=>hu32.out),fun _=>hup2.out⟩
   any_goals (have hJ:=hh.j;clear hh;go_simp;exact ⟨_,rfl,KX.refl _ _,rfl,⟨BJ.slots hJ.out.1 sn,hJ.out.2⟩⟩)
   intro L w4 val hL hJ hR hv;have HR4:=Hd hR;obtain ⟨g9,hg9,hb9⟩:=hJ.1.yes (hL 13 (by decide));obtain ⟨g8,hg8,hn8,hb8⟩:=hJ.1.box (hL 11 (by decide));have HB9:=Hd hb9;have HB8:=Hd hb8
   have HG89:Hid (g8=g9):=by
    show g8=g9;have h:=hg8.symm.trans hg9;unfold pv at h
    simpa using h
   clear hv hL hJ hR hb9 hb8 hg9 hg8 hn8;simp only [regs.putAll,List.map_cons,List.map_nil];simp only [Act.put,List.setIfInBounds_toArray,List.set_cons_zero,List.set_cons_succ]
   skip
   go_wp2_with (fail)
   go_meet
   case rel=>exact ⟨⟨some g9,HB9.out,by rw [HTC.out];exact ⟨g9,p,rfl,by rw [← HG89.out,HNL.out];exact HB8.out,HCK.out _ HR4.out⟩⟩,HR4.out⟩
 case rest=>
 obtain ⟨HX,HKX⟩:=hcut;obtain ⟨p',hx1,hx2⟩:=HX.out;have HD4:=Hd hx1;have HC4:=Hd hx2;have HN4:Hid (Blk wc (d0+1) (n.cs An cn)):=HN3.out.stays (HKX.out.same _ HN3.out.inside (by omega));have HR4:Hid (BlkT wc (d0+3) [.int .i64 0,.int .i64 0,.int .i64 0,.int .i64 0,.int .i64 0,.int .i64 0,.int .i64 0,.pointer none] 144):=HRR3.out.stays (HKX.out.same _ HRR3.out.inside (by omega))
 have HB4:Hid (Below w.heap.size w wc):=by
  show Below _ _ _;rw [HLOW.out];exact HB3.out.trans (HKX.out.to_below nR (by have:=HB3.out.size;have:=HLOW.out;omega))
 clear hx1 hx2 HX HKX HN3 HK3 HRR3 HB3 HD3 HT1 HP HL
 obtain ⟨tcv,htcv⟩:∃ tcv,tcs p'=tcv:=⟨_,rfl⟩
 have HTV:Hid (tcv=b2.cs++[.int .i64 (o2:Nat),pv p']):=by rw [← htcv];exact HT2.out p'
 have HTV1:Hid (tcv.all (·.oneCell')=true):=by
  show _=_;rw [HTV.out];cases p'<;>rfl
 have HTVL:Hid (tcv.length=8):=by rw [HTV.out];rfl
 have HD5:Hid (Blk wc d0 tcv):=by rw [HTV.out];exact HD4.out
 have HFIN:Hid (∃ q,tcs q=tcv∧ClR wc q tc):=⟨p',htcv,HC4.out⟩
 have F1:Hid (∀ W,KX (d0+3) wc W->Blk W (d0+1) (n.cs An cn)∧Blk W d0 tcv∧Blk W d0 (b2.cs++[.int .i64 (o2:Nat),pv p'])):=fun W hk=>⟨HN4.out.stays (hk.same _ HN4.out.inside (by omega)),HD5.out.stays (hk.same _ HD5.out.inside (by omega)),HD4.out.stays (hk.same _ HD4.out.inside (by omega))⟩
 clear htcv HD4 HC4 HN4 HD5
 go_upto_region 5 with (fail)
 obtain ⟨hi,hhi⟩:∃ hi,n.hi=hi:=⟨_,rfl⟩
 have HHI:=Hd hhi;rw [hhi] at HOK;clear hhi;cases hi with
 | true=>
 have HOKV:Hid (ok=false):=HOK.out
 refine wR (KX (d0+3)) (fun L wx=>PJ (d0+3) [.int .i64 0,.int .i64 0,.int .i64 0,.int .i64 0,.int .i64 0,.int .i64 0,.int .i64 0,.pointer none] tcv (L 13) wx) [38,39,40,41,42,43,44,45,46,47,48,49,50,7] (fun _=>KX.refl _ _) (fun _ _ _ h k=>h.trans k) (fun i=>match i with
  |0=>rV (.agg (tcv).toArray)
  |1=>rp (d0+1) 7
  |2=>rT
  |3|4|7|8|12|14=>rV (.bool false)
  |5|6|9|10|11=>rV (undef)
  | _=>ra) (KX.of_below bR.drew) (⟨fun _=>HR4.out.blk.below' bR.drew,nofun⟩) ⟨?_,?_,?_,?_,?_,?_,?_,?_,?_,?_,?_,?_,?_,?_,?_,trivial⟩ ?_
 any_goals (first|refine zp fun L a w1 hh=>?_|fail)
 ·have h3:=hh.p 3 d0 0;have hB:=Hd (F1.out _ hh.rel).2.1;have hJ:=Hd hh.st;exact wp_take 144 _ rfl d0 0 (by simpa [go_sem] using h3) _ hB.out (tcv) (by rw [List.drop_zero,List.take_length]) _ Tryz.underlying144 rfl (by rw [HTVL.out];kernel_rfl) ⟨_,rfl,KX.refl _ _,rfl,hJ.out⟩
 have h4:=hh.p 4 ((d0+1)) 0;have i0:=((F1.out _ hh.rel).1).inside;rotate_left;have h39:=rq (hh.d 1 39);have hB:=Hd ((F1.out _ hh.rel).1);have c0:w1.cell? ⟨d0+1,7,none⟩=some (.bool true):=by rw [← HHI.out];exact hB.out.c 7 rfl
 have i0:=hB.out.inside;rotate_left;have h40:=rq (hh.d 2 40);rotate_left;have h41:=rq (hh.d 3 41);rotate_left
 ·refine sz rfl rfl
 ·refine sz rfl rfl
 have h42:=rq (hh.d 4 42);rotate_left;have h45:=rq (hh.d 7 45);rotate_left
 ·refine sz rfl rfl
 ·refine sz rfl rfl
 ·refine sz rfl rfl
 have h46:=rq (hh.d 8 46);rotate_left
 ·have h6:=hh.p 6 ((d0+3)) 0;have h38:=rq (hh.d 0 38);have hB8:=hh.st.no hh.un;refine wp_stow 144 _ _ rfl (d0+3) 0 (by simpa [go_sem] using h6) tcv (by simpa [go_sem] using h38) _ hB8 (by rw [HTVL.out];decide) (by rw [HTVL.out];kernel_rfl) HTV1.out ?_;intro w9 hW9 hB9;have e9:([.int .i64 0,.int .i64 0,.int .i64 0,.int .i64 0,.int .i64 0,.int .i64 0,.int .i64 0,.pointer none]:List Value).take 0++tcv++([.int .i64 0,.int .i64 0,.int .i64 0,.int .i64 0,.int .i64 0,.int .i64 0,.int .i64 0,.pointer none]:List Value).drop (0+tcv.length)=tcv:=by rw [HTVL.out];simp
  rw [e9] at hB9;exact ⟨undef,rfl,KX.wrote hW9,trivial,⟨nofun,fun _=>hB9⟩⟩
 have h50:=rq (hh.d 12 50);rotate_left
 any_goals (have hJ:=hh.j;clear hh;go_simp;exact ⟨_,rfl,KX.refl _ _,rfl,hJ.out⟩)
 intro L w5 val hL hJ hR hv;have h7:val 7=.bool false:=hv 14 7 (by kernel_rfl);have HR5:=Hd hR;have HK5:=Hd (hJ.yes (hL 13 (by decide)));clear hv hL hJ hR;simp only [regs.putAll,List.map_cons,List.map_nil,h7];simp only [Act.put,List.setIfInBounds_toArray,List.set_cons_zero,List.set_cons_succ];clear h7;generalize val 38=v38,val 39=v39,val 40=v40,val 41=v41,val 42=v42,val 43=v43,val 44=v44,val 45=v45,val 46=v46,val 47=v47,val 48=v48,val 49=v49,val 50=v50 at *;go_wp2_with (fail);obtain ⟨q9,hq9,hc9⟩:=HFIN.out;have HQ9:=Hd hq9
 exact blk_ret2 rfl rfl rfl HK5.out Tryz.underlying144 rfl (by rw [HTVL.out];kernel_rfl) ⟨q9,by rw [HOKV.out,HQ9.out];rfl,hc9.keep fun k cu fr h=>HR5.out.same k (Array.getElem?_eq_some_iff.1 h).1 (fun e=>by
  rw [e] at h
  exact absurd (Option.some.inj (h.symm.trans HR4.out)) (fun x2=>by injection x2 with _ x2 _;exact absurd x2 (by decide))),HB4.out.trans (HR5.out.to_below (by have:=HLOW.out;omega) HB4.out.size)⟩
 | false=>
 by_cases he2:¬ e2=0
 ·have q2:(e2==0)=false:=by simpa using he2
  have HOKV:Hid (ok=false):=by
   show _=_;rw [HOK.out,decide_eq_false he2];rfl
  clear he2
  refine wR (KX (d0+3)) (fun L wx=>PJ (d0+3) [.int .i64 0,.int .i64 0,.int .i64 0,.int .i64 0,.int .i64 0,.int .i64 0,.int .i64 0,.pointer none] tcv (L 13) wx) [38,39,40,41,42,43,44,45,46,47,48,49,50,7] (fun _=>KX.refl _ _) (fun _ _ _ h k=>h.trans k) (fun i=>match i with
   |0=>rV (.agg (tcv).toArray)
   |1=>rp (d0+1) 7
   |2|6|7|8|12|14=>rV (.bool false)
   |3|4=>rT
   |5=>rV (.int .i64 e2)
   |9|10|11=>rV (undef)
   | _=>ra) (KX.of_below bR.drew) (⟨fun _=>HR4.out.blk.below' bR.drew,nofun⟩) ⟨?_,?_,?_,?_,?_,?_,?_,?_,?_,?_,?_,?_,?_,?_,?_,trivial⟩ ?_
  any_goals (first|refine zp fun L a w1 hh=>?_|fail)
  any_goals (first|refine sy rfl rfl fun L a w1 hh=>?_|fail)
  ·have h3:=hh.p 3 d0 0;have hB:=Hd (F1.out _ hh.rel).2.1;have hJ:=Hd hh.st;exact wp_take 144 _ rfl d0 0 (by simpa [go_sem] using h3) _ hB.out (tcv) (by rw [List.drop_zero,List.take_length]) _ Tryz.underlying144 rfl (by rw [HTVL.out];kernel_rfl) ⟨_,rfl,KX.refl _ _,rfl,hJ.out⟩
  have h4:=hh.p 4 ((d0+1)) 0;have i0:=((F1.out _ hh.rel).1).inside;rotate_left;have h39:=rq (hh.d 1 39);have hB:=Hd ((F1.out _ hh.rel).1);have c0:w1.cell? ⟨d0+1,7,none⟩=some (.bool false):=by rw [← HHI.out];exact hB.out.c 7 rfl
  have i0:=hB.out.inside;rotate_left;have h40:=rq (hh.d 2 40);rotate_left;have h41:=rq (hh.d 3 41);rotate_left;have h9:=hh.o 9 (v:=.int .i64 e2) rfl;rotate_left;have h43:=rq (hh.d 5 43);rotate_left;have h42:=rq (hh.d 4 42);have h44:=rq (hh.d 6 44);rotate_left;have h45:=rq (hh.d 7 45);rotate_left
  ·refine sz rfl rfl
  ·refine sz rfl rfl
  ·refine sz rfl rfl
  have h46:=rq (hh.d 8 46);rotate_left
  ·have h6:=hh.p 6 ((d0+3)) 0;have h38:=rq (hh.d 0 38);have hB8:=hh.st.no hh.un;refine wp_stow 144 _ _ rfl (d0+3) 0 (by simpa [go_sem] using h6) tcv (by simpa [go_sem] using h38) _ hB8 (by rw [HTVL.out];decide) (by rw [HTVL.out];kernel_rfl) HTV1.out ?_;intro w9 hW9 hB9;have e9:([.int .i64 0,.int .i64 0,.int .i64 0,.int .i64 0,.int .i64 0,.int .i64 0,.int .i64 0,.pointer none]:List Value).take 0++tcv++([.int .i64 0,.int .i64 0,.int .i64 0,.int .i64 0,.int .i64 0,.int .i64 0,.int .i64 0,.pointer none]:List Value).drop (0+tcv.length)=tcv:=by rw [HTVL.out];simp
   rw [e9] at hB9;exact ⟨undef,rfl,KX.wrote hW9,trivial,⟨nofun,fun _=>hB9⟩⟩
  have h50:=rq (hh.d 12 50);rotate_left
  any_goals (have hJ:=hh.j;clear hh;go_simp;exact ⟨_,rfl,KX.refl _ _,rfl,hJ.out⟩)
  intro L w5 val hL hJ hR hv;have h7:val 7=.bool false:=hv 14 7 (by kernel_rfl);have HR5:=Hd hR;have HK5:=Hd (hJ.yes (hL 13 (by decide)));clear hv hL hJ hR;simp only [regs.putAll,List.map_cons,List.map_nil,h7];simp only [Act.put,List.setIfInBounds_toArray,List.set_cons_zero,List.set_cons_succ];clear h7;generalize val 38=v38,val 39=v39,val 40=v40,val 41=v41,val 42=v42,val 43=v43,val 44=v44,val 45=v45,val 46=v46,val 47=v47,val 48=v48,val 49=v49,val 50=v50 at *;go_wp2_with (fail);obtain ⟨q9,hq9,hc9⟩:=HFIN.out;have HQ9:=Hd hq9
  exact blk_ret2 rfl rfl rfl HK5.out Tryz.underlying144 rfl (by rw [HTVL.out];kernel_rfl) ⟨q9,by rw [HOKV.out,HQ9.out];rfl,hc9.keep fun k cu fr h=>HR5.out.same k (Array.getElem?_eq_some_iff.1 h).1 (fun e=>by
   rw [e] at h
   exact absurd (Option.some.inj (h.symm.trans HR4.out)) (fun x2=>by injection x2 with _ x2 _;exact absurd x2 (by decide))),HB4.out.trans (HR5.out.to_below (by have:=HLOW.out;omega) HB4.out.size)⟩
 obtain rfl:e2=0:=Decidable.not_not.1 he2;have q2:((0:Int)==0)=true:=by decide
 by_cases ho2:o2=0
 ·subst ho2;have HOKV:Hid (ok=false):=HOK.out;have q3:(((0:Nat):Int)==0)=true:=by decide
  have q5:(((0:Nat):Int) != 0)=false:=by decide
  refine wR (KX (d0+3)) (fun L wx=>PJ (d0+3) [.int .i64 0,.int .i64 0,.int .i64 0,.int .i64 0,.int .i64 0,.int .i64 0,.int .i64 0,.pointer none] tcv (L 13) wx) [38,39,40,41,42,43,44,45,46,47,48,49,50,7] (fun _=>KX.refl _ _) (fun _ _ _ h k=>h.trans k) (fun i=>match i with
   |0=>rV (.agg (tcv).toArray)
   |1=>rp (d0+1) 7
   |2|11|12|14=>rV (.bool false)
   |3|4|6|7|8=>rT
   |5=>rV (.int .i64 0)
   |9=>rp d0 6
   |10=>rV (.int .i64 ((0:Nat):Nat))
   | _=>ra) (KX.of_below bR.drew) (⟨fun _=>HR4.out.blk.below' bR.drew,nofun⟩) ⟨?_,?_,?_,?_,?_,?_,?_,?_,?_,?_,?_,?_,?_,?_,?_,trivial⟩ ?_
  any_goals (first|refine zp fun L a w1 hh=>?_|fail)
  any_goals (first|refine sy rfl rfl fun L a w1 hh=>?_|fail)
  ·have h3:=hh.p 3 d0 0;have hB:=Hd (F1.out _ hh.rel).2.1;have hJ:=Hd hh.st;exact wp_take 144 _ rfl d0 0 (by simpa [go_sem] using h3) _ hB.out (tcv) (by rw [List.drop_zero,List.take_length]) _ Tryz.underlying144 rfl (by rw [HTVL.out];kernel_rfl) ⟨_,rfl,KX.refl _ _,rfl,hJ.out⟩
  have h4:=hh.p 4 ((d0+1)) 0;have i0:=((F1.out _ hh.rel).1).inside;rotate_left;have h39:=rq (hh.d 1 39);have hB:=Hd ((F1.out _ hh.rel).1);have c0:w1.cell? ⟨d0+1,7,none⟩=some (.bool false):=by rw [← HHI.out];exact hB.out.c 7 rfl
  have i0:=hB.out.inside;rotate_left;have h40:=rq (hh.d 2 40);rotate_left;have h41:=rq (hh.d 3 41);rotate_left;have h9:=hh.o 9 (v:=.int .i64 0) rfl;rotate_left;have h43:=rq (hh.d 5 43);rotate_left;have h42:=rq (hh.d 4 42);have h44:=rq (hh.d 6 44);rotate_left;have h45:=rq (hh.d 7 45);rotate_left;have h3:=hh.p 3 d0 0;have i0:=((F1.out _ hh.rel).2.2).inside;rotate_left;have h47:=rq (hh.d 9 47);have ⟨c0,i0⟩:=((F1.out _ hh.rel).2.2).ci 6 rfl;rotate_left;have h48:=rq (hh.d 10 48);rotate_left;have h46:=rq (hh.d 8 46);have h49:=rq (hh.d 11 49);rotate_left
  ·have h6:=hh.p 6 ((d0+3)) 0;have h38:=rq (hh.d 0 38);have hB8:=hh.st.no hh.un;refine wp_stow 144 _ _ rfl (d0+3) 0 (by simpa [go_sem] using h6) tcv (by simpa [go_sem] using h38) _ hB8 (by rw [HTVL.out];decide) (by rw [HTVL.out];kernel_rfl) HTV1.out ?_;intro w9 hW9 hB9;have e9:([.int .i64 0,.int .i64 0,.int .i64 0,.int .i64 0,.int .i64 0,.int .i64 0,.int .i64 0,.pointer none]:List Value).take 0++tcv++([.int .i64 0,.int .i64 0,.int .i64 0,.int .i64 0,.int .i64 0,.int .i64 0,.int .i64 0,.pointer none]:List Value).drop (0+tcv.length)=tcv:=by rw [HTVL.out];simp
   rw [e9] at hB9;exact ⟨undef,rfl,KX.wrote hW9,trivial,⟨nofun,fun _=>hB9⟩⟩
  have h50:=rq (hh.d 12 50);rotate_left
  any_goals (have hJ:=hh.j;clear hh;go_simp;exact ⟨_,rfl,KX.refl _ _,rfl,hJ.out⟩)
  intro L w5 val hL hJ hR hv;have h7:val 7=.bool false:=hv 14 7 (by kernel_rfl);have HR5:=Hd hR;have HK5:=Hd (hJ.yes (hL 13 (by decide)));clear hv hL hJ hR;simp only [regs.putAll,List.map_cons,List.map_nil,h7];simp only [Act.put,List.setIfInBounds_toArray,List.set_cons_zero,List.set_cons_succ];clear h7;generalize val 38=v38,val 39=v39,val 40=v40,val 41=v41,val 42=v42,val 43=v43,val 44=v44,val 45=v45,val 46=v46,val 47=v47,val 48=v48,val 49=v49,val 50=v50 at *;go_wp2_with (fail);obtain ⟨q9,hq9,hc9⟩:=HFIN.out;have HQ9:=Hd hq9
  exact blk_ret2 rfl rfl rfl HK5.out Tryz.underlying144 rfl (by rw [HTVL.out];kernel_rfl) ⟨q9,by rw [HOKV.out,HQ9.out];rfl,hc9.keep fun k cu fr h=>HR5.out.same k (Array.getElem?_eq_some_iff.1 h).1 (fun e=>by
   rw [e] at h
   exact absurd (Option.some.inj (h.symm.trans HR4.out)) (fun x2=>by injection x2 with _ x2 _;exact absurd x2 (by decide))),HB4.out.trans (HR5.out.to_below (by have:=HLOW.out;omega) HB4.out.size)⟩
 have HOKV:Hid (ok=true):=by
  show _=_;rw [HOK.out,decide_eq_true ho2];rfl
 have q3:(((o2:Nat):Int)==0)=false:=by simpa using ho2
 have q5:(((o2:Nat):Int) != 0)=true:=by simpa using ho2
 refine wR (KX (d0+3)) (fun L wx=>PJ (d0+3) [.int .i64 0,.int .i64 0,.int .i64 0,.int .i64 0,.int .i64 0,.int .i64 0,.int .i64 0,.pointer none] tcv (L 13) wx) [38,39,40,41,42,43,44,45,46,47,48,49,50,7] (fun _=>KX.refl _ _) (fun _ _ _ h k=>h.trans k) (fun i=>match i with
  |0=>rV (.agg (tcv).toArray)
  |1=>rp (d0+1) 7
  |2=>rV (.bool false)
  |3|4|6|7|8|11|12|14=>rT
  |5=>rV (.int .i64 0)
  |9=>rp d0 6
  |10=>rV (.int .i64 (o2:Nat))
  | _=>ra) (KX.of_below bR.drew) (⟨fun _=>HR4.out.blk.below' bR.drew,nofun⟩) ⟨?_,?_,?_,?_,?_,?_,?_,?_,?_,?_,?_,?_,?_,?_,?_,trivial⟩ ?_
 any_goals (first|refine zp fun L a w1 hh=>?_|fail)
 any_goals (first|refine sy rfl rfl fun L a w1 hh=>?_|fail)
 ·have h3:=hh.p 3 d0 0;have hB:=Hd (F1.out _ hh.rel).2.1;have hJ:=Hd hh.st;exact wp_take 144 _ rfl d0 0 (by simpa [go_sem] using h3) _ hB.out (tcv) (by rw [List.drop_zero,List.take_length]) _ Tryz.underlying144 rfl (by rw [HTVL.out];kernel_rfl) ⟨_,rfl,KX.refl _ _,rfl,hJ.out⟩
 have h4:=hh.p 4 ((d0+1)) 0;have i0:=((F1.out _ hh.rel).1).inside;rotate_left;have h39:=rq (hh.d 1 39);have hB:=Hd ((F1.out _ hh.rel).1);have c0:w1.cell? ⟨d0+1,7,none⟩=some (.bool false):=by rw [← HHI.out];exact hB.out.c 7 rfl
 have i0:=hB.out.inside;rotate_left;have h40:=rq (hh.d 2 40);rotate_left;have h41:=rq (hh.d 3 41);rotate_left;have h9:=hh.o 9 (v:=.int .i64 0) rfl;rotate_left;have h43:=rq (hh.d 5 43);rotate_left;have h42:=rq (hh.d 4 42);have h44:=rq (hh.d 6 44);rotate_left;have h45:=rq (hh.d 7 45);rotate_left;have h3:=hh.p 3 d0 0;have i0:=((F1.out _ hh.rel).2.2).inside;rotate_left;have h47:=rq (hh.d 9 47);have ⟨c0,i0⟩:=((F1.out _ hh.rel).2.2).ci 6 rfl;rotate_left;have h48:=rq (hh.d 10 48);rotate_left;have h46:=rq (hh.d 8 46);have h49:=rq (hh.d 11 49);rotate_left
 ·have h6:=hh.p 6 ((d0+3)) 0;have h38:=rq (hh.d 0 38);have hB8:=hh.st.no hh.un;refine wp_stow 144 _ _ rfl (d0+3) 0 (by simpa [go_sem] using h6) tcv (by simpa [go_sem] using h38) _ hB8 (by rw [HTVL.out];decide) (by rw [HTVL.out];kernel_rfl) HTV1.out ?_;intro w9 hW9 hB9;have e9:([.int .i64 0,.int .i64 0,.int .i64 0,.int .i64 0,.int .i64 0,.int .i64 0,.int .i64 0,.pointer none]:List Value).take 0++tcv++([.int .i64 0,.int .i64 0,.int .i64 0,.int .i64 0,.int .i64 0,.int .i64 0,.int .i64 0,.pointer none]:List Value).drop (0+tcv.length)=tcv:=by rw [HTVL.out];simp
  rw [e9] at hB9;exact ⟨undef,rfl,KX.wrote hW9,trivial,⟨nofun,fun _=>hB9⟩⟩
 have h50:=rq (hh.d 12 50);rotate_left
 any_goals (have hJ:=hh.j;clear hh;go_simp;exact ⟨_,rfl,KX.refl _ _,rfl,hJ.out⟩)
 intro L w5 val hL hJ hR hv;have h7:val 7=.bool true:=hv 14 7 (by kernel_rfl);have HR5:=Hd hR;have HK5:=Hd (hJ.yes (hL 13 (by decide)));clear hv hL hJ hR;simp only [regs.putAll,List.map_cons,List.map_nil,h7];simp only [Act.put,List.setIfInBounds_toArray,List.set_cons_zero,List.set_cons_succ];clear h7
 skip
 go_wp2_with (fail);obtain ⟨q9,hq9,hc9⟩:=HFIN.out;have HQ9:=Hd hq9
 exact blk_ret2 rfl rfl rfl HK5.out Tryz.underlying144 rfl (by rw [HTVL.out];kernel_rfl) ⟨q9,by rw [HOKV.out,HQ9.out];rfl,hc9.keep fun k cu fr h=>HR5.out.same k (Array.getElem?_eq_some_iff.1 h).1 (fun e=>by
  rw [e] at h
  exact absurd (Option.some.inj (h.symm.trans HR4.out)) (fun x2=>by injection x2 with _ x2 _;exact absurd x2 (by decide))),HB4.out.trans (HR5.out.to_below (by have:=HLOW.out;omega) HB4.out.size)⟩
end
end Go.Proofs.YthoildbfghfhpaaGreat
