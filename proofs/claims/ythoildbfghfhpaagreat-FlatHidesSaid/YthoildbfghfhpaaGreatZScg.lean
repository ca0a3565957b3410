import Derived.Test.YthoildbfghfhpaaGreatZScf
set_option maxHeartbeats 16000000
set_option maxRecDepth 100000
open Go.Proofs.Tryz
namespace Go.Proofs.YthoildbfghfhpaaGreat
section
open Go.RowKit pxm imm trm Go.Maps
abbrev tRows:TypeId:=223
structure RwV where
 A:Option Addr
 c:Nat
 l:List Int
def RwV.v (q:RwV):Value:=.slice q.A q.l.length q.c
def RwV.cs (q:RwV):List Value:=[q.v]
theorem RwV.cs_len (q:RwV):q.cs.length=1:=rfl
theorem RwV.cs_plain (q:RwV):∀ u∈q.cs,u.oneCell'=true:=by
 intro u hu;rw [List.mem_singleton.1 hu];rfl
theorem info_ints:(prog.info? 42).map (fun i=>(i.zero,i.size,i.bytes))=some (some (.slice none 0 0),1,24):=by kernel_rfl
abbrev RwOwn (w:World) (base:Nat) (v:Value) (l:List RwV):Prop:=SOwn 42 1 RwV.cs w base v l
theorem bs_row (q:RwV) (w:World):(Instr.buildSlice tRows 1 #[(0,.slice q.A q.l.length q.c)]).run prog w=.ok (.slice (some ⟨w.heap.size,0,none⟩) 1 1) (w.alloc (.cells q.cs.toArray 42)):=by kernel_rfl
theorem app_rw {n0:Nat} {w:World} {v:Value} {l:List RwV} (h:RwOwn w n0 v l) (hb:n0<=w.heap.size) (q:RwV) {c:Nat} (hn:l.length<=900000000) :
  ∃ v' w',(Builtin.append_ #[tRows,tRows] tRows #[v,.slice (some ⟨w.heap.size,0,none⟩) 1 c]).run prog (w.alloc (.cells q.cs.toArray 42))=.ok v' w'∧RwOwn w' n0 v' (l++[q]) ∧
   (w.alloc (.cells q.cs.toArray 42)).grownBy w' v.ownBlock∧(v'.ownBlock=v.ownBlock∨v'.ownBlock=some (w.heap.size+1)):=by
 obtain ⟨v',w',h1,h2,h3,h4⟩:=SOwn.app (P:=prog) (xs:=[q]) (c:=c) (g:=w.heap.size) (o:=0) underlying223 info_ints rfl (by decide) (by decide) RwV.cs_len RwV.cs_plain
  (h.below (bR.alloc nR (.cells q.cs.toArray 42))) (fun _=>srow_new (enc:=RwV.cs) RwV.cs_len w [q] _ (by simp)) (by simp;omega) (by simp;omega)
 refine ⟨v',w',h1,h2,h3,?_⟩
 simpa using h4
theorem ApV.types {α β:Type} {T T2:TypeId} {k k2:Nat} {enc:α->List Value} {enc2:β->List Value} {w:World} {b b2:Nat} {v u:Value} {l:List α} {m:List β} (h:SOwn T k enc w b v l) (h2:SOwn T2 k2 enc2 w b2 u m) (hne:T≠T2):ApV v u:=fun g hg hu=>by
 obtain ⟨c1,f1,e1⟩:=SOwn.typed2 h hg;obtain ⟨c2,f2,e2⟩:=SOwn.typed2 h2 hu;rw [e1] at e2;simp only [Option.some.injEq,Obj.cells.injEq] at e2;exact hne e2.2.1
theorem SOwn.not_map {α:Type} {T:TypeId} {k:Nat} {enc:α->List Value} {w:World} {b ms:Nat} {v:Value} {l:List α} {Sn:Int->Prop} (h:SOwn T k enc w b v l) (hm:SeenM w ms Sn) {g:Nat} (hg:v.ownBlock=some g):g≠ms:=fun e=>by
 obtain ⟨c1,f1,e1⟩:=SOwn.typed2 h hg;obtain ⟨es,h1,-⟩:=hm;obtain ⟨es',clock,e2,_⟩:=h1.own;rw [e,e2] at e1;cases e1
theorem SOwn.off {α:Type} {T:TypeId} {k:Nat} {enc:α->List Value} {w w':World} {b ms:Nat} {v:Value} {l:List α} {Sn:Int->Prop} (h:SOwn T k enc w b v l) (hm:SeenM w ms Sn) (ht:TurnP (fun q=>q=ms) (fun q=>q=ms) w w'):SOwn T k enc w' b v l:=h.stays fun g hg=>(ht.far g (h.block hg).2 (h.not_map hm hg)).2
def tch (l:List Op9) (j:Int):Prop:=∃ o∈l,j=o.i∧touch o
theorem tch_snoc {l:List Op9} {o:Op9} {j:Int}:tch (l++[o]) j↔tch l j∨(j=o.i∧touch o):=by
 unfold tch;constructor
 ·rintro ⟨o',h1,h2⟩;rcases List.mem_append.1 h1 with h1 | h1
  ·exact .inl ⟨o',h1,h2⟩
  ·rw [List.mem_singleton.1 h1] at h2;exact .inr h2
 ·rintro (⟨o',h1,h2⟩ | h)
  ·exact ⟨o',List.mem_append_left _ h1,h2⟩
  ·exact ⟨o,by simp,h⟩
theorem make_seen (w:World):(Instr.makeMap tSeen none).run prog w=.ok (.map (some w.heap.size)) (w.alloc (.map #[] 0)):=rfl
def StQ (t:T) (l:List Op9) (w:World) (e:Ending) (w':World):Prop:=
 ∃ (A:Option Addr) (c:Nat) (rs:List RwV) (Sn:Int->Prop),e=.returned (.slice A rs.length c)∧RwOwn w' w.heap.size (.slice A rs.length c) rs∧(∀ q∈rs,IOwn w' w.heap.size q.v q.l)∧StI t (tch l) (rs.map (·.l)) Sn∧rs.length<=l.length∧Below w.heap.size w w'
section
variable {w:World} {g b m:Nat} {s:Sh} {Z:ZZ} {x:PSc}
theorem stale_any (FS:∀ W,Below w.heap.size w W->SceneAt W g b m s Z x) (hn:x.t.length<=900) (l:List OpR) (A:Option Addr) (c:Nat) (ho:OpsAt (SFoot b m s x.t) w A l) (hok:∀ q∈l,OpOk q.o) (hl:l.length<=1024) :
  Calls prog 106 #[.pointer (some ⟨g,0,none⟩),.slice A l.length c] w (StQ x.t (l.map (·.o)) w):=by
 have HFS:=Hd FS;have HO:=Hd ho;have HOK:=Hd hok;have HN:=Hd hn;have HTK:Hid (Ok x.t):=(FS w bR).tree.ok;have hlb:(l.length:Int)<=1024:=by omega
 have hb3:Below w.heap.size w (w.alloc (.map #[] 0)):=bR.alloc nR _;have HB3:=Hd hb3
 have HM3:Hid (SeenM (w.alloc (.map #[] 0)) w.heap.size (fun _=>False)):=⟨[],VM.made w,fun j=>by simp [omap.look_nil],fun j v e=>by rw [omap.look_nil] at e;cases e⟩
 have hmm:=make_seen w;clear FS ho hok hn hb3;go_enter func106,ntmps106;go_wp2_with (fail);clear hmm
 go_loopw [12,5] (fun x12 x5 wr=>∃ (j:Nat) (U:Option Addr) (uc:Nat) (rs:List RwV) (Sn:Int->Prop),j<=l.length∧x12=.int .i64 j∧x5=.slice U rs.length uc∧Hid (RwOwn wr w.heap.size (.slice U rs.length uc) rs)∧Hid (∀ q∈rs,IOwn wr w.heap.size q.v q.l)∧Hid (StI x.t (tch ((l.map (·.o)).take j)) (rs.map (·.l)) Sn)∧Hid (SeenM wr w.heap.size Sn)∧Hid (Below w.heap.size w wr)∧Hid (rs.length<=j)) (fun x12 _ _=>l.length - (intOf x12).toNat)
 case atStart=>exact ⟨0,none,0,[],fun _=>False,Nat.zero_le _,rfl,rfl,SOwn.nil _ _,(fun q hq=>nomatch hq),(StI.start x.t).tcs (fun j hj _=>by simp [tch] at hj),HM3.o,HB3.o,nR⟩
 case round=>
  obtain ⟨j,U,uc,rs,Sn,hj,rfl,rfl,HU,HR,HST,HM,HB,HRL⟩:=hrel;generalize wr=wA at *;clear HM3 HB3;by_cases hlt:j<l.length
  ·have t1:decide (j<l.length)=true:=by simpa using hlt
   have HLT:=Hd hlt;have HOA:=Hd (HO.o.turn (TurnP.below HB.o));obtain ⟨lb,lo,eA,hcell⟩:=HOA.o.row (by omega);subst eA
   obtain ⟨q,hq⟩:∃ q,q=l[j]'hlt:=⟨_,rfl⟩
   have HQM:Hid (q∈l):=by rw [hq];exact List.getElem_mem hlt
   have HRG:Hid (wA.rangeAt lb (lo+j*23) q.cs):=by
    rw [hq];exact fun i v hv=>hcell j hlt i v hv
   have HTC:Hid (∀ i,tch ((l.map (·.o)).take (j+1)) i↔tch ((l.map (·.o)).take j) i∨(i=q.o.i∧touch q.o)):=fun i=>by
    rw [List.take_succ_eq_append_getElem (by rw [List.length_map];exact hlt),tch_snoc,List.getElem_map,hq]
   have HQO:=Hd (HOK.o q HQM.o);clear hq hcell
   go_upto_block 1 with (fail)
   go_cut [5] from 14 to 38 (fun u wx=>∃ (U:Option Addr) (uc:Nat) (rs:List RwV) (Sn:Int->Prop),u=.slice U rs.length uc∧Hid (RwOwn wx w.heap.size (.slice U rs.length uc) rs)∧Hid (∀ q∈rs,IOwn wx w.heap.size q.v q.l)∧Hid (StI x.t (tch ((l.map (·.o)).take (j+1))) (rs.map (·.l)) Sn)∧Hid (SeenM wx w.heap.size Sn)∧Hid (Below w.heap.size w wx)∧Hid (rs.length<=j+1))
   case first=>
    have HZ2:Hid (Blk (wA.alloc (.cells Vg.toArray 99)) wA.heap.size Vg):=blk_new wA Vg _;have HBa:Hid (Below wA.heap.size wA (wA.alloc (.cells Vg.toArray 99))):=bR.alloc nR _;have c0:=HRG.o 0 (.int .i64 q.o.k) rfl;have i0:lb<wA.heap.size:=World.block_lt_of_cell? wA ⟨lb,_,none⟩ c0;clear c0
    go_upto_region 6 with (first | ((with_reducible refine gL ?_);refine wpl_row 99 _ rfl rfl _ _ rfl (q.cs) HRG.o _ underlying99 rfl (by kernel_rfl) ?_) | ((with_reducible refine gS ?_);refine wpl_stow 99 _ _ rfl rfl rfl _ 0 rfl (q.cs) rfl (Vg) HZ2.o (q.cs) rfl (nE rfl) (by kernel_rfl) (Op9.one _ _ _) ?_;intro w3 HW3 HK3))
    have HB3:Hid (Below wA.heap.size wA w3):=HW3.o.below HBa.o nR;have HB03:=Hd (HB.o.trans (HB3.o.mono HB.o.size));have HS3:Hid (SceneAt w3 g b m s Z x):=HFS.o _ HB03.o;have HU3:=Hd (SOwn.below HU.o HB3.o);have HR3:Hid (∀ q∈rs,IOwn w3 w.heap.size q.v q.l):=fun q hq=>SOwn.below (HR.o q hq) HB3.o;have HM3:=Hd (HM.o.below HB3.o);clear HZ2 HBa HW3 HRG i0 hlt HOA HU HR HM HB;have c0:=HK3.o.c 0 rfl;have c1:=HK3.o.c 1 rfl;have i0:wA.heap.size<w3.heap.size:=HK3.o.inside;by_cases h1:q.o.k=1
    ·have t1:(q.o.k==1)=true:=by simpa using h1
     have HTQ:Hid (touch q.o):=.inl h1;clear h1
     go_upto_region 10 with (fail)
     refine wRn [22,23,24,25,26,27,28,29] (fun i=>match i with
      |0|1|2=>rp g 0
      |3=>rV (.iface 102 (.pointer (some ⟨b,0,none⟩)))
      |4=>rp wA.heap.size 1
      |5=>rV (.int .i64 q.o.i)
      | 6=>(⟨fun v wv=>∃ g9,v=.slice (some ⟨g9,0,none⟩) 1 1∧Blk wv g9 [.int .i64 q.o.i],fun v w1 w2 h hb=>h.elim fun g9 h=>⟨g9,h.1,Blk.below' h.2 hb⟩⟩:regs.Say regs.bl)
      |7=>rV (.bool (has x.t q.o.i))
      | _=>ra) ⟨?_,?_,?_,?_,?_,?_,?_,?_,trivial⟩ ?_
     any_goals (first|refine zp fun L a w1 hh=>?_|fail)
     have h0:=hh.p 0 g 0;rotate_left;have h22:=rq (hh.d 0 22);rotate_left;have h23:=rq (hh.d 1 23);have i0:=((HS3.o.below hh.rel).blk.blk).inside;rotate_left;have h24:=rq (hh.d 2 24);have ⟨c0,i0⟩:=((HS3.o.below hh.rel).blk.blk).ci 0 rfl;rotate_left;have h8:=hh.p 8 wA.heap.size 0;have i0:=(Blk.below' HK3.o hh.rel).inside;rotate_left;have h26:=rq (hh.d 4 26);have ⟨c0,i0⟩:=(Blk.below' HK3.o hh.rel).ci 1 rfl;rotate_left
     ·have h27:=rq (hh.d 5 27);have hJ:=hh.j;clear hh;exact wp_bs _ _ _ rfl (by simp [go_sem,h27]) (bs_int1 q.o.i w1) ⟨_,rfl,bR.alloc nR _,⟨_,rfl,blk_new w1 [.int .i64 q.o.i] _⟩,hJ.o⟩
     ·have h25:=rq (hh.d 3 25)
      obtain ⟨g9,e9,hB9⟩:=(show ∃ g9,(a.tmps.getD 28 undef)=.slice (some ⟨g9,0,none⟩) 1 1∧Blk w1 g9 [.int .i64 q.o.i] from hh.d 6 28)
      have h28:a.tmps[28]?.getD undef=.slice (some ⟨g9,0,none⟩) 1 1:=rq (e9);have hinv:=inv_has (.pointer (some ⟨b,0,none⟩));have hC:=Hd (thas (HS3.o.below hh.rel).tree (some ⟨g9,0,none⟩) [q.o.i] 1 (fun _=>⟨g9,0,rfl,fun j hj=>by have:j=0:=(by simp at hj;omega);subst this;exact hB9.cell 0⟩) (fun z hz=>by rw [List.mem_singleton.1 hz];exact HQO.o.i) (by simp));rw [show ([q.o.i].all (has x.t))=has x.t q.o.i from by simp] at hC;clear e9 hB9;have hJ:=hh.j;clear hh;go_simp;refine hC.o.mono ?_;rintro e w9 ⟨rfl,hb9⟩;exact ⟨_,rfl,hb9,rfl,hJ.o⟩
     any_goals (clear hh;go_simp;exact ⟨_,rfl,rB,rfl,trivial⟩)
     intro L w4 val hL hJ hR hv;have h29:val 29=.bool (has x.t q.o.i):=hv 7 29 (by kernel_rfl);have HR4:=Hd hR;clear hv hL hJ hR;simp only [regs.putAll,List.map_cons,List.map_nil,h29];simp only [Act.put,List.setIfInBounds_toArray,List.set_cons_zero,List.set_cons_succ];clear h29;generalize val 22=v22,val 23=v23,val 24=v24,val 25=v25,val 26=v26,val 27=v27,val 28=v28 at *;have HB34:Hid (Below w3.heap.size w3 w4):=HR4.o;have HB04:=Hd (HB03.o.trans (HB34.o.mono HB03.o.size));have HU4:=Hd (SOwn.below HU3.o HB34.o)
     have HR4':Hid (∀ q∈rs,IOwn w4 w.heap.size q.v q.l):=fun q hq=>SOwn.below (HR3.o q hq) HB34.o;have HM4:=Hd (HM3.o.below HB34.o);have HK4:=Hd (Blk.below' HK3.o HB34.o);clear HU3 HR3 HM3 HK3 HS3 c0 c1 i0;cases hh:has x.t q.o.i with
     | false=>
      have HST4:Hid (StI x.t (tch ((l.map (·.o)).take (j+1))) (rs.map (·.l)) Sn):=HST.o.tcs fun i hi hx=>((HTC.o i).1 hi).elim id fun h=>by rw [h.1,hh] at hx;cases hx
      clear hh;go_wp2_with (fail)
      go_meet
      case rel=>exact ⟨U,uc,rs,Sn,rfl,HU4,HR4',HST4,HM4,HB04,Nat.le_succ_of_le HRL.o⟩
     | true=>
      have HHH:=Hd hh;have HUC:=Hd (unseen_any (w:=w4) w.heap.size (fun W ht=>HFS.o W (HB04.o.trans (ht.to_below HB04.o.size fun g e=>by rw [e];exact nR))) HN.o Sn HM4.o HST.o.hs q.o.i hh);unfold UnQ at HUC;clear hh;have c1:=HK4.o.c 1 rfl;have i0:wA.heap.size<w4.heap.size:=HK4.o.inside;go_wp2_with (fail);refine HUC.o.mono ?_;rintro e w5 ⟨A5,c5,row,next,k5,rfl,ho5,hu5,hk5,hm5,ht5⟩
      have HST5:Hid (StI x.t (tch ((l.map (·.o)).take (j+1))) (rs.map (·.l)++[row]) (fun i=>Sn i∨i∈row)):=HST.o.add HTK.o HHH.o hu5 hk5 (fun i hi=>((HTC.o i).1 hi).imp id fun h=>h.1) fun i=>Iff.rfl;have HB5:=Hd (HB04.o.trans (ht5.to_below HB04.o.size fun g e=>by rw [e];exact nR));have HU5:=Hd (SOwn.off HU4.o HM4.o ht5);have HO5:Hid (IOwn w5 w.heap.size (.slice A5 row.length c5) row):=SOwn.weaken ho5 HB04.o.size;have HR5:Hid (∀ q∈rs,IOwn w5 w.heap.size q.v q.l):=fun q hq=>SOwn.off (HR4'.o q hq) HM4.o ht5;have HM5:=Hd hm5
      obtain ⟨v6,w6,hrun,hu6,hg6,hn6⟩:=app_rw HU5.o HB5.o.size ⟨A5,c5,row⟩ (c:=1) (by have:=HRL.o;have:=HLT.o;omega);have ht6:TurnP (Ow (.slice U rs.length uc)) (Ow (.slice U rs.length uc)) w5 w6:=(TurnP.below (bR.alloc nR _)).trans (TurnP.grown hg6 fun k hk=>hk);have HB6:=Hd (HB5.o.trans (ht6.to_below HB5.o.size fun g hg=>(SOwn.block HU5.o hg).1));have HM6:Hid (SeenM w6 w.heap.size (fun i=>Sn i∨i∈row)):=HM5.o.stays (ht6.far _ HM5.o.inside fun e=>SOwn.not_map HU5.o HM5.o e rfl).2
      have HR6:Hid (∀ q∈rs++[⟨A5,c5,row⟩],IOwn w6 w.heap.size q.v q.l):=fun q hq=>by
       have h5:IOwn w5 w.heap.size q.v q.l:=by
        rcases List.mem_append.1 hq with hq | hq
        ·exact HR5.o q hq
        ·rw [List.mem_singleton.1 hq];exact HO5.o
       exact SOwn.apart h5 (ApV.types h5 HU5.o (by decide)) ht6
      have HST6:Hid (StI x.t (tch ((l.map (·.o)).take (j+1))) ((rs++[(⟨A5,c5,row⟩:RwV)]).map (fun q:RwV=>q.l)) (fun i=>Sn i∨i∈row)):=by
       have:=HST5.o
       rwa [show (rs++[(⟨A5,c5,row⟩:RwV)]).map (fun q:RwV=>q.l)=rs.map (fun q:RwV=>q.l)++[row] from by simp]
      obtain ⟨U6,uc6,rfl,-,-,-⟩:=SOwn.row hu6 RwV.cs_len;have HU6:=Hd hu6;clear ho5 hu5 hk5 hm5 ht5 hu6 hg6 hn6 ht6 HUC HST HST5 HM4 HU4 HR4' HM5 HU5 HR5 HO5 HB5 c1 i0;go_wp2_with (first | ((with_reducible refine gB ?_);refine wpl_bs _ _ _ rfl rfl (by simp [go_sem]) (bs_row ⟨A5,c5,row⟩ _) ?_) | (at_builtin;refine wpl_append rfl _ _ tRows tRows tRows rfl rfl _ _ _ _ rfl rfl hrun ?_;clear hrun))
      go_meet
      case rel=>exact ⟨U6,uc6,_,_,by simp,HU6,HR6,HST6,HM6,HB6,by have:=HRL.o;simp;omega⟩
    by_cases h3:q.o.k=3
    ·have t1:(q.o.k==1)=false:=by simpa using h1
     have t3:(q.o.k==3)=true:=by simpa using h3
     have HTQ:Hid (touch q.o):=.inr (.inl h3);clear h1 h3
     go_upto_region 10 with (fail)
     refine wRn [22,23,24,25,26,27,28,29] (fun i=>match i with
      |0|1|2=>rp g 0
      |3=>rV (.iface 102 (.pointer (some ⟨b,0,none⟩)))
      |4=>rp wA.heap.size 1
      |5=>rV (.int .i64 q.o.i)
      | 6=>(⟨fun v wv=>∃ g9,v=.slice (some ⟨g9,0,none⟩) 1 1∧Blk wv g9 [.int .i64 q.o.i],fun v w1 w2 h hb=>h.elim fun g9 h=>⟨g9,h.1,Blk.below' h.2 hb⟩⟩:regs.Say regs.bl)
      |7=>rV (.bool (has x.t q.o.i))
      | _=>ra) ⟨?_,?_,?_,?_,?_,?_,?_,?_,trivial⟩ ?_
     any_goals (first|refine zp fun L a w1 hh=>?_|fail)
     have h0:=hh.p 0 g 0;rotate_left;have h22:=rq (hh.d 0 22);rotate_left;have h23:=rq (hh.d 1 23);have i0:=((HS3.o.below hh.rel).blk.blk).inside;rotate_left;have h24:=rq (hh.d 2 24);have ⟨c0,i0⟩:=((HS3.o.below hh.rel).blk.blk).ci 0 rfl;rotate_left;have h8:=hh.p 8 wA.heap.size 0;have i0:=(Blk.below' HK3.o hh.rel).inside;rotate_left;have h26:=rq (hh.d 4 26);have ⟨c0,i0⟩:=(Blk.below' HK3.o hh.rel).ci 1 rfl;rotate_left
     ·have h27:=rq (hh.d 5 27);have hJ:=hh.j;clear hh;exact wp_bs _ _ _ rfl (by simp [go_sem,h27]) (bs_int1 q.o.i w1) ⟨_,rfl,bR.alloc nR _,⟨_,rfl,blk_new w1 [.int .i64 q.o.i] _⟩,hJ.o⟩
     ·have h25:=rq (hh.d 3 25)
      obtain ⟨g9,e9,hB9⟩:=(show ∃ g9,(a.tmps.getD 28 undef)=.slice (some ⟨g9,0,none⟩) 1 1∧Blk w1 g9 [.int .i64 q.o.i] from hh.d 6 28)
      have h28:a.tmps[28]?.getD undef=.slice (some ⟨g9,0,none⟩) 1 1:=rq (e9);have hinv:=inv_has (.pointer (some ⟨b,0,none⟩));have hC:=Hd (thas (HS3.o.below hh.rel).tree (some ⟨g9,0,none⟩) [q.o.i] 1 (fun _=>⟨g9,0,rfl,fun j hj=>by have:j=0:=(by simp at hj;omega);subst this;exact hB9.cell 0⟩) (fun z hz=>by rw [List.mem_singleton.1 hz];exact HQO.o.i) (by simp));rw [show ([q.o.i].all (has x.t))=has x.t q.o.i from by simp] at hC;clear e9 hB9;have hJ:=hh.j;clear hh;go_simp;refine hC.o.mono ?_;rintro e w9 ⟨rfl,hb9⟩;exact ⟨_,rfl,hb9,rfl,hJ.o⟩
     any_goals (clear hh;go_simp;exact ⟨_,rfl,rB,rfl,trivial⟩)
     intro L w4 val hL hJ hR hv;have h29:val 29=.bool (has x.t q.o.i):=hv 7 29 (by kernel_rfl);have HR4:=Hd hR;clear hv hL hJ hR;simp only [regs.putAll,List.map_cons,List.map_nil,h29];simp only [Act.put,List.setIfInBounds_toArray,List.set_cons_zero,List.set_cons_succ];clear h29;generalize val 22=v22,val 23=v23,val 24=v24,val 25=v25,val 26=v26,val 27=v27,val 28=v28 at *;have HB34:Hid (Below w3.heap.size w3 w4):=HR4.o;have HB04:=Hd (HB03.o.trans (HB34.o.mono HB03.o.size));have HU4:=Hd (SOwn.below HU3.o HB34.o)
     have HR4':Hid (∀ q∈rs,IOwn w4 w.heap.size q.v q.l):=fun q hq=>SOwn.below (HR3.o q hq) HB34.o;have HM4:=Hd (HM3.o.below HB34.o);have HK4:=Hd (Blk.below' HK3.o HB34.o);clear HU3 HR3 HM3 HK3 HS3 c0 c1 i0;cases hh:has x.t q.o.i with
     | false=>
      have HST4:Hid (StI x.t (tch ((l.map (·.o)).take (j+1))) (rs.map (·.l)) Sn):=HST.o.tcs fun i hi hx=>((HTC.o i).1 hi).elim id fun h=>by rw [h.1,hh] at hx;cases hx
      clear hh;go_wp2_with (fail)
      go_meet
      case rel=>exact ⟨U,uc,rs,Sn,rfl,HU4,HR4',HST4,HM4,HB04,Nat.le_succ_of_le HRL.o⟩
     | true=>
      have HHH:=Hd hh;have HUC:=Hd (unseen_any (w:=w4) w.heap.size (fun W ht=>HFS.o W (HB04.o.trans (ht.to_below HB04.o.size fun g e=>by rw [e];exact nR))) HN.o Sn HM4.o HST.o.hs q.o.i hh);unfold UnQ at HUC;clear hh;have c1:=HK4.o.c 1 rfl;have i0:wA.heap.size<w4.heap.size:=HK4.o.inside;go_wp2_with (fail);refine HUC.o.mono ?_;rintro e w5 ⟨A5,c5,row,next,k5,rfl,ho5,hu5,hk5,hm5,ht5⟩
      have HST5:Hid (StI x.t (tch ((l.map (·.o)).take (j+1))) (rs.map (·.l)++[row]) (fun i=>Sn i∨i∈row)):=HST.o.add HTK.o HHH.o hu5 hk5 (fun i hi=>((HTC.o i).1 hi).imp id fun h=>h.1) fun i=>Iff.rfl;have HB5:=Hd (HB04.o.trans (ht5.to_below HB04.o.size fun g e=>by rw [e];exact nR));have HU5:=Hd (SOwn.off HU4.o HM4.o ht5);have HO5:Hid (IOwn w5 w.heap.size (.slice A5 row.length c5) row):=SOwn.weaken ho5 HB04.o.size;have HR5:Hid (∀ q∈rs,IOwn w5 w.heap.size q.v q.l):=fun q hq=>SOwn.off (HR4'.o q hq) HM4.o ht5;have HM5:=Hd hm5
      obtain ⟨v6,w6,hrun,hu6,hg6,hn6⟩:=app_rw HU5.o HB5.o.size ⟨A5,c5,row⟩ (c:=1) (by have:=HRL.o;have:=HLT.o;omega);have ht6:TurnP (Ow (.slice U rs.length uc)) (Ow (.slice U rs.length uc)) w5 w6:=(TurnP.below (bR.alloc nR _)).trans (TurnP.grown hg6 fun k hk=>hk);have HB6:=Hd (HB5.o.trans (ht6.to_below HB5.o.size fun g hg=>(SOwn.block HU5.o hg).1));have HM6:Hid (SeenM w6 w.heap.size (fun i=>Sn i∨i∈row)):=HM5.o.stays (ht6.far _ HM5.o.inside fun e=>SOwn.not_map HU5.o HM5.o e rfl).2
      have HR6:Hid (∀ q∈rs++[⟨A5,c5,row⟩],IOwn w6 w.heap.size q.v q.l):=fun q hq=>by
       have h5:IOwn w5 w.heap.size q.v q.l:=by
        rcases List.mem_append.1 hq with hq | hq
        ·exact HR5.o q hq
        ·rw [List.mem_singleton.1 hq];exact HO5.o
       exact SOwn.apart h5 (ApV.types h5 HU5.o (by decide)) ht6
      have HST6:Hid (StI x.t (tch ((l.map (·.o)).take (j+1))) ((rs++[(⟨A5,c5,row⟩:RwV)]).map (fun q:RwV=>q.l)) (fun i=>Sn i∨i∈row)):=by
       have:=HST5.o
       rwa [show (rs++[(⟨A5,c5,row⟩:RwV)]).map (fun q:RwV=>q.l)=rs.map (fun q:RwV=>q.l)++[row] from by simp]
      obtain ⟨U6,uc6,rfl,-,-,-⟩:=SOwn.row hu6 RwV.cs_len;have HU6:=Hd hu6;clear ho5 hu5 hk5 hm5 ht5 hu6 hg6 hn6 ht6 HUC HST HST5 HM4 HU4 HR4' HM5 HU5 HR5 HO5 HB5 c1 i0;go_wp2_with (first | ((with_reducible refine gB ?_);refine wpl_bs _ _ _ rfl rfl (by simp [go_sem]) (bs_row ⟨A5,c5,row⟩ _) ?_) | (at_builtin;refine wpl_append rfl _ _ tRows tRows tRows rfl rfl _ _ _ _ rfl rfl hrun ?_;clear hrun))
      go_meet
      case rel=>exact ⟨U6,uc6,_,_,by simp,HU6,HR6,HST6,HM6,HB6,by have:=HRL.o;simp;omega⟩
    by_cases h4:q.o.k=4
    ·have t1:(q.o.k==1)=false:=by simpa using h1
     have t3:(q.o.k==3)=false:=by simpa using h3
     have t4:(q.o.k==4)=true:=by simpa using h4
     have HTQ:Hid (touch q.o):=.inr (.inr h4);clear h1 h3 h4
     go_upto_region 10 with (fail)
     refine wRn [22,23,24,25,26,27,28,29] (fun i=>match i with
      |0|1|2=>rp g 0
      |3=>rV (.iface 102 (.pointer (some ⟨b,0,none⟩)))
      |4=>rp wA.heap.size 1
      |5=>rV (.int .i64 q.o.i)
      | 6=>(⟨fun v wv=>∃ g9,v=.slice (some ⟨g9,0,none⟩) 1 1∧Blk wv g9 [.int .i64 q.o.i],fun v w1 w2 h hb=>h.elim fun g9 h=>⟨g9,h.1,Blk.below' h.2 hb⟩⟩:regs.Say regs.bl)
      |7=>rV (.bool (has x.t q.o.i))
      | _=>ra) ⟨?_,?_,?_,?_,?_,?_,?_,?_,trivial⟩ ?_
     any_goals (first|refine zp fun L a w1 hh=>?_|fail)
     have h0:=hh.p 0 g 0;rotate_left;have h22:=rq (hh.d 0 22);rotate_left;have h23:=rq (hh.d 1 23);have i0:=((HS3.o.below hh.rel).blk.blk).inside;rotate_left;have h24:=rq (hh.d 2 24);have ⟨c0,i0⟩:=((HS3.o.below hh.rel).blk.blk).ci 0 rfl;rotate_left;have h8:=hh.p 8 wA.heap.size 0;have i0:=(Blk.below' HK3.o hh.rel).inside;rotate_left;have h26:=rq (hh.d 4 26);have ⟨c0,i0⟩:=(Blk.below' HK3.o hh.rel).ci 1 rfl;rotate_left
     ·have h27:=rq (hh.d 5 27);have hJ:=hh.j;clear hh;exact wp_bs _ _ _ rfl (by simp [go_sem,h27]) (bs_int1 q.o.i w1) ⟨_,rfl,bR.alloc nR _,⟨_,rfl,blk_new w1 [.int .i64 q.o.i] _⟩,hJ.o⟩
     ·have h25:=rq (hh.d 3 25)
      obtain ⟨g9,e9,hB9⟩:=(show ∃ g9,(a.tmps.getD 28 undef)=.slice (some ⟨g9,0,none⟩) 1 1∧Blk w1 g9 [.int .i64 q.o.i] from hh.d 6 28)
      have h28:a.tmps[28]?.getD undef=.slice (some ⟨g9,0,none⟩) 1 1:=rq (e9);have hinv:=inv_has (.pointer (some ⟨b,0,none⟩));have hC:=Hd (thas (HS3.o.below hh.rel).tree (some ⟨g9,0,none⟩) [q.o.i] 1 (fun _=>⟨g9,0,rfl,fun j hj=>by have:j=0:=(by simp at hj;omega);subst this;exact hB9.cell 0⟩) (fun z hz=>by rw [List.mem_singleton.1 hz];exact HQO.o.i) (by simp));rw [show ([q.o.i].all (has x.t))=has x.t q.o.i from by simp] at hC;clear e9 hB9;have hJ:=hh.j;clear hh;go_simp;refine hC.o.mono ?_;rintro e w9 ⟨rfl,hb9⟩;exact ⟨_,rfl,hb9,rfl,hJ.o⟩
     any_goals (clear hh;go_simp;exact ⟨_,rfl,rB,rfl,trivial⟩)
     intro L w4 val hL hJ hR hv;have h29:val 29=.bool (has x.t q.o.i):=hv 7 29 (by kernel_rfl);have HR4:=Hd hR;clear hv hL hJ hR;simp only [regs.putAll,List.map_cons,List.map_nil,h29];simp only [Act.put,List.setIfInBounds_toArray,List.set_cons_zero,List.set_cons_succ];clear h29
     skip
     have HB34:Hid (Below w3.heap.size w3 w4):=HR4.o;have HB04:=Hd (HB03.o.trans (HB34.o.mono HB03.o.size));have HU4:=Hd (SOwn.below HU3.o HB34.o);have HR4':Hid (∀ q∈rs,IOwn w4 w.heap.size q.v q.l):=fun q hq=>SOwn.below (HR3.o q hq) HB34.o;have HM4:=Hd (HM3.o.below HB34.o);have HK4:=Hd (Blk.below' HK3.o HB34.o);clear HU3 HR3 HM3 HK3 HS3 c0 c1 i0;cases hh:has x.t q.o.i with
     | false=>
      have HST4:Hid (StI x.t (tch ((l.map (·.o)).take (j+1))) (rs.map (·.l)) Sn):=HST.o.tcs fun i hi hx=>((HTC.o i).1 hi).elim id fun h=>by rw [h.1,hh] at hx;cases hx
      clear hh;go_wp2_with (fail)
      go_meet
      case rel=>exact ⟨U,uc,rs,Sn,rfl,HU4,HR4',HST4,HM4,HB04,Nat.le_succ_of_le HRL.o⟩
     | true=>
      have HHH:=Hd hh;have HUC:=Hd (unseen_any (w:=w4) w.heap.size (fun W ht=>HFS.o W (HB04.o.trans (ht.to_below HB04.o.size fun g e=>by rw [e];exact nR))) HN.o Sn HM4.o HST.o.hs q.o.i hh);unfold UnQ at HUC;clear hh;have c1:=HK4.o.c 1 rfl;have i0:wA.heap.size<w4.heap.size:=HK4.o.inside;go_wp2_with (fail);refine HUC.o.mono ?_;rintro e w5 ⟨A5,c5,row,next,k5,rfl,ho5,hu5,hk5,hm5,ht5⟩
      have HST5:Hid (StI x.t (tch ((l.map (·.o)).take (j+1))) (rs.map (·.l)++[row]) (fun i=>Sn i∨i∈row)):=HST.o.add HTK.o HHH.o hu5 hk5 (fun i hi=>((HTC.o i).1 hi).imp id fun h=>h.1) fun i=>Iff.rfl;have HB5:=Hd (HB04.o.trans (ht5.to_below HB04.o.size fun g e=>by rw [e];exact nR));have HU5:=Hd (SOwn.off HU4.o HM4.o ht5);have HO5:Hid (IOwn w5 w.heap.size (.slice A5 row.length c5) row):=SOwn.weaken ho5 HB04.o.size;have HR5:Hid (∀ q∈rs,IOwn w5 w.heap.size q.v q.l):=fun q hq=>SOwn.off (HR4'.o q hq) HM4.o ht5;have HM5:=Hd hm5
      obtain ⟨v6,w6,hrun,hu6,hg6,hn6⟩:=app_rw HU5.o HB5.o.size ⟨A5,c5,row⟩ (c:=1) (by have:=HRL.o;have:=HLT.o;omega);have ht6:TurnP (Ow (.slice U rs.length uc)) (Ow (.slice U rs.length uc)) w5 w6:=(TurnP.below (bR.alloc nR _)).trans (TurnP.grown hg6 fun k hk=>hk);have HB6:=Hd (HB5.o.trans (ht6.to_below HB5.o.size fun g hg=>(SOwn.block HU5.o hg).1));have HM6:Hid (SeenM w6 w.heap.size (fun i=>Sn i∨i∈row)):=HM5.o.stays (ht6.far _ HM5.o.inside fun e=>SOwn.not_map HU5.o HM5.o e rfl).2
      have HR6:Hid (∀ q∈rs++[⟨A5,c5,row⟩],IOwn w6 w.heap.size q.v q.l):=fun q hq=>by
       have h5:IOwn w5 w.heap.size q.v q.l:=by
        rcases List.mem_append.1 hq with hq | hq
        ·exact HR5.o q hq
        ·rw [List.mem_singleton.1 hq];exact HO5.o
       exact SOwn.apart h5 (ApV.types h5 HU5.o (by decide)) ht6
      have HST6:Hid (StI x.t (tch ((l.map (·.o)).take (j+1))) ((rs++[(⟨A5,c5,row⟩:RwV)]).map (fun q:RwV=>q.l)) (fun i=>Sn i∨i∈row)):=by
       have:=HST5.o
       rwa [show (rs++[(⟨A5,c5,row⟩:RwV)]).map (fun q:RwV=>q.l)=rs.map (fun q:RwV=>q.l)++[row] from by simp]
      obtain ⟨U6,uc6,rfl,-,-,-⟩:=SOwn.row hu6 RwV.cs_len;have HU6:=Hd hu6;clear ho5 hu5 hk5 hm5 ht5 hu6 hg6 hn6 ht6 HUC HST HST5 HM4 HU4 HR4' HM5 HU5 HR5 HO5 HB5 c1 i0;go_wp2_with (first | ((with_reducible refine gB ?_);refine wpl_bs _ _ _ rfl rfl (by simp [go_sem]) (bs_row ⟨A5,c5,row⟩ _) ?_) | (at_builtin;refine wpl_append rfl _ _ tRows tRows tRows rfl rfl _ _ _ _ rfl rfl hrun ?_;clear hrun))
      go_meet
      case rel=>exact ⟨U6,uc6,_,_,by simp,HU6,HR6,HST6,HM6,HB6,by have:=HRL.o;simp;omega⟩
    have t1:(q.o.k==1)=false:=by simpa using h1
    have t3:(q.o.k==3)=false:=by simpa using h3
    have t4:(q.o.k==4)=false:=by simpa using h4
    have HST4:Hid (StI x.t (tch ((l.map (·.o)).take (j+1))) (rs.map (·.l)) Sn):=HST.o.tcs fun i hi _=>((HTC.o i).1 hi).elim id fun h=>(h.2.elim h1 fun h=>h.elim h3 h4).elim;clear h1 h3 h4;go_wp2_with (fail)
    go_meet
    case rel=>exact ⟨U,uc,rs,Sn,rfl,HU3,HR3,HST4,HM3,HB03,Nat.le_succ_of_le HRL.o⟩
   case rest=>
    obtain ⟨U2,uc2,rs2,Sn2,rfl,HU2,HR2,HST2,HM2,HB2,HRL2⟩:=hcut;clear HST HRL HRG hlt HOA;go_wp2_with (fail)
    go_roundw
    case rel=>exact ⟨j+1,U2,uc2,rs2,Sn2,HLT.o,by go_num,rfl,HU2,HR2,HST2,HM2,HB2,HRL2⟩
    case measure=>have:=HLT.o;simp [intOf];omega
  ·obtain rfl:j=l.length:=by omega
   have t1:decide (l.length<l.length)=false:=by simp
   clear hlt;go_wp2_with (fail);go_ret;refine ⟨U,uc,rs,Sn,rfl,HU.o,HR.o,?_,?_,HB.o⟩
   ·have:=HST.o
    rwa [List.take_of_length_le (by rw [List.length_map];exact nR)] at this
   ·rw [List.length_map];exact HRL.o
end
end
end Go.Proofs.YthoildbfghfhpaaGreat
