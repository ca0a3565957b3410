import Derived.Test.YthoildbfghfhpaaGreatQFlA
set_option maxHeartbeats 16000000
set_option maxRecDepth 100000
namespace Go.Proofs.YthoildbfghfhpaaGreat
section
open Go.RowKit pxm imm trm Go.Maps
def nearB (n:Int):Prop:=-1048576<=n∧n<=1048576
theorem middle_any (n:Int) (w:World) (h:nearB n):Calls Tryz.prog 55 #[.int .i64 n] w fun e w'=>e=.returned (.int .i64 (n*65536+32768))∧Below w.heap.size w w':=by
 obtain ⟨h1,h2⟩:=h
 obtain ⟨z,hz⟩:∃ z,n*65536=z:=⟨_,rfl⟩
 have v1:IntKind.i64.wrap z=z:=IntWalk.i64_in _ (by omega);have v2:IntKind.i64.wrap (z+32768)=z+32768:=IntWalk.i64_in _ (by omega);have v3:wrap64 (z+32768)=z+32768:=IntWalk.wrap64_in _ (by omega);have b1:-68719476736<=z∧z<=68719476736:=by omega
 rw [hz];clear h1 h2;go_enter Tryz.func55,Tryz.ntmps55;go_wp2_with (fail);go_ret;exact ⟨rfl,bR⟩
theorem build_pt (p:Pt) (w:World):(Instr.build 83 #[(0,.int .i64 p.x),(1,.int .i64 p.y)]).run Tryz.prog w=.ok (.agg p.cs.toArray) w:=by kernel_rfl
theorem centre_any (x y:Int) (w:World) (hx:nearB x) (hy:nearB y):Calls Tryz.prog 24 #[.int .i64 x,.int .i64 y] w fun e w'=>e=.returned (.agg (ctr x y).cs.toArray)∧Below w.heap.size w w':=by
 have H1:=Hd (fun w=>middle_any x w hx);have H2:=Hd (fun w=>middle_any y w hy);unfold ctr Pt.cs;simp only;generalize x*65536+32768=u at *;generalize y*65536+32768=v at *;clear hx hy;go_enter Tryz.func24,Tryz.ntmps24;go_wp2_with (fail);refine (H1.out _).mono ?_;rintro e w1 ⟨rfl,hb⟩;have HB1:Hid (Below w.heap.size w w1):=(bR.alloc nR _).trans (hb.mono (by simp));have HK1:Hid (Blk w1 w.heap.size [.int .i64 0,.int .i64 0]):=(blk_new w [.int .i64 0,.int .i64 0] _).below hb (by simp);clear hb H1;go_wp2_with (fail);refine (H2.out _).mono ?_;rintro e w2 ⟨rfl,hb⟩
 have HB2:=Hd (HB1.out.trans (hb.mono HB1.out.size));have HK2:=Hd (HK1.out.below' hb);clear hb H2 HB1 HK1;obtain ⟨⟨c0,c1⟩,⟨f0,f1⟩,ci⟩:=HK2.out.c2;go_wp2_with (fail);exact blk_ret rfl rfl (HK2.out.put2 _ _) Tryz.underlying83 rfl (by kernel_rfl) ⟨rfl,below2 HB2.out nR _ _⟩
def ptB (p:Pt):Prop:=(-4611686018427387904<=p.x∧p.x<=4611686018427387904)∧(-4611686018427387904<=p.y∧p.y<=4611686018427387904)
theorem floors_any (p:Pt) (w:World) (h:ptB p):Calls Tryz.prog 58 #[.agg p.cs.toArray] w fun e w'=>e=.returned (.tuple #[.int .i64 (p.x / 65536),.int .i64 (p.y / 65536)])∧Below w.heap.size w w':=by
 have H1:Hid (∀ w,Calls Tryz.prog 97 #[.int .i64 p.x] w fun e w'=>e=.returned (.int .i64 (p.x / 65536))∧Below w.heap.size w w'):=fun w=>bel_of_drew (floor_any p.x w h.1.1 h.1.2);have H2:Hid (∀ w,Calls Tryz.prog 97 #[.int .i64 p.y] w fun e w'=>e=.returned (.int .i64 (p.y / 65536))∧Below w.heap.size w w'):=fun w=>bel_of_drew (floor_any p.y w h.2.1 h.2.2);have HB0:Hid (Below w.heap.size w (w.alloc (.cells p.cs.toArray 83))):=bR.alloc nR _;have HK0:Hid (Blk (w.alloc (.cells p.cs.toArray 83)) w.heap.size p.cs):=blk_new w p.cs _;generalize p.x / 65536=u at *
 generalize p.y / 65536=v at *;clear h;go_enter Tryz.func58,Tryz.ntmps58
 go_upto_region 1 with (fail)
 generalize (w.alloc (.cells p.cs.toArray 83))=w0 at *;have F1:Hid (∀ W,Below w0.heap.size w0 W->Blk W w.heap.size p.cs):=fun W hb=>HK0.out.below' hb
 refine wRn [4,5,6,7,8,9,2,3] (fun i=>match i with
  |0=>rp w.heap.size 0
  |1=>rV (.int .i64 p.x)
  |2|6=>rV (.int .i64 u)
  |3=>rp w.heap.size 1
  |4=>rV (.int .i64 p.y)
  |5|7=>rV (.int .i64 v)
  | _=>ra) ⟨?_,?_,?_,?_,?_,?_,?_,?_,trivial⟩ ?_
 any_goals (first|refine zp fun L a w1 hh=>?_|fail)
 have h1:=hh.p 1 w.heap.size 0;have i0:=(F1.out _ hh.rel).inside;rotate_left;have h4:=rq (hh.d 0 4);have ⟨c0,i0⟩:=(F1.out _ hh.rel).ci 0 rfl;rotate_left
 ·have h5:=rq (hh.d 1 5);have hC:=Hd (H1.out w1);have hJ:=hh.j;clear hh;go_simp;refine hC.out.mono ?_;rintro e w9 ⟨rfl,hb9⟩;exact ⟨_,rfl,hb9,rfl,hJ.out⟩
 have h1:=hh.p 1 w.heap.size 0;have i0:=(F1.out _ hh.rel).inside;rotate_left;have h7:=rq (hh.d 3 7);have ⟨c0,i0⟩:=(F1.out _ hh.rel).ci 1 rfl;rotate_left
 ·have h8:=rq (hh.d 4 8);have hC:=Hd (H2.out w1);have hJ:=hh.j;clear hh;go_simp;refine hC.out.mono ?_;rintro e w9 ⟨rfl,hb9⟩;exact ⟨_,rfl,hb9,rfl,hJ.out⟩
 have h6:=rq (hh.d 2 6);rotate_left;have h9:=rq (hh.d 5 9);rotate_left
 any_goals (clear hh;go_simp;exact ⟨_,rfl,rB,rfl,trivial⟩)
 intro L w2 val hL hJ hR hv;have h2:val 2=.int .i64 u:=hv 6 2 (by kernel_rfl);have h3:val 3=.int .i64 v:=hv 7 3 (by kernel_rfl);have HR2:=Hd hR;clear hv hL hJ hR;simp only [regs.putAll,List.map_cons,List.map_nil,h2,h3];simp only [Act.put,List.setIfInBounds_toArray,List.set_cons_zero,List.set_cons_succ];clear h2 h3
 skip
 go_wp2_with (fail);go_ret2;exact ⟨rfl,HB0.out.trans (HR2.out.mono HB0.out.size)⟩
def Cl.hasP (c:Cl) (p:Pt):Bool:=c.r.has ((c.b.from_ p).x / 65536) ((c.b.from_ p).y / 65536)
theorem rnd_bd {n:Int} (h1:-9223372036854775808<=n) (h2:n<=9223372036854775807):-4611686018427387904<=rnd n 65536∧rnd n 65536<=4611686018427387904:=by
 unfold rnd;split<;>omega
theorem from_ptB {b:Mp} {p:Pt} (h:backOK b p):ptB (b.from_ p):=by
 obtain ⟨hr,hx,hy⟩:=h;obtain ⟨ra,rb,rc,rd,re,rf⟩:=right_bd hr;have bu:-3221225472<=p.x - b.e∧p.x - b.e<=3221225472:=by omega
 have bv:-3221225472<=p.y - b.f∧p.y - b.f<=3221225472:=by omega
 have p1:=prod_bd3 ra.1 ra.2 bu.1 bu.2;have p2:=prod_bd3 rc.1 rc.2 bv.1 bv.2;have p3:=prod_bd3 rb.1 rb.2 bu.1 bu.2;have p4:=prod_bd3 rd.1 rd.2 bv.1 bv.2;unfold ptB Mp.from_;simp only;generalize p.x - b.e=u at *;generalize p.y - b.f=v at *;generalize b.a*u=q1 at *;generalize b.c*v=q2 at *;generalize b.b*u=q3 at *;generalize b.d*v=q4 at *;exact ⟨rnd_bd (by omega) (by omega),rnd_bd (by omega) (by omega)⟩
theorem ctr_ok {b:Mp} (hb:b.right=true) {x y:Int} (hx:-32768<=x∧x<=32767) (hy:-32768<=y∧y<=32767):backOK b (ctr x y):=by
 refine ⟨hb,?_,?_⟩
 ·show -2147483648<=x*65536+32768∧x*65536+32768<=2147483648;omega
 ·show -2147483648<=y*65536+32768∧y*65536+32768<=2147483648;omega
theorem clip_has (c:Cl) (p:Pt) (w:World) (h:backOK c.b p):Calls Tryz.prog 69 #[.agg c.cs.toArray,.agg p.cs.toArray] w fun e w'=>e=.returned (.bool (c.hasP p))∧Below w.heap.size w w':=by
 have H1:Hid (∀ w,Calls Tryz.prog 59 #[.agg c.b.cs.toArray,.agg p.cs.toArray] w fun e w'=>e=.returned (.agg (c.b.from_ p).cs.toArray)∧Below w.heap.size w w'):=fun w=>mp_from c.b p w h;have H2:Hid (∀ w,Calls Tryz.prog 58 #[.agg (c.b.from_ p).cs.toArray] w fun e w'=>e=.returned (.tuple #[.int .i64 ((c.b.from_ p).x / 65536),.int .i64 ((c.b.from_ p).y / 65536)])∧Below w.heap.size w w'):=fun w=>floors_any _ w (from_ptB h)
 have H3:Hid (∀ w,Calls Tryz.prog 96 #[.agg c.r.cs.toArray,.int .i64 ((c.b.from_ p).x / 65536),.int .i64 ((c.b.from_ p).y / 65536)] w fun e w'=>e=.returned (.bool (c.hasP p))∧Below w.heap.size w w'):=fun w=>bx_has c.r _ _ w;have HB0:Hid (Below w.heap.size w ((w.alloc (.cells c.cs.toArray 152)).alloc (.cells p.cs.toArray 83))):=(bR.alloc nR _).alloc (by simp) _;have HK1:Hid (Blk ((w.alloc (.cells c.cs.toArray 152)).alloc (.cells p.cs.toArray 83)) w.heap.size c.cs):=(blk_new w c.cs _).alloc _
 have HK2:Hid (Blk ((w.alloc (.cells c.cs.toArray 152)).alloc (.cells p.cs.toArray 83)) (w.heap.size+1) p.cs):=blk_at (w.alloc _) _ (by simp) p.cs _;generalize c.hasP p=r at *;generalize (c.b.from_ p).x / 65536=u at *;generalize (c.b.from_ p).y / 65536=v at *;clear h;go_enter Tryz.func69,Tryz.ntmps69
 go_upto_region 1 with (fail)
 generalize ((w.alloc (.cells c.cs.toArray 152)).alloc (.cells p.cs.toArray 83))=w0 at *;have F1:Hid (∀ W,Below w0.heap.size w0 W->Blk W w.heap.size c.cs):=fun W hb=>HK1.out.below' hb;have F2:Hid (∀ W,Below w0.heap.size w0 W->Blk W (w.heap.size+1) p.cs):=fun W hb=>HK2.out.below' hb
 refine wRn [5,6,7,8,9,10,11,12,13,14,4] (fun i=>match i with
  |0=>rp w.heap.size 6
  |1=>rV (.agg (c.r.cs).toArray)
  |2=>rp w.heap.size 0
  |3=>rV (.agg (c.b.cs).toArray)
  |4=>rV (.agg (p.cs).toArray)
  |5=>rV (.agg ((c.b.from_ p).cs).toArray)
  |6=>rV (.tuple #[.int .i64 u,.int .i64 v])
  |7=>rV (.int .i64 u)
  |8=>rV (.int .i64 v)
  |9|10=>rV (.bool r)
  | _=>ra) ⟨?_,?_,?_,?_,?_,?_,?_,?_,?_,?_,?_,trivial⟩ ?_
 any_goals (first|refine zp fun L a w1 hh=>?_|fail)
 have h2:=hh.p 2 w.heap.size 0;have i0:=(F1.out _ hh.rel).inside;rotate_left
 ·have h5:=rq (hh.d 0 5);have hB:=Hd (F1.out _ hh.rel);have hJ:=Hd hh.st;exact wp_take 91 _ rfl w.heap.size 6 (by simpa [go_sem] using h5) _ hB.out (c.r.cs) rfl _ Tryz.underlying91 rfl (by kernel_rfl) ⟨_,rfl,rB,rfl,hJ.out⟩
 have h2:=hh.p 2 w.heap.size 0;have i0:=(F1.out _ hh.rel).inside;rotate_left
 ·have h7:=rq (hh.d 2 7);have hB:=Hd (F1.out _ hh.rel);have hJ:=Hd hh.st;exact wp_take 67 _ rfl w.heap.size 0 (by simpa [go_sem] using h7) _ hB.out (c.b.cs) rfl _ Tryz.underlying67 rfl (by kernel_rfl) ⟨_,rfl,rB,rfl,hJ.out⟩
 ·have h3:=hh.p 3 ((w.heap.size+1)) 0;have hB:=Hd (F2.out _ hh.rel);have hJ:=Hd hh.st;exact wp_take 83 _ rfl (w.heap.size+1) 0 (by simpa [go_sem] using h3) _ hB.out (p.cs) rfl _ Tryz.underlying83 rfl (by kernel_rfl) ⟨_,rfl,rB,rfl,hJ.out⟩
 ·have h8:=rq (hh.d 3 8);have h9:=rq (hh.d 4 9);have hC:=Hd (H1.out w1);have hJ:=hh.j;clear hh;go_simp;refine hC.out.mono ?_;rintro e w9 ⟨rfl,hb9⟩;exact ⟨_,rfl,hb9,rfl,hJ.out⟩
 ·have h10:=rq (hh.d 5 10);have hC:=Hd (H2.out w1);have hJ:=hh.j;clear hh;go_simp;refine hC.out.mono ?_;rintro e w9 ⟨rfl,hb9⟩;exact ⟨_,rfl,hb9,rfl,hJ.out⟩
 have h11:=rq (hh.d 6 11);rotate_left;have h11:=rq (hh.d 6 11);rotate_left
 ·have h6:=rq (hh.d 1 6);have h12:=rq (hh.d 7 12);have h13:=rq (hh.d 8 13);have hC:=Hd (H3.out w1);have hJ:=hh.j;clear hh;go_simp;refine hC.out.mono ?_;rintro e w9 ⟨rfl,hb9⟩;exact ⟨_,rfl,hb9,rfl,hJ.out⟩
 have h14:=rq (hh.d 9 14);rotate_left
 any_goals (clear hh;go_simp;exact ⟨_,rfl,rB,rfl,trivial⟩)
 intro L w2 val hL hJ hR hv;have h4:val 4=.bool r:=hv 10 4 (by kernel_rfl);have HR2:=Hd hR;clear hv hL hJ hR;simp only [regs.putAll,List.map_cons,List.map_nil,h4];simp only [Act.put,List.setIfInBounds_toArray,List.set_cons_zero,List.set_cons_succ];clear h4
 skip
 go_wp2_with (fail);go_ret;exact ⟨rfl,HB0.out.trans (HR2.out.mono HB0.out.size)⟩
theorem leaves1_any (c:Cl) (p:Pt) (pb:Nat) (w:World) (h:backOK c.b p) (hp:Blk w pb p.cs):Calls Tryz.prog 94 #[.agg c.cs.toArray,.pointer (some ⟨pb,0,none⟩)] w fun e w'=>e=.returned (.bool (!c.hasP p))∧Below w.heap.size w w':=by
 have HC:=Hd (fun w=>clip_has c p w h);have HB0:Hid (Below w.heap.size w (w.alloc (.cells c.cs.toArray 152))):=bR.alloc nR _;have HK1:Hid (Blk (w.alloc (.cells c.cs.toArray 152)) w.heap.size c.cs):=blk_new w c.cs _;have HK2:Hid (Blk (w.alloc (.cells c.cs.toArray 152)) pb p.cs):=hp.alloc _;generalize c.hasP p=r at *;clear h hp;go_enter Tryz.func94,Tryz.ntmps94
 go_upto_region 1 with (fail)
 generalize (w.alloc (.cells c.cs.toArray 152))=w0 at *;have i1:=HK1.out.inside;have i2:=HK2.out.inside;go_wp2_with (first | (with_reducible refine gL ?_;first | (refine wt 152 0 rfl rfl rfl HK1.out (c.cs) rfl Tryz.underlying152 rfl ?_) | (refine wt 83 0 rfl rfl rfl HK2.out (p.cs) rfl Tryz.underlying83 rfl ?_)));refine (HC.out _).mono ?_;rintro e w1 ⟨rfl,hb⟩;have HB1:=Hd (HB0.out.trans (hb.mono HB0.out.size));clear hb HC;go_wp2_with (fail);go_ret;exact ⟨rfl,HB1.out⟩
theorem enters_leaves1:Enters Tryz.prog 94:=enters_of Tryz.func94 (by kernel_rfl) rfl
theorem indexf_any (l:List Cl) (A:Option Addr) (cc:Nat) (p:Pt) (pb:Nat) (w:World) (hl:∀ c∈l,c.b.right=true) (hn:l.length<=2000) (hp:Blk w pb p.cs) (hr:SRow 10 Cl.cs w A l) (hok:∀ b:Mp,b.right=true->backOK b p) :
  Calls Tryz.prog 123 #[.slice A l.length cc,.func (.func 94) #[] #[.pointer (some ⟨pb,0,none⟩)]] w fun e w'=>∃ z:Int,e=.returned (.int .i64 z)∧decide (0<=z)=!(l.all fun c=>c.hasP p)∧Below w.heap.size w w':=by
 have he':∀ (args:Array Value) (w:World),(callFunc 94 args).run Tryz.prog w=.ok (.enter 94 args) w:=enters_leaves1;have HP:=Hd hp;have HL:=Hd hl;have HR:=Hd hr;have HK:=Hd hok;have HN:=Hd hn;clear hp hl hr hok hn;go_enter Tryz.func123,Tryz.ntmps123;go_wp2_with (fail)
 go_loopw [8] (fun i wr=>∃ k:Nat,k<=l.length∧i=.int .i64 k∧Hid ((l.take k).all (fun c=>c.hasP p)=true)∧Hid (Below w.heap.size w wr)) (fun i _=>l.length - (intOf i).toNat)
 case atStart=>exact ⟨0,Nat.zero_le _,rfl,rfl,bR⟩
 case round=>
  obtain ⟨k,hk,rfl,HT,HB⟩:=hrel;generalize wr=wA at *;by_cases hlt:k<l.length
  ·have t1:decide (k<l.length)=true:=decide_eq_true hlt;have HLT:=Hd hlt
   obtain ⟨lb,lo,rA,hcell⟩:=(SRow.below HR.out HB.out) (by omega)
   subst rA
   obtain ⟨c,hc⟩:∃ c,c=l[k]'hlt:=⟨_,rfl⟩
   have HRG:Hid (wA.rangeAt lb (lo+k*10) c.cs):=by
    rw [hc];exact fun i v hv=>hcell k hlt i v hv
   have HBC:Hid (backOK c.b p):=HK.out _ (HL.out c (by rw [hc];exact List.getElem_mem hlt))
   have HTK:Hid ((l.take (k+1)).all (fun c=>c.hasP p)=c.hasP p):=by
    show _=_;rw [List.take_succ_eq_append_getElem hlt,List.all_append,HT.out,← hc];simp
   have HAL:Hid (c.hasP p=false->(l.all fun c=>c.hasP p)=false):=fun e=>by
    rw [Bool.eq_false_iff];intro h;rw [List.all_eq_true.1 h c (by rw [hc];exact List.getElem_mem hlt)] at e;cases e
   have c0:=HRG.out 0 (.int .i64 c.b.a) rfl;have i0:lb<wA.heap.size:=World.block_lt_of_cell? wA ⟨lb,_,none⟩ c0;have hjb:(k:Int)<=2000:=by have:=HN.out;omega
   have HC:=Hd (leaves1_any c p pb wA HBC.out (HP.out.below' HB.out));clear c0 hcell hc hlt;go_wp2_with ((with_reducible refine gL ?_);refine wpl_row 152 _ rfl rfl _ _ rfl (c.cs) HRG.out _ Tryz.underlying152 rfl (by kernel_rfl) ?_);refine HC.out.mono ?_;rintro e w2 ⟨rfl,hb⟩;have HB2:=Hd (HB.out.trans (hb.mono HB.out.size));clear hb HC HB i0;cases hcp:c.hasP p with
   | true=>
    rw [hcp] at HTK;go_wp2_with (fail)
    go_roundw
    case rel=>exact ⟨k+1,HLT.out,by go_num,HTK,HB2⟩
    case measure=>have:=HLT.out;simp [intOf];omega
   | false=>
    go_wp2_with (fail);go_ret;exact ⟨k,rfl,by rw [HAL.out hcp];simp,HB2.out⟩
  ·obtain rfl:k=l.length:=by omega
   have t1:decide (l.length<l.length)=false:=by simp
   have HT2:=Hd HT.out;rw [List.take_length] at HT2;go_wp2_with (fail);go_ret;exact ⟨-1,rfl,by rw [HT2.out];rfl,HB.out⟩
theorem containsf_any (l:List Cl) (A:Option Addr) (cc:Nat) (p:Pt) (pb:Nat) (w:World) (hl:∀ c∈l,c.b.right=true) (hn:l.length<=2000) (hp:Blk w pb p.cs) (hr:SRow 10 Cl.cs w A l) (hok:∀ b:Mp,b.right=true->backOK b p) :
  Calls Tryz.prog 93 #[.slice A l.length cc,.func (.func 94) #[] #[.pointer (some ⟨pb,0,none⟩)]] w fun e w'=>e=.returned (.bool (!(l.all fun c=>c.hasP p)))∧Below w.heap.size w w':=by
 have HC:=Hd (indexf_any l A cc p pb w hl hn hp hr hok);clear hl hn hp hr hok;go_enter Tryz.func93,Tryz.ntmps93;go_wp2_with (fail);refine HC.out.mono ?_;rintro e w2 ⟨z,rfl,hz,hb⟩;have HB:=Hd hb;have HZ:=Hd hz;clear hz hb HC;go_wp2_with (fail);go_ret;exact ⟨by rw [← HZ.out];rfl,HB.out⟩
end
section
open Go.RowKit pxm imm trm Go.Maps
theorem pix_right {k W H:Int} {p:Nat} {iw ih:Int} {l:List Nat} (h:lkC k W H p iw ih l=0) (x y:Int):(frm (lkAt k W H p iw ih l x y)).Right:=by
 unfold lkC at h;unfold lkAt;by_cases h0:k=0
 ·subst h0;rw [if_neg (by decide),show szW 0 W iw=0 from rfl,show szW 0 H ih=0 from rfl];rw [if_neg (fun e=>by have:=inB_iff.1 e;omega)];exact zero_right
 rw [if_neg h0] at h;by_cases h1:k=1
 ·subst h1;rw [if_pos rfl] at h;rw [if_neg (by decide)];split
  ·split at h
   ·have h2:(rb p && !hasI iw ih l)=true:=by
     unfold fmC at h;split at h
     ·assumption
     ·cases h
    rw [Bool.and_eq_true] at h2;exact P4.rightB_iff.1 h2.1
   ·cases h
  ·exact zero_right
 rw [if_neg h1] at h;by_cases h2:k=2
 ·rw [if_pos h2] at h;rw [if_pos h2]
  have h3:(smallB iw ih l && !hasF W H p)=true:=by
   unfold fmC at h;split at h
   ·assumption
   ·cases h
  rw [Bool.and_eq_true] at h3;have h4:=h3.1;unfold smallB at h4;rw [Bool.and_eq_true,decide_eq_true_eq,decide_eq_true_eq] at h4;have h5:=h4.2;unfold chk at h5;unfold pixAt;split
  ·rw [List.getD_eq_getElem?_getD];split at h5
   ·split at h5
    ·split at h5
     ·rename_i hall
      cases e:l[(y*iw+x).toNat]? with
      | none=>exact zero_right
      | some z=>exact P4.rightB_iff.1 (List.all_eq_true.1 hall z (List.mem_of_getElem? e))
     ·cases h5
    ·cases h5
   ·cases h5
  ·exact zero_right
 ·rw [if_neg h2] at h;cases h
theorem look_whole {k W H:Int} {p:Nat} {iw ih:Int} {l:List Nat} (h:lkC k W H p iw ih l=0):k=2->wholeB iw ih l.length=true:=by
 rintro rfl;unfold lkC at h;rw [if_neg (by decide),if_neg (by decide),if_pos rfl] at h
 have h3:(smallB iw ih l && !hasF W H p)=true:=by
  unfold fmC at h;split at h
  ·assumption
  ·cases h
 rw [Bool.and_eq_true] at h3;have h4:=h3.1;unfold smallB at h4;rw [Bool.and_eq_true,decide_eq_true_eq,decide_eq_true_eq] at h4;have h5:=h4.2;unfold chk at h5;split at h5
 ·split at h5
  ·assumption
  ·cases h5
 ·cases h5
theorem leaves_any (q:ItR) (p:Pt) (w:World) (h:ItAt w q) (hk:q.it.Ok) (hok:∀ b:Mp,b.right=true->backOK b p):Calls Tryz.prog 56 #[.agg q.cs.toArray,.agg p.cs.toArray] w fun e w'=>e=.returned (.bool (q.it.c.all fun c=>c.hasP p))∧Below w.heap.size w w':=by
 have HB0:Hid (Below w.heap.size w ((w.alloc (.cells q.cs.toArray 76)).alloc (.cells p.cs.toArray 83))):=(bR.alloc nR _).alloc (by simp) _;have HK1:Hid (Blk ((w.alloc (.cells q.cs.toArray 76)).alloc (.cells p.cs.toArray 83)) w.heap.size q.cs):=(blk_new w q.cs _).alloc _;have HK2:Hid (Blk ((w.alloc (.cells q.cs.toArray 76)).alloc (.cells p.cs.toArray 83)) (w.heap.size+1) p.cs):=blk_at (w.alloc _) _ (by simp) p.cs _
 have HC:=Hd (containsf_any q.it.c q.Ac q.cc p (w.heap.size+1) ((w.alloc (.cells q.cs.toArray 76)).alloc (.cells p.cs.toArray 83)) hk.c hk.few HK2.out (SRow.below h.clips HB0.out) hok);clear h hk hok;generalize (q.it.c.all fun c=>c.hasP p)=r at *;go_enter Tryz.func56,Tryz.ntmps56
 go_upto_region 1 with (fail)
 generalize ((w.alloc (.cells q.cs.toArray 76)).alloc (.cells p.cs.toArray 83))=w0 at *;have c13:=HK1.out.c 13 rfl;have i1:=HK1.out.inside;go_wp2_with (fail);refine HC.out.mono ?_;rintro e w2 ⟨rfl,hb⟩;have HB:=Hd (HB0.out.trans (hb.mono HB0.out.size));clear hb HC c13 i1;go_wp2_with (fail);go_ret;exact ⟨rfl,HB.out⟩
theorem times_num {z o:Nat} (hz:(frm z).Right) (ho:o<256) (g:Nat) (w:World) (hc:w.cell? ⟨g,0,none⟩=some (.int .i64 (o:Nat))) :
  Calls Tryz.prog 60 #[.int .u32 (z:Nat),.slice (some ⟨g,0,none⟩) 1 1] w fun e w'=>e=.returned (.int .u32 (((frm z).times o).num:Nat))∧Below w.heap.size w w':=by
 have h:=bys_any (frm z) hz (some ⟨g,0,none⟩) [o] 1 w (fun x hx=>by rw [List.mem_singleton.1 hx];exact ho) (fun _=>⟨g,0,rfl,fun j hj=>by
  have:j=0:=by simpa using hj
  subst this
  exact hc⟩) (by unfold maxLen;simp)
 rw [num_frm] at h;exact h
theorem itat_any (q:ItR) (x y:Int) (w:World) (h:ItAt w q) (hk:q.it.Ok) (hx:-32768<=x∧x<=32767) (hy:-32768<=y∧y<=32767):Calls Tryz.prog 26 #[.agg q.cs.toArray,.int .i64 x,.int .i64 y] w fun e w'=>e=.returned (.int .u32 (q.it.at_ x y:Nat))∧Below w.heap.size w w':=by
 have HCT:=Hd (fun w=>centre_any x y w (by constructor<;>omega) (by constructor<;>omega));have HOK:Hid (∀ b:Mp,b.right=true->backOK b (ctr x y)):=fun b hb=>ctr_ok hb hx hy;have HF:Hid (q.it.free x y=q.it.c.all fun c=>c.hasP (ctr x y)):=rfl;have HAT:Hid (q.it.at_ x y=if q.it.free x y=true then ((frm (lkAt q.it.lk.k q.it.lk.W q.it.lk.H q.it.lk.p q.it.lk.iw q.it.lk.ih q.it.lk.l ((q.it.b.from_ (ctr x y)).x / 65536) ((q.it.b.from_ (ctr x y)).y / 65536))).times q.it.o).num else 0):=rfl;generalize q.it.at_ x y=R at *;generalize q.it.free x y=fr at *;generalize ctr x y=p at *;have HI:=Hd h
 have HKO:=Hd hk;have HB0:Hid (Below w.heap.size w (w.alloc (.cells q.cs.toArray 76))):=bR.alloc nR _;have HK0:Hid (Blk (w.alloc (.cells q.cs.toArray 76)) w.heap.size q.cs):=blk_new w q.cs _;have HLV:=Hd (fun w h=>leaves_any q p w h HKO.out HOK.out);rw [← HF.out] at HLV;have H1:Hid (∀ w,Calls Tryz.prog 59 #[.agg q.it.b.cs.toArray,.agg p.cs.toArray] w fun e w'=>e=.returned (.agg (q.it.b.from_ p).cs.toArray)∧Below w.heap.size w w'):=fun w=>mp_from q.it.b p w (HOK.out _ hk.b)
 have H2:Hid (∀ w,Calls Tryz.prog 58 #[.agg (q.it.b.from_ p).cs.toArray] w fun e w'=>e=.returned (.tuple #[.int .i64 ((q.it.b.from_ p).x / 65536),.int .i64 ((q.it.b.from_ p).y / 65536)])∧Below w.heap.size w w'):=fun w=>floors_any _ w (from_ptB (HOK.out _ hk.b));clear hx hy h hk HF HOK;generalize (q.it.b.from_ p).x / 65536=u at *;generalize (q.it.b.from_ p).y / 65536=v at *;have HZR:=Hd (pix_right HKO.out.lk u v)
 have HLA:Hid (∀ w,Row eW w q.A q.it.lk.l->Calls Tryz.prog 57 #[.agg (q.it.lk.cs q.A q.c).toArray,.int .i64 u,.int .i64 v] w fun e w'=>e=.returned (.int .u32 ((lkAt q.it.lk.k q.it.lk.W q.it.lk.H q.it.lk.p q.it.lk.iw q.it.lk.ih q.it.lk.l u v:Nat):Int))∧Below w.heap.size w w'):=fun w hr=>lkat_any q.it.lk.k q.it.lk.W q.it.lk.H q.it.lk.p q.it.lk.iw q.it.lk.ih q.A q.it.lk.l q.c u v (look_whole HKO.out.lk) (by have:=HKO.out.l;unfold maxLen;omega) w hr;generalize lkAt q.it.lk.k q.it.lk.W q.it.lk.H q.it.lk.p q.it.lk.iw q.it.lk.ih q.it.lk.l u v=z at *
 have H4:=Hd (fun w1 g8 hc=>times_num HZR.out HKO.out.o g8 w1 hc);generalize ((frm z).times q.it.o).num=zz at *;go_enter Tryz.func26,Tryz.ntmps26
 go_upto_region 1 with (fail)
 generalize (w.alloc (.cells q.cs.toArray 76))=w0 at *;go_wp2_with (fail);refine (HCT.out _).mono ?_;rintro e w1 ⟨rfl,hb⟩;have HB1:=Hd (HB0.out.trans (hb.mono HB0.out.size));have HK1:=Hd (HK0.out.below' hb);clear hb HCT HB0 HK0;have HZ:Hid (Blk (w1.alloc (.cells #[.int .i64 0,.int .i64 0] 83)) w1.heap.size [.int .i64 0,.int .i64 0]):=blk_new w1 [.int .i64 0,.int .i64 0] _;have HBa:Hid (Below w.heap.size w (w1.alloc (.cells #[.int .i64 0,.int .i64 0] 83))):=HB1.out.alloc HB1.out.size _;have HKa:Hid (Blk (w1.alloc (.cells #[.int .i64 0,.int .i64 0] 83)) w.heap.size q.cs):=HK1.out.alloc _
 have HNE:Hid (w.heap.size<w1.heap.size):=HK1.out.inside
 go_upto_region 2 with (first | (with_reducible refine gS ?_;first | (refine wpl_stow 83 _ _ rfl rfl rfl _ 0 rfl (p.cs) rfl ([.int .i64 0,.int .i64 0]) HZ.out (p.cs) rfl (nE rfl) (by kernel_rfl) rfl ?_;intro w2 HW2 HP2)))
 have HB2:Hid (Below w.heap.size w w2):=HW2.out.below HBa.out HB1.out.size;have HK2:Hid (Blk w2 w.heap.size q.cs):=HKa.out.stays (HW2.out.far (Nat.ne_of_lt HNE.out));clear HZ HBa HKa HW2 HB1 HK1;generalize w1.heap.size=pb at *;have i1:=HK2.out.inside;have i2:=HP2.out.inside;go_wp2_with (first | (with_reducible refine gL ?_;first | (refine wt 76 0 rfl rfl rfl HK2.out (q.cs) rfl Tryz.underlying76 rfl ?_) | (refine wt 83 0 rfl rfl rfl HP2.out (p.cs) rfl Tryz.underlying83 rfl ?_)));refine (HLV.out w2 (HI.out.below HB2.out)).mono ?_;rintro e w3 ⟨rfl,hb⟩
 have HB3:=Hd (HB2.out.trans (hb.mono HB2.out.size));have HK3:=Hd (HK2.out.below' hb);have HP3:=Hd (HP2.out.below' hb);clear hb HLV HB2 HK2 HP2 i1 i2;cases fr with
 | false=>
  have HR:=Hd (HAT.out.trans (if_neg (by decide)));go_wp2_with (fail);go_ret;exact ⟨ret_num (by rw [HR.out];rfl),HB3.out⟩
 | true=>
  have HR:=Hd (HAT.out.trans (if_pos rfl));have H3:Hid (∀ W,Below w3.heap.size w3 W->Calls Tryz.prog 57 #[.agg (q.it.lk.cs q.A q.c).toArray,.int .i64 u,.int .i64 v] W fun e w'=>e=.returned (.int .u32 (z:Nat))∧Below W.heap.size W w'):=fun W hb=>HLA.out W (Row.below HI.out.px (HB3.out.trans (hb.mono HB3.out.size)));have F1:Hid (∀ W,Below w3.heap.size w3 W->Blk W w.heap.size q.cs):=fun W hb=>HK3.out.below' hb;have F2:Hid (∀ W,Below w3.heap.size w3 W->Blk W pb p.cs):=fun W hb=>HP3.out.below' hb;clear HLA HK3 HP3 HI HKO HZR HAT
  go_upto_region 4 with (fail)
  refine wRn [15,16,17,18,19,20,21,22,23,24,25,26,27,28,6] (fun i=>match i with
   |0=>rp w.heap.size 15
   |1=>rV (.agg (q.it.lk.cs q.A q.c).toArray)
   |2=>rp w.heap.size 7
   |3=>rV (.agg (q.it.b.cs).toArray)
   |4=>rV (.agg (p.cs).toArray)
   |5=>rV (.agg ((q.it.b.from_ p).cs).toArray)
   |6=>rV (.tuple #[.int .i64 u,.int .i64 v])
   |7=>rV (.int .i64 u)
   |8=>rV (.int .i64 v)
   |9=>rV (.int .u32 (z:Nat))
   |10=>rp w.heap.size 14
   |11=>rV (.int .i64 (q.it.o:Nat))
   | 12=>regs.Say.one (.int .i64 (q.it.o:Nat))
   |13|14=>rV (.int .u32 (zz:Nat))
   | _=>ra) ⟨?_,?_,?_,?_,?_,?_,?_,?_,?_,?_,?_,?_,?_,?_,?_,trivial⟩ ?_
  any_goals (first|refine zp fun L a w1 hh=>?_|fail)
  have h3:=hh.p 3 w.heap.size 0;have i0:=(F1.out _ hh.rel).inside;rotate_left
  ·have h15:=rq (hh.d 0 15);have hB:=Hd (F1.out _ hh.rel);have hJ:=Hd hh.st;exact wp_take 74 _ rfl w.heap.size 15 (by simpa [go_sem] using h15) _ hB.out (q.it.lk.cs q.A q.c) rfl _ Tryz.underlying74 rfl (by kernel_rfl) ⟨_,rfl,rB,rfl,hJ.out⟩
  have h3:=hh.p 3 w.heap.size 0;have i0:=(F1.out _ hh.rel).inside;rotate_left
  ·have h17:=rq (hh.d 2 17);have hB:=Hd (F1.out _ hh.rel);have hJ:=Hd hh.st;exact wp_take 67 _ rfl w.heap.size 7 (by simpa [go_sem] using h17) _ hB.out (q.it.b.cs) rfl _ Tryz.underlying67 rfl (by kernel_rfl) ⟨_,rfl,rB,rfl,hJ.out⟩
  ·have h7:=hh.p 7 pb 0;have hB:=Hd (F2.out _ hh.rel);have hJ:=Hd hh.st;exact wp_take 83 _ rfl pb 0 (by simpa [go_sem] using h7) _ hB.out (p.cs) rfl _ Tryz.underlying83 rfl (by kernel_rfl) ⟨_,rfl,rB,rfl,hJ.out⟩
  ·have h18:=rq (hh.d 3 18);have h19:=rq (hh.d 4 19);have hC:=Hd (H1.out w1);have hJ:=hh.j;clear hh;go_simp;refine hC.out.mono ?_;rintro e w9 ⟨rfl,hb9⟩;exact ⟨_,rfl,hb9,rfl,hJ.out⟩
  ·have h20:=rq (hh.d 5 20);have hC:=Hd (H2.out w1);have hJ:=hh.j;clear hh;go_simp;refine hC.out.mono ?_;rintro e w9 ⟨rfl,hb9⟩;exact ⟨_,rfl,hb9,rfl,hJ.out⟩
  have h21:=rq (hh.d 6 21);rotate_left;have h21:=rq (hh.d 6 21);rotate_left
  ·have h16:=rq (hh.d 1 16);have h22:=rq (hh.d 7 22);have h23:=rq (hh.d 8 23);have hC:=Hd (H3.out w1 hh.rel);have hJ:=hh.j;clear hh;go_simp;refine hC.out.mono ?_;rintro e w9 ⟨rfl,hb9⟩;exact ⟨_,rfl,hb9,rfl,hJ.out⟩
  have h3:=hh.p 3 w.heap.size 0;have i0:=(F1.out _ hh.rel).inside;rotate_left;have h25:=rq (hh.d 10 25);have ⟨c0,i0⟩:=(F1.out _ hh.rel).ci 14 rfl;rotate_left
  ·have h26:=rq (hh.d 11 26);have hJ:=hh.j;clear hh;go_simp;exact ⟨_,rfl,bR.alloc nR _,⟨_,rfl,cell_of_row _ _ 0 _ _ _ (heap_alloc_new w1 _)⟩,hJ.out⟩
  ·have h24:=rq (hh.d 9 24)
   obtain ⟨g8,e8,hc8⟩:=(show ∃ g,(a.tmps.getD 27 undef)=.slice (some ⟨g,0,none⟩) 1 1∧w1.cell? ⟨g,0,none⟩=some (.int .i64 (q.it.o:Nat)) from hh.d 12 27)
   have h27:a.tmps[27]?.getD undef=.slice (some ⟨g8,0,none⟩) 1 1:=rq (e8);have hC:=Hd (H4.out w1 g8 hc8);have hJ:=Hd hh.st;clear hh e8 hc8;go_simp;refine hC.out.mono ?_;rintro e w9 ⟨rfl,hb9⟩;exact ⟨_,rfl,hb9,rfl,hJ.out⟩
  have h28:=rq (hh.d 13 28);rotate_left
  any_goals (clear hh;go_simp;exact ⟨_,rfl,rB,rfl,trivial⟩)
  intro L w4 val hL hJ hR hv;have h6:val 6=.int .u32 (zz:Nat):=hv 14 6 (by kernel_rfl);have HR4:=Hd hR;clear hv hL hJ hR;simp only [regs.putAll,List.map_cons,List.map_nil,h6];simp only [Act.put,List.setIfInBounds_toArray,List.set_cons_zero,List.set_cons_succ];clear h6
  skip
  go_wp2_with (fail);go_ret;exact ⟨ret_num (by rw [HR.out]),HB3.out.trans (HR4.out.mono HB3.out.size)⟩
theorem build_cl (b:Mp) (r:Bx) (w:World):(Instr.build 152 #[(0,.agg b.cs.toArray),(1,.agg r.cs.toArray)]).run Tryz.prog w=.ok (.agg (Cl.mk b r).cs.toArray) w:=by kernel_rfl
theorem itcov_any (q:ItR) (x y:Int) (w:World) (h:ItAt w q) (hk:q.it.Ok) (hx:-32768<=x∧x<=32767) (hy:-32768<=y∧y<=32767):Calls Tryz.prog 28 #[.agg q.cs.toArray,.int .i64 x,.int .i64 y] w fun e w'=>e=.returned (.bool (q.it.covers x y))∧Below w.heap.size w w':=by
 have HCT:=Hd (fun w=>centre_any x y w (by constructor<;>omega) (by constructor<;>omega));have HOK:Hid (∀ b:Mp,b.right=true->backOK b (ctr x y)):=fun b hb=>ctr_ok hb hx hy;have HF:Hid (q.it.free x y=q.it.c.all fun c=>c.hasP (ctr x y)):=rfl;have HCV:Hid (q.it.covers x y=((Cl.mk q.it.b (Bx.nrm ⟨0,0,szW q.it.lk.k q.it.lk.W q.it.lk.iw,szW q.it.lk.k q.it.lk.H q.it.lk.ih⟩)).hasP (ctr x y)&&q.it.free x y)):=rfl;generalize q.it.covers x y=R at *;generalize q.it.free x y=fr at *;generalize ctr x y=p at *;have HI:=Hd h;have HKO:=Hd hk
 have HB0:Hid (Below w.heap.size w (w.alloc (.cells q.cs.toArray 76))):=bR.alloc nR _;have HK0:Hid (Blk (w.alloc (.cells q.cs.toArray 76)) w.heap.size q.cs):=blk_new w q.cs _;have HLV:=Hd (fun w h=>leaves_any q p w h HKO.out HOK.out);rw [← HF.out] at HLV
 have HSZ:Hid (∀ w,Calls Tryz.prog 67 #[.agg (q.it.lk.cs q.A q.c).toArray] w fun e w'=>e=.returned (.tuple #[.int .i64 (szW q.it.lk.k q.it.lk.W q.it.lk.iw),.int .i64 (szW q.it.lk.k q.it.lk.H q.it.lk.ih)])∧Below w.heap.size w w'):=fun w=>size_any q.it.lk.k q.it.lk.W q.it.lk.H q.it.lk.p q.it.lk.iw q.it.lk.ih q.A q.it.lk.l.length q.c w;generalize szW q.it.lk.k q.it.lk.W q.it.lk.iw=sx at *;generalize szW q.it.lk.k q.it.lk.H q.it.lk.ih=sv at *
 have H1:Hid (∀ w,Calls Tryz.prog 68 (Vm sx sv).toArray w fun e w'=>e=.returned (.agg (Bx.nrm ⟨0,0,sx,sv⟩).cs.toArray)∧Below w.heap.size w w'):=fun w=>bx_of ⟨0,0,sx,sv⟩ w;generalize Bx.nrm ⟨0,0,sx,sv⟩=rr at *;have H2:=Hd (fun w=>clip_has (Cl.mk q.it.b rr) p w (HOK.out _ hk.b));clear hx hy h hk HF HOK;go_enter Tryz.func28,Tryz.ntmps28
 go_upto_region 1 with (fail)
 generalize (w.alloc (.cells q.cs.toArray 76))=w0 at *;go_wp2_with (fail);refine (HCT.out _).mono ?_;rintro e w1 ⟨rfl,hb⟩;have HB1:=Hd (HB0.out.trans (hb.mono HB0.out.size));have HK1:=Hd (HK0.out.below' hb);clear hb HCT HB0 HK0;have HZ:Hid (Blk (w1.alloc (.cells #[.int .i64 0,.int .i64 0] 83)) w1.heap.size [.int .i64 0,.int .i64 0]):=blk_new w1 [.int .i64 0,.int .i64 0] _;have HBa:Hid (Below w.heap.size w (w1.alloc (.cells #[.int .i64 0,.int .i64 0] 83))):=HB1.out.alloc HB1.out.size _;have HKa:Hid (Blk (w1.alloc (.cells #[.int .i64 0,.int .i64 0] 83)) w.heap.size q.cs):=HK1.out.alloc _
 have HNE:Hid (w.heap.size<w1.heap.size):=HK1.out.inside
 go_upto_region 2 with (first | (with_reducible refine gS ?_;first | (refine wpl_stow 83 _ _ rfl rfl rfl _ 0 rfl (p.cs) rfl ([.int .i64 0,.int .i64 0]) HZ.out (p.cs) rfl (nE rfl) (by kernel_rfl) rfl ?_;intro w2 HW2 HP2)))
 have HB2:Hid (Below w.heap.size w w2):=HW2.out.below HBa.out HB1.out.size;have HK2:Hid (Blk w2 w.heap.size q.cs):=HKa.out.stays (HW2.out.far (Nat.ne_of_lt HNE.out));clear HZ HBa HKa HW2 HB1 HK1;generalize w1.heap.size=pb at *;have i1:=HK2.out.inside;go_wp2_with (first | (with_reducible refine gL ?_;first | (refine wt 74 15 rfl rfl rfl HK2.out (q.it.lk.cs q.A q.c) rfl Tryz.underlying74 rfl ?_)));refine (HSZ.out w2).mono ?_;rintro e w3 ⟨rfl,hb⟩;have HB3:=Hd (HB2.out.trans (hb.mono HB2.out.size));have HK3:=Hd (HK2.out.below' hb);have HP3:=Hd (HP2.out.below' hb);clear hb HSZ HB2 HK2 HP2 i1
 have H3:=Hd (fun W (hb:Below w3.heap.size w3 W)=>HLV.out W (HI.out.below (HB3.out.trans (hb.mono HB3.out.size))));have F1:Hid (∀ W,Below w3.heap.size w3 W->Blk W w.heap.size q.cs):=fun W hb=>HK3.out.below' hb;have F2:Hid (∀ W,Below w3.heap.size w3 W->Blk W pb p.cs):=fun W hb=>HP3.out.below' hb;clear HK3 HP3 HI HKO HLV;generalize (Cl.mk q.it.b rr).hasP p=hv at *
 go_upto_region 3 with (fail)
 cases hv with
 | false=>
  refine wRn [19,20,21,22,23,24,25,26,27,28,29,30,31,6] (fun i=>match i with
   |0=>rp w.heap.size 7
   |1=>rV (.agg (q.it.b.cs).toArray)
   |2=>rV (.int .i64 sx)
   |3=>rV (.int .i64 sv)
   |4=>rV (.agg (rr.cs).toArray)
   |5=>rV (.agg ((Cl.mk q.it.b rr).cs).toArray)
   |6=>rV (.agg (p.cs).toArray)
   |7|8|12|13=>rV (.bool false)
   |9|10|11=>rV (undef)
   | _=>ra) ⟨?_,?_,?_,?_,?_,?_,?_,?_,?_,?_,?_,?_,?_,?_,trivial⟩ ?_
  any_goals (first|refine zp fun L a w1 hh=>?_|fail)
  have h3:=hh.p 3 w.heap.size 0;have i0:=(F1.out _ hh.rel).inside;rotate_left
  ·have h19:=rq (hh.d 0 19);have hB:=Hd (F1.out _ hh.rel);have hJ:=Hd hh.st;exact wp_take 67 _ rfl w.heap.size 7 (by simpa [go_sem] using h19) _ hB.out (q.it.b.cs) rfl _ Tryz.underlying67 rfl (by kernel_rfl) ⟨_,rfl,rB,rfl,hJ.out⟩
  have h8:=hh.o 8 (v:=.int .i64 sx) rfl;rotate_left;have h9:=hh.o 9 (v:=.int .i64 sv) rfl;rotate_left
  ·have h21:=rq (hh.d 2 21);have h22:=rq (hh.d 3 22);have hC:=Hd (H1.out w1);have hJ:=hh.j;clear hh;go_simp;refine hC.out.mono ?_;rintro e w9 ⟨rfl,hb9⟩;exact ⟨_,rfl,hb9,rfl,hJ.out⟩
  ·have h20:=rq (hh.d 1 20);have h23:=rq (hh.d 4 23);have hJ:=Hd hh.st;exact wp_build _ _ rfl (by simp [go_sem,h20,h23]) (build_cl q.it.b rr w1) ⟨_,rfl,rB,rfl,hJ.out⟩
  ·have h7:=hh.p 7 pb 0;have hB:=Hd (F2.out _ hh.rel);have hJ:=Hd hh.st;exact wp_take 83 _ rfl pb 0 (by simpa [go_sem] using h7) _ hB.out (p.cs) rfl _ Tryz.underlying83 rfl (by kernel_rfl) ⟨_,rfl,rB,rfl,hJ.out⟩
  ·have h24:=rq (hh.d 5 24);have h25:=rq (hh.d 6 25);have hC:=Hd (H2.out w1);have hJ:=hh.j;clear hh;go_simp;refine hC.out.mono ?_;rintro e w9 ⟨rfl,hb9⟩;exact ⟨_,rfl,hb9,rfl,hJ.out⟩
  have h26:=rq (hh.d 7 26);rotate_left
  ·refine sz rfl rfl
  ·refine sz rfl rfl
  ·refine sz rfl rfl
  have h27:=rq (hh.d 8 27);rotate_left;have h31:=rq (hh.d 12 31);rotate_left
  any_goals (clear hh;go_simp;exact ⟨_,rfl,rB,rfl,trivial⟩)
  intro L w4 val hL hJ hR hv;have h6:val 6=.bool false:=hv 13 6 (by kernel_rfl);have HR4:=Hd hR;clear hv hL hJ hR;simp only [regs.putAll,List.map_cons,List.map_nil,h6];simp only [Act.put,List.setIfInBounds_toArray,List.set_cons_zero,List.set_cons_succ];clear h6;generalize val 19=v19,val 20=v20,val 21=v21,val 22=v22,val 23=v23,val 24=v24,val 25=v25,val 26=v26,val 27=v27,val 28=v28,val 29=v29,val 30=v30,val 31=v31 at *;go_wp2_with (fail);go_ret;exact ⟨by rw [HCV.out];rfl,HB3.out.trans (HR4.out.mono HB3.out.size)⟩
 | true=>
  refine wRn [19,20,21,22,23,24,25,26,27,28,29,30,31,6] (fun i=>match i with
   |0=>rp w.heap.size 7
   |1=>rV (.agg (q.it.b.cs).toArray)
   |2=>rV (.int .i64 sx)
   |3=>rV (.int .i64 sv)
   |4=>rV (.agg (rr.cs).toArray)
   |5=>rV (.agg ((Cl.mk q.it.b rr).cs).toArray)
   |6|10=>rV (.agg (p.cs).toArray)
   |7|8=>rT
   |9=>rV (.agg (q.cs).toArray)
   |11|12|13=>rV (.bool fr)
   | _=>ra) ⟨?_,?_,?_,?_,?_,?_,?_,?_,?_,?_,?_,?_,?_,?_,trivial⟩ ?_
  any_goals (first|refine zp fun L a w1 hh=>?_|fail)
  any_goals (first|refine sy rfl rfl fun L a w1 hh=>?_|fail)
  have h3:=hh.p 3 w.heap.size 0;have i0:=(F1.out _ hh.rel).inside;rotate_left
  ·have h19:=rq (hh.d 0 19);have hB:=Hd (F1.out _ hh.rel);have hJ:=Hd hh.st;exact wp_take 67 _ rfl w.heap.size 7 (by simpa [go_sem] using h19) _ hB.out (q.it.b.cs) rfl _ Tryz.underlying67 rfl (by kernel_rfl) ⟨_,rfl,rB,rfl,hJ.out⟩
  have h8:=hh.o 8 (v:=.int .i64 sx) rfl;rotate_left;have h9:=hh.o 9 (v:=.int .i64 sv) rfl;rotate_left
  ·have h21:=rq (hh.d 2 21);have h22:=rq (hh.d 3 22);have hC:=Hd (H1.out w1);have hJ:=hh.j;clear hh;go_simp;refine hC.out.mono ?_;rintro e w9 ⟨rfl,hb9⟩;exact ⟨_,rfl,hb9,rfl,hJ.out⟩
  ·have h20:=rq (hh.d 1 20);have h23:=rq (hh.d 4 23);have hJ:=Hd hh.st;exact wp_build _ _ rfl (by simp [go_sem,h20,h23]) (build_cl q.it.b rr w1) ⟨_,rfl,rB,rfl,hJ.out⟩
  ·have h7:=hh.p 7 pb 0;have hB:=Hd (F2.out _ hh.rel);have hJ:=Hd hh.st;exact wp_take 83 _ rfl pb 0 (by simpa [go_sem] using h7) _ hB.out (p.cs) rfl _ Tryz.underlying83 rfl (by kernel_rfl) ⟨_,rfl,rB,rfl,hJ.out⟩
  ·have h24:=rq (hh.d 5 24);have h25:=rq (hh.d 6 25);have hC:=Hd (H2.out w1);have hJ:=hh.j;clear hh;go_simp;refine hC.out.mono ?_;rintro e w9 ⟨rfl,hb9⟩;exact ⟨_,rfl,hb9,rfl,hJ.out⟩
  have h26:=rq (hh.d 7 26);rotate_left
  ·have h3:=hh.p 3 w.heap.size 0;have hB:=Hd (F1.out _ hh.rel);have hJ:=Hd hh.st;exact wp_take 76 _ rfl w.heap.size 0 (by simpa [go_sem] using h3) _ hB.out (q.cs) rfl _ Tryz.underlying76 rfl (by kernel_rfl) ⟨_,rfl,rB,rfl,hJ.out⟩
  ·have h7:=hh.p 7 pb 0;have hB:=Hd (F2.out _ hh.rel);have hJ:=Hd hh.st;exact wp_take 83 _ rfl pb 0 (by simpa [go_sem] using h7) _ hB.out (p.cs) rfl _ Tryz.underlying83 rfl (by kernel_rfl) ⟨_,rfl,rB,rfl,hJ.out⟩
  ·have h28:=rq (hh.d 9 28);have h29:=rq (hh.d 10 29);have hC:=Hd (H3.out w1 hh.rel);have hJ:=hh.j;clear hh;go_simp;refine hC.out.mono ?_;rintro e w9 ⟨rfl,hb9⟩;exact ⟨_,rfl,hb9,rfl,hJ.out⟩
  have h27:=rq (hh.d 8 27);have h30:=rq (hh.d 11 30);rotate_left;have h31:=rq (hh.d 12 31);rotate_left
  any_goals (clear hh;go_simp;exact ⟨_,rfl,rB,rfl,trivial⟩)
  intro L w4 val hL hJ hR hv;have h6:val 6=.bool fr:=hv 13 6 (by kernel_rfl);have HR4:=Hd hR;clear hv hL hJ hR;simp only [regs.putAll,List.map_cons,List.map_nil,h6];simp only [Act.put,List.setIfInBounds_toArray,List.set_cons_zero,List.set_cons_succ];clear h6
  skip
  go_wp2_with (fail);go_ret;exact ⟨by rw [HCV.out];rfl,HB3.out.trans (HR4.out.mono HB3.out.size)⟩
end
end Go.Proofs.YthoildbfghfhpaaGreat
