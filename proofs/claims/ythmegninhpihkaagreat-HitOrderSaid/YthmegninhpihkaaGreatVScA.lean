import Derived.RowKit
import Derived.Test.YthmegninhpihkaaGreatProg
import Derived.WalkKit
import Derived.Below
import Derived.Lib.Hide
import Derived.Deep.Draws
import Derived.Laws.OwnMore
import Derived.Laws.Rows
import Derived.Maps.AppendAt
import Derived.Laws.MakeOwn
import Derived.Laws.NewBlocks
import Derived.Orders
import Derived.RowKit3
import Derived.Deep.MidRow
import Derived.RangeFuncRecord
import Derived.RangeFuncCalls
import Derived.OrdersIn
import Derived.LoopNIn
import Derived.TacticsIn
set_option maxHeartbeats 16000000
set_option maxRecDepth 100000
namespace Go.RowKit
theorem Hid.o{p:Prop}(h:Hid p):p:=h
end Go.RowKit
namespace Go.Proofs.YthmegninhpihkaaGreat
open Go.RowKit
abbrev bz(w v:World):Prop:=Below w.heap.size w v
theorem aC{α:Sort _}(a:α):∃x,a=x:=⟨a,rfl⟩
theorem ag{α:Sort _}{a b:α}(h:a=b:=by kernel_rfl):a=b:=h
abbrev aZ(v:Value)(w:World):Ending→World→Prop:=fun e x=>e=.returned v∧bz w x
abbrev Va  : List Value:=[.int .i64 0,.int .i64 0,.int .i64 0,.int .i64 0,.int .i64 0,.int .i64 0,.int .i64 0,.bool false,.bool false,.int .i64 0,.int .i64 0,.int .i64 0,.int .i64 0,.int .i64 0,.int .i64 0,.int .i64 0,.int .u32 0,.int .i64 0,.int .i64 0,.slice none 0 0]
abbrev Vb(x0:Int)(x1:Int)(x2:Int)(x3:Option Addr)(x4:Nat)(x5:Nat)(x6:Nat):List Value:=[.int .i64 x0,.int .i64 x1,.int .i64 x2,.slice x3 x4 x5,.map (some x6)]
abbrev Vc(x0:Int)(x1:Int)(x2:Int)(x3:Int)(x4:Int)(x5:Int)(x6:Int)(x7:Bool)(x8:Bool)(x9:Int)(x10:Int)(x11:Int)(x12:Int)(x13:Int)(x14:Int)(x15:Int)(x16:Nat)(x17:Int)(x18:Int)(x19:Option Addr)(x20:Nat)(x21:Nat):List Value:=[.int .i64 x0,.int .i64 x1,.int .i64 x2,.int .i64 x3,.int .i64 x4,.int .i64 x5,.int .i64 x6,.bool x7,.bool x8,.int .i64 x9,.int .i64 x10,.int .i64 x11,.int .i64 x12,.int .i64 x13,.int .i64 x14,.int .i64 x15,.int .u32 (x16:Nat),.int .i64 x17,.int .i64 x18,.slice x19 x20 x21]
abbrev Vd  : List Value:=[.int .i64 0,.int .i64 0,.int .i64 0,.int .i64 0,.int .i64 0,.int .i64 0]
abbrev Ve  : List Value:=[.int .i64 0,.int .i64 0,.int .i64 0,.int .i64 0,.int .i64 0,.int .i64 0,.int .i64 0,.int .i64 0,.int .i64 0,.int .i64 0,.bool false,.bool false,.int .i64 0,.int .i64 0,.int .i64 0,.int .i64 0,.int .i64 0,.int .i64 0,.int .i64 0,.int .u32 0,.int .i64 0,.int .i64 0,.slice none 0 0,.int .i64 0,.int .i64 0,.int .i64 0,.int .i64 0,.int .i64 0,.int .i64 0]
abbrev Vf  : List Value:=[.int .i64 0,.int .i64 0,.int .i64 0,.slice none 0 0,.map none]
abbrev Vg  : List Value:=[.int .i64 0,.int .i64 0,.int .i64 0,.int .i64 0,.int .i64 0,.int .i64 0,.int .i64 0,.int .i64 0,.int .i64 0,.int .i64 0,.int .i64 0,.int .i64 0,.int .i64 0,.int .i64 0,.bool false,.int .i64 0,.int .i64 0,.int .i64 0,.int .i64 0,.int .u32 0,.int .i64 0,.int .i64 0,.slice none 0 0]
abbrev Vh(x0:Int)(x1:Int)(x2:Int)(x3:Int)(x4:Int)(x5:Int):List Value:=[.int .i64 x0,.int .i64 x1,.int .i64 x2,.int .i64 x3,.int .i64 x4,.int .i64 x5]
abbrev Vi  : List Value:=[.int .i64 0,.int .i64 0,.int .i64 0,.int .i64 0,.int .i64 0,.int .i64 0,.int .i64 0,.bool false,.bool false,.int .i64 0,.int .i64 0,.int .i64 0,.int .i64 0,.int .i64 0,.int .i64 0,.int .i64 0,.int .u32 0,.int .i64 0,.int .i64 0,.slice none 0 0,.int .i64 0,.int .i64 0,.int .i64 0,.int .i64 0,.int .i64 0,.int .i64 0]
abbrev Vj(x0:Int)(x1:Int)(x2:Int)(x3:Nat)(x4:Int)(x5:Int)(x6:Option Addr)(x7:Nat)(x8:Nat):List Value:=[.int .i64 x0,.int .i64 x1,.int .i64 x2,.int .u32 (x3:Nat),.int .i64 x4,.int .i64 x5,.slice x6 x7 x8]
abbrev Vk  : List Value:=[.int .i64 0,.int .i64 0,.int .i64 0,.int .i64 0,.int .i64 0,.int .i64 0,.int .i64 0,.int .i64 0,.int .i64 0,.int .i64 0,.int .i64 0,.bool false,.bool false,.int .i64 0,.int .i64 0,.int .i64 0,.int .i64 0,.int .i64 0,.int .i64 0,.int .i64 0,.int .u32 0,.int .i64 0,.int .i64 0,.slice none 0 0]
abbrev Vl(x0:Int)(x1:Int)(x2:Int)(x3:Int):List Value:=[.int .i64 x0,.int .i64 x1,.int .i64 x2,.int .i64 x3]
abbrev Vm  : List Value:=[.int .i64 0,.int .i64 0,.int .i64 0,.int .i64 0,.int .i64 0,.int .i64 0,.int .i64 0,.int .i64 0,.int .i64 0,.int .i64 0,.int .i64 0,.int .i64 0,.int .i64 0,.slice none 0 0,.int .i64 0,.int .i64 0,.int .i64 0,.int .i64 0,.int .u32 0,.int .i64 0,.int .i64 0,.slice none 0 0]
abbrev Vn(x0:Int)(x1:Int)(x2:Option Addr)(x3:Nat)(x4:Nat):List Value:=[.int .i64 x0,.int .i64 x1,.slice x2 x3 x4]
abbrev Vo  : List Value:=[.int .i64 0,.int .i64 0,.int .i64 0,.int .u32 0,.int .i64 0,.int .i64 0,.slice none 0 0]
abbrev Vp(x0:Int)(x1:Int)(x2:Int)(x3:Int):List Value:=[.int .i64 x0,.int .i64 x1,.int .i64 x2,.int .i64 x3,.int .i64 0,.int .i64 0]
abbrev Vq(x0:Int)(x1:Int)(x2:Int):List Value:=[.int .i64 x0,.int .i64 x1,.int .i64 x2]
abbrev Vr  : List Value:=[.int .i64 0,.int .i64 0,.int .i64 0,.int .i64 0]
abbrev Vs(x0:Nat)(x1:Int)(x2:Int)(x3:Int):List Value:=[.pointer (some ⟨x0,0,none⟩),.int .i64 x1,.int .i64 x2,.int .i64 x3]
abbrev Vt(x0:Nat)(x1:Nat)(x2:Nat):List Value:=[.pointer (some ⟨x0,0,none⟩),.pointer (some ⟨x1,0,none⟩),.pointer (some ⟨x2,0,none⟩)]
abbrev Vu  : List Value:=[.int .i64 0,.int .i64 0,.slice none 0 0]
abbrev Vv  : List Value:=[.int .i64 0,.int .i64 0,.bool false]
end Go.Proofs.YthmegninhpihkaaGreat
namespace Go.Proofs.YthmegninhpihkaaGreat
open Go.RowKit
theorem Hd{p:Prop}(h:p):Hid p:=h
theorem rq{t:Array Value}{i:Nat}{u v:Value}(h:t.getD i u=v):t[i]?.getD u=v:=by rw[←Array.getD_eq_getD_getElem?]; exact h
theorem bR{n:Nat}{w:World} : Below n w w:=Below.refl _ _
theorem nR{n:Nat} : n ≤ n:=Nat.le_refl _
theorem nE{m n:Nat}(h:Nat.ble m n=true):m ≤ n:=Nat.le_of_ble_eq_true h
end Go.Proofs.YthmegninhpihkaaGreat
namespace Go.Proofs.YthmegninhpihkaaGreat.omap
section
variable {κ α:Type}[DecidableEq κ]
structure Ord(lt:κ→κ→Bool):Prop where
 irr:∀a,lt a a=false
 tr:∀a b c,lt a b=true→lt b c=true→lt a c=true
 tot:∀a b,lt a b=false→lt b a=false→a=b
omit [DecidableEq κ] in
theorem Ord.ne{lt:κ→κ→Bool}(o:Ord lt){a b:κ}(h:lt a b=true):a≠b:=fun e=>by
 subst e
 rw[o.irr]at h
 cases h
def mP(lt:κ→κ→Bool)(l:List (κ×α)):Prop:=l.Pairwise fun x y=>lt x.1 y.1=true
def look(l:List (κ×α))(k:κ):Option α:=(l.find? fun x=>decide (x.1=k)).map (·.2)
def del(k:κ)(l:List (κ×α)):List (κ×α):=l.filter fun x=>decide (x.1≠k)
def ins(lt:κ→κ→Bool)(k:κ)(v:α):List (κ×α)→List (κ×α)
 |[]=>[(k,v)]
 |x :: l=>if lt k x.1=true then (k,v) :: x :: l else x :: ins lt k v l
def put(lt:κ→κ→Bool)(k:κ)(v:α)(l:List (κ×α)):List (κ×α):=ins lt k v (del k l)
theorem look_nil(k:κ):look ([]:List (κ×α)) k=none:=rfl
theorem dS(x:κ×α)(l:List (κ×α))(k:κ):look (x :: l) k=if x.1=k then some x.2 else look l k:=by
 unfold look
 rw[List.find?_cons]
 by_cases h:x.1=k <;> simp[h]
theorem fB{l:List (κ×α)}{k:κ}:look l k=none↔∀x∈l,x.1≠k:=by
 induction l with
 |nil=>simp[look_nil]
 |cons x l ih=>
  rw[dS]
  by_cases h:x.1=k
  ·simp[h]
  ·simp[h,ih]
theorem SI{l:List (κ×α)}{k:κ}{v:α}(h:look l k=some v):(k,v)∈l:=by
 induction l with
 |nil=>cases h
 |cons x l ih=>
  rw[dS]at h
  by_cases hx:x.1=k
  ·rw[if_pos hx]at h
   obtain⟨x1,x2⟩:=x
   simp only at hx h
   subst hx
   rw[←Option.some.inj h]
   exact List.mem_cons_self
  ·rw[if_neg hx]at h
   exact List.mem_cons_of_mem _ (ih h)
variable {lt:κ→κ→Bool}
theorem mP.xh(o:Ord lt){l:List (κ×α)}(h:mP lt l){x:κ×α}(hx:x∈l):look l x.1=some x.2:=by
 induction l with
 |nil=>cases hx
 |cons y l ih=>
  obtain⟨h1,h2⟩:=List.pairwise_cons.1 h
  rw[dS]
  rcases List.mem_cons.1 hx with rfl|hx
  ·simp
  ·rw[if_neg (o.ne (h1 x hx))]
   exact ih h2 hx
theorem kS{k:κ}{l:List (κ×α)}{x:κ×α}:x∈del k l↔x∈l∧x.1≠k:=by simp[del]
theorem vg{k:κ}{l:List (κ×α)}(h:mP lt l):mP lt (del k l):=h.filter _
theorem tX(k j:κ)(l:List (κ×α)):look (del k l) j=if j=k then none else look l j:=by
 induction l with
 |nil=>simp[del,look_nil]
 |cons x l ih=>
  unfold del at ih ⊢
  rw[List.filter_cons]
  by_cases hx:x.1=k
  ·rw[if_neg (by simp[hx]),ih,dS]
   by_cases hj:j=k
   ·simp[hj]
   ·rw[if_neg hj,if_neg hj,if_neg (fun e=>hj (by rw[←e,hx]))]
  ·rw[if_pos (by simp[hx]),dS,ih,dS]
   by_cases hj:j=k
   ·rw[if_pos hj,if_pos hj,if_neg (fun e=>hx (by rw[e,hj]))]
   ·rw[if_neg hj,if_neg hj]
omit [DecidableEq κ] in
theorem WY{k:κ}{v:α}{l:List (κ×α)}{x:κ×α}:x∈ins lt k v l↔x=(k,v)∨x∈l:=by
 induction l with
 |nil=>simp[ins]
 |cons y l ih=>
  unfold ins
  split
  ·simp
  ·simp only[List.mem_cons,ih]
   constructor
   ·rintro(h|h|h)
    ·exact .inr (.inl h)
    ·exact .inl h
    ·exact .inr (.inr h)
   ·rintro(h|h|h)
    ·exact .inr (.inl h)
    ·exact .inl h
    ·exact .inr (.inr h)
omit [DecidableEq κ] in
theorem Ot(o:Ord lt){k:κ}{v:α}{l:List (κ×α)}(h:mP lt l)(hk:∀x∈l,x.1≠k):mP lt (ins lt k v l):=by
 induction l with
 |nil=>exact List.pairwise_singleton _ _
 |cons y l ih=>
  obtain⟨h1,h2⟩:=List.pairwise_cons.1 h
  unfold ins
  split
  ·rename_i hlt
   refine List.pairwise_cons.2 ⟨fun x hx=>?_,h⟩
   rcases List.mem_cons.1 hx with rfl|hx
   ·exact hlt
   ·exact o.tr _ _ _ hlt (h1 x hx)
  ·rename_i hlt
   refine List.pairwise_cons.2 ⟨fun x hx=>?_,ih h2 (fun x hx=>hk x (List.mem_cons_of_mem _ hx))⟩
   rcases WY.1 hx with rfl|hx
   ·cases hyk:lt y.1 k with
    |true=>rfl
    |false=>exact absurd (o.tot _ _ hyk (by simpa using hlt)) (hk y List.mem_cons_self)
   ·exact h1 x hx
theorem SK{k:κ}{v:α}{l:List (κ×α)}(hk:∀x∈l,x.1≠k)(j:κ):look (ins lt k v l) j=if j=k then some v else look l j:=by
 induction l with
 |nil=>
  unfold ins
  rw[dS,look_nil]
  by_cases h:j=k
  ·simp[h]
  ·rw[if_neg (fun e=>h e.symm),if_neg h]
 |cons y l ih=>
  have hy:=hk y List.mem_cons_self
  have hl:∀x∈l,x.1≠k:=fun x hx=>hk x (List.mem_cons_of_mem _ hx)
  unfold ins
  split
  ·rw[dS]
   by_cases h:j=k
   ·simp[h]
   ·rw[if_neg (fun e=>h e.symm),if_neg h]
  ·rw[dS,dS,ih hl]
   by_cases h:j=k
   ·subst h
    rw[if_neg hy,if_pos rfl,if_pos rfl]
   ·simp[h]
omit [DecidableEq κ] in
theorem zt(k:κ)(v:α)(l:List (κ×α)):(ins lt k v l).length=l.length + 1:=by
 induction l with
 |nil=>rfl
 |cons y l ih=>
  unfold ins
  split
  ·rfl
  ·simp[ih]
theorem y7(k:κ)(l:List (κ×α)):∀x∈del k l,x.1≠k:=fun _ hx=>(kS.1 hx).2
theorem CE(o:Ord lt){k:κ}{v:α}{l:List (κ×α)}(h:mP lt l):mP lt (put lt k v l):=Ot o (vg h) (y7 k l)
theorem dw(k:κ)(v:α)(l:List (κ×α))(j:κ):look (put lt k v l) j=if j=k then some v else look l j:=by
 unfold put
 rw[SK (y7 k l),tX]
 by_cases h:j=k <;> simp[h]
def total(f:κ×α→Nat)(l:List (κ×α)):Nat:=(l.map f).sum
omit [DecidableEq κ] in
end
end Go.Proofs.YthmegninhpihkaaGreat.omap
namespace Go.Proofs.YthmegninhpihkaaGreat
open Go.RowKit
def Row{α:Type}(enc:α→Value)(w:World)(A:Option Addr)(l:List α):Prop:=
 0 < l.length→∃b off,A=some ⟨b,off,none⟩∧∀j (h:j < l.length),w.cell? ⟨b,off + j,none⟩=some (enc l[j])
def e8(z:Nat):Value:=.int .u8 (z:Nat)
def eI(z:Int):Value:=.int .i64 z
def I64(n:Int):Prop:=-9223372036854775808≤n∧n≤9223372036854775807
section
variable {α:Type}{enc:α→Value}{w w':World}{A:Option Addr}{l:List α}
theorem Row.none_(h:l.length=0):Row enc w A l:=fun h'=>absurd h' (by omega)
theorem Row.below(h:Row enc w A l)(hb:bz w w'):Row enc w' A l:=fun hn=>by
 obtain⟨b,off,e,hc⟩:=h hn
 exact⟨b,off,e,fun j hj=>(hb.cell (World.block_lt_of_cell? w _ (hc j hj))).trans (hc j hj)⟩
theorem Row.alloc(h:Row enc w A l)(o:Obj):Row enc (w.alloc o) A l:=h.below (bR.alloc nR o)
theorem Row.take(h:Row enc w A l)(k:Nat):Row enc w A (l.take k):=fun hn=>by
 rw[List.length_take]at hn
 obtain⟨b,off,e,hc⟩:=h (by omega)
 refine⟨b,off,e,fun j hj=>?_⟩
 rw[List.length_take]at hj
 rw[List.getElem_take]
 exact hc j (by omega)
theorem Row.drop{b off:Nat}(h:Row enc w (some ⟨b,off,none⟩) l)(k:Nat):Row enc w (some ⟨b,off + k,none⟩) (l.drop k):=fun hn=>by
 rw[List.length_drop]at hn
 obtain⟨b',off',e,hc⟩:=h (by omega)
 simp only[Option.some.injEq,Addr.mk.injEq,and_true]at e
 obtain⟨rfl,rfl⟩:=e
 refine⟨b,off + k,rfl,fun j hj=>?_⟩
 rw[List.length_drop]at hj
 rw[List.getElem_drop,Nat.add_assoc]
 exact hc (k + j) (by omega)
theorem Row.at_(h:Row enc w A l){k:Nat}(hk:k < l.length):∃b off,A=some ⟨b,off,none⟩∧w.cell? ⟨b,off + k,none⟩=some (enc l[k]):=by
 obtain⟨b,off,e,hc⟩:=h (by omega)
 exact⟨b,off,e,hc k hk⟩
theorem DN(w:World)(l:List α)(T:TypeId):Row enc (w.alloc (.cells (l.map enc).toArray T)) (some ⟨w.heap.size,0,none⟩) l:=fun hn=>by
 refine⟨w.heap.size,0,rfl,fun j hj=>?_⟩
 rw[cell_of_row _ _ (0 + j) _ _ _ (heap_alloc_new w _)]
 simp[hj]
theorem jE(w:World)(l:List α)(T:TypeId){g:Nat}(hg:g=w.heap.size):Row enc (w.alloc (.cells (l.map enc).toArray T)) (some ⟨g,0,none⟩) l:=by
 subst hg
 exact DN w l T
end
def dP(w w':World):Prop:=∃n,w'=w.drewN n
theorem dP.refl(w:World):dP w w:=⟨0,rfl⟩
theorem dP.more{w w':World}(h:dP w w')(n:Nat):dP w (w'.drewN n):=by
 obtain⟨m,rfl⟩:=h
 exact⟨m + n,by simp⟩
theorem Below.drewN'{B:Nat}{a w:World}(h:Below B a w)(n:Nat):Below B a (w.drewN n):=h.trans ⟨rfl,rfl,rfl,nR,fun _ _=>rfl⟩
theorem dP.below{w w':World}(h:dP w w')(B:Nat):Below B w w':=by
 obtain⟨n,rfl⟩:=h
 exact Below.drewN' bR n
theorem aB{k:IntKind}{a b:Int}(h:a=b):Ending.returned (.int k a)=.returned (.int k b):=by rw[h]
theorem L9{k:IntKind}{a b c d:Int}(h:a=b)(h':c=d):Ending.returned (.tuple #[.int k a,.int k c])=.returned (.tuple #[.int k b,.int k d]):=by rw[h,h']
theorem aI{a b:Bool}(h:a=b):Ending.returned (.bool a)=.returned (.bool b):=by rw[h]
theorem mW{k:IntKind}{a b:Int}{c d:Bool}(h:a=b)(h':c=d):Ending.returned (.tuple #[.int k a,.bool c])=.returned (.tuple #[.int k b,.bool d]):=by rw[h,h']
theorem dP.trans{a b c:World}(h:dP a b)(k:dP b c):dP a c:=by
 obtain⟨m,rfl⟩:=k
 exact h.more m
end Go.Proofs.YthmegninhpihkaaGreat
namespace Go.Proofs.YthmegninhpihkaaGreat
open Go.RowKit
def az(w:World)(g:Nat)(cs:List Value):Prop:=∃T,w.heap[g]?=some (.cells cs.toArray T (0,0))
section
variable {w w':World}{g:Nat}{cs:List Value}
theorem az.inside(h:az w g cs):g < w.heap.size:=by
 obtain⟨T,h⟩:=h
 exact lt_of_block h
theorem az.cell(h:az w g cs)(i:Nat):w.cell? ⟨g,i,none⟩=cs[i]?:=by
 obtain⟨T,h⟩:=h
 rw[cell_of_row _ _ _ _ _ _ h]
 simp
theorem az.free(h:az w g cs)(i:Nat):w.frozen? ⟨g,i,none⟩=false:=by
 obtain⟨T,h⟩:=h
 exact frozen_of_row _ _ _ _ _ h
theorem az.stays(h:az w g cs)(hb:w'.heap[g]?=w.heap[g]?):az w' g cs:=by
 obtain⟨T,h⟩:=h
 exact⟨T,hb.trans h⟩
theorem az.below(h:az w g cs){B:Nat}(hb:Below B w w')(hB:g < B):az w' g cs:=h.stays (hb.block g hB)
theorem az.below'(h:az w g cs)(hb:bz w w'):az w' g cs:=h.below hb h.inside
theorem az.drew(h:az w g cs):az w.drew g cs:=h
theorem az.drewN(h:az w g cs)(n:Nat):az (w.drewN n) g cs:=h
theorem az.alloc(h:az w g cs)(o:Obj):az (w.alloc o) g cs:=h.stays (heap_alloc_old _ _ h.inside)
theorem az.set(h:az w g cs)(i:Nat)(u:Value):az (w.setCell ⟨g,i,none⟩ u) g (cs.set i u):=by
 have hlt:=h.inside
 obtain⟨T,h⟩:=h
 refine⟨T,?_⟩
 have h':w.heap[g]=.cells cs.toArray T (0,0):=by simpa[Array.getElem?_eq_getElem hlt]using h
 show(w.heap.modify g _)[g]?=_
 rw[Array.getElem?_eq_getElem (by simpa using hlt),Array.getElem_modify_self,h']
 simp
theorem az.other(h:az w g cs){g':Nat}(hg:g≠g')(i:Nat)(u:Value):az (w.setCell ⟨g',i,none⟩ u) g cs:=h.stays (heap_setCell_other _ _ _ _ hg)
end
theorem aA(w:World)(cs:List Value)(T:TypeId):az (w.alloc (.cells cs.toArray T)) w.heap.size cs:=⟨T,heap_alloc_new w _⟩
theorem aY(w:World)(g:Nat)(hg:g=w.heap.size)(cs:List Value)(T:TypeId):az (w.alloc (.cells cs.toArray T)) g cs:=hg ▸ aA w cs T
theorem az.c2{w:World}{g:Nat}{p q:Value}(h:az w g [p,q]):(w.cell? ⟨g,0,none⟩=some p∧w.cell? ⟨g,1,none⟩=some q)∧(w.frozen? ⟨g,0,none⟩=false∧w.frozen? ⟨g,1,none⟩=false)∧g < w.heap.size:=
 ⟨⟨h.cell 0,h.cell 1⟩,⟨h.free 0,h.free 1⟩,h.inside⟩
theorem az.c4{w:World}{g:Nat}{p q r s:Value}(h:az w g [p,q,r,s]):(w.cell? ⟨g,0,none⟩=some p∧w.cell? ⟨g,1,none⟩=some q∧w.cell? ⟨g,2,none⟩=some r∧w.cell? ⟨g,3,none⟩=some s) ∧
  (w.frozen? ⟨g,0,none⟩=false∧w.frozen? ⟨g,1,none⟩=false∧w.frozen? ⟨g,2,none⟩=false∧w.frozen? ⟨g,3,none⟩=false)∧g < w.heap.size:=
 ⟨⟨h.cell 0,h.cell 1,h.cell 2,h.cell 3⟩,⟨h.free 0,h.free 1,h.free 2,h.free 3⟩,h.inside⟩
theorem az.ZL{w:World}{g:Nat}{p q r s:Value}(h:az w g [p,q,r,s])(p' q' r' s':Value):az ((((w.setCell ⟨g,0,none⟩ p').setCell ⟨g,1,none⟩ q').setCell ⟨g,2,none⟩ r').setCell ⟨g,3,none⟩ s') g [p',q',r',s']:=
 (((h.set 0 p').set 1 q').set 2 r').set 3 s'
theorem Kt{w W:World}{B g:Nat}(h:Below B w W)(hg:B≤g)(p' q' r' s':Value):Below B w ((((W.setCell ⟨g,0,none⟩ p').setCell ⟨g,1,none⟩ q').setCell ⟨g,2,none⟩ r').setCell ⟨g,3,none⟩ s'):=
 (((h.setCell (p:=⟨g,0,none⟩) hg p').setCell (p:=⟨g,1,none⟩) hg q').setCell (p:=⟨g,2,none⟩) hg r').setCell (p:=⟨g,3,none⟩) hg s'
theorem dW{w W:World}{B g i:Nat}{v:Value}(h:Below B w W)(hg:B≤g):Below B w (W.setCell ⟨g,i,none⟩ v):=h.setCell (p:=⟨g,i,none⟩) hg v
theorem bJ{P:Program}{fn:Func}{p:Tmp}{ty:TypeId}{tmps:Array Value}{w:World}{g:Nat}{cs:List Value}{d:TypeDesc}{Q:Ending→World→Prop}(hfn:fn.results=#[.cell p ty])
  (hp:tmps.getD p undef=.pointer (some ⟨g,0,none⟩)) (hB:az w g cs) (hu:P.underlying ty=some d) (hd:(match d with|.struct _|.array _ _=>true|_=>false)=true) (hi:(P.info? ty).map (·.size)=some cs.length)
  (h:Q (.returned (.agg cs.toArray)) w):bodyPost P fn Q Exit.ret { tmps:=tmps,defers:=[] } w:=by
 obtain⟨T,hg⟩:=hB
 exact bodyPost_ret_by (results_cell_row hfn _ _ g T _ _ _ hp hg hu hd (by simpa using hi)) rfl h
def aV{α:Type}(k:Nat)(enc:α→List Value)(w:World)(A:Option Addr)(l:List α):Prop:=
 0 < l.length→∃b off,A=some ⟨b,off,none⟩∧∀j (h:j < l.length) i v,(enc l[j])[i]?=some v→w.cell? ⟨b,off + j * k + i,none⟩=some v
section
variable {α:Type}{k:Nat}{enc:α→List Value}{w w':World}{A:Option Addr}{l:List α}
theorem aV.none_(h:l.length=0):aV k enc w A l:=fun h'=>absurd h' (by omega)
theorem aV.below(h:aV k enc w A l)(hb:bz w w'):aV k enc w' A l:=fun hn=>by
 obtain⟨b,off,e,hc⟩:=h hn
 exact⟨b,off,e,fun j hj i v hi=>(hb.cell (p:=⟨b,_,none⟩) (World.block_lt_of_cell? w ⟨b,_,none⟩ (hc j hj i v hi))).trans (hc j hj i v hi)⟩
theorem aV.alloc(h:aV k enc w A l)(o:Obj):aV k enc (w.alloc o) A l:=h.below (bR.alloc nR o)
theorem qH(hk:∀x,(enc x).length=k):∀{l:List α} {j:Nat} (h:j < l.length) {i:Nat} {v:Value},(enc l[j])[i]?=some v→(l.flatMap enc)[j * k + i]?=some v
 |[],j,h,_,_,_=>by simp at h
 |x :: l,0,h,i,v,hv=>by
  rw[List.flatMap_cons,Nat.zero_mul,Nat.zero_add]
  exact(List.getElem?_append_left (by have:=(List.getElem?_eq_some_iff.1 hv).1; exact this)).trans hv
 |x :: l,j + 1,h,i,v,hv=>by
  have hj:j < l.length:=by simpa using h
  rw[List.flatMap_cons,List.getElem?_append_right (by rw[hk,Nat.add_mul]; omega),hk,show(j + 1) * k + i - k=j * k + i by rw[Nat.add_mul]; omega]
  exact qH hk hj hv
theorem zL(hk:∀x,(enc x).length=k)(l:List α):(l.flatMap enc).length=l.length * k:=by
 induction l with
 |nil=>simp
 |cons x l ih=>rw[List.flatMap_cons,List.length_append,ih,hk,List.length_cons,Nat.add_mul]; omega
theorem jA(hk:∀x,(enc x).length=k)(w:World)(l:List α)(T:TypeId){g:Nat}(hg:g=w.heap.size):aV k enc (w.alloc (.cells (l.flatMap enc).toArray T)) (some ⟨g,0,none⟩) l:=fun hn=>by
 subst hg
 refine⟨w.heap.size,0,rfl,fun j hj i v hv=>?_⟩
 rw[cell_of_row _ _ _ _ _ _ (heap_alloc_new w _),Nat.zero_add]
 simpa using qH hk hj hv
end
def ax{α:Type}(T:TypeId)(k:Nat)(enc:α→List Value)(w:World)(base:Nat)(v:Value)(l:List α):Prop:=w.ownsRow base T k v l.length (l.flatMap enc)
section
variable {α:Type}{T:TypeId}{k:Nat}{enc:α→List Value}{w w':World}{base:Nat}{v:Value}{l:List α}
theorem ax.nil(w:World)(base:Nat):ax T k enc w base (.slice none 0 0) ([]:List α):=World.ownsRow_nil w base T k
theorem ax.lit(hk:∀x,(enc x).length=k)(w:World)(l:List α)(hb:base≤w.heap.size)(hm:l.length≤maxLen):ax T k enc (w.alloc (.cells (l.flatMap enc).toArray T)) base (.slice (some ⟨w.heap.size,0,none⟩) l.length l.length) l:=by
 have:=World.ownsRow_lit (base:=base) (e:=T) (size:=k) w (l.flatMap enc).toArray l.length hb hm (by simp[zL hk])
 simpa[ax]using this
theorem ax.block(h:ax T k enc w base v l){g:Nat}(hg:v.ownBlock=some g):base≤g∧g < w.heap.size:=World.ownsRow.lt h g hg
theorem ax.stays(h:ax T k enc w base v l)(hb:∀g,v.ownBlock=some g→w'.heap[g]?=w.heap[g]?):ax T k enc w' base v l:=by
 refine⟨h.1,?_⟩
 rcases h.2 with hn|⟨g,cap,cur,rfl,hg,hbb,rest⟩
 ·exact .inl hn
 ·exact .inr ⟨g,cap,cur,rfl,hg,(hb g rfl).trans hbb,rest⟩
theorem ax.below(h:ax T k enc w base v l)(hb:bz w w'):ax T k enc w' base v l:=h.stays fun g hg=>hb.block g (h.block hg).2
theorem ax.weaken(h:ax T k enc w base v l){b:Nat}(hb:b≤base):ax T k enc w b v l:=by
 refine⟨h.1,?_⟩
 rcases h.2 with hn|⟨g,cap,cur,rfl,hg,rest⟩
 ·exact .inl hn
 ·exact .inr ⟨g,cap,cur,rfl,Nat.le_trans hb hg,rest⟩
theorem ax.row(h:ax T k enc w base v l)(hk:∀x,(enc x).length=k):∃A c,v=.slice A l.length c∧l.length≤c∧c≤maxLen∧aV k enc w A l:=by
 rcases h.2 with ⟨rfl,h0⟩|⟨g,cap,cur,rfl,hg,hb,hc,hm,rest⟩
 ·refine⟨none,0,by rw[h0],by omega,by unfold maxLen; omega,fun hn=>by omega⟩
 ·refine⟨some ⟨g,0,none⟩,cap,rfl,hc,hm,fun _=>⟨g,0,rfl,fun j hj i v hv=>?_⟩⟩
  have hcell:=World.ownsRow.cells h (g:=g) rfl
  have e:∀i,(⟨g,0,none⟩:Addr).add i=⟨g,0 + i,none⟩:=fun i=>by unfold Addr.add; split <;> simp_all
  have:=hcell _ _ (qH hk hj hv)
  rw[e]at this
  rw[Nat.add_assoc]
  exact this
theorem ax.app{P:Program}{ts:TypeId}{z:Value}{sG:Nat}(hu:P.underlying ts=some (.slice T))(JP:(P.info? T).map (fun i=>(i.zero,i.size,i.bytes))=some (some z,k,sG))(hz:z.cells.size=k)(hk0:0 < k)(hby:sG≤100000)
  (hk:∀x,(enc x).length=k) (hplain:∀x,∀u∈enc x,u.oneCell'=true)
  (h:ax T k enc w base v l) {xs:List α} {g o c:Nat} (hx:xs≠[]→aV k enc w (some ⟨g,o,none⟩) xs) (hn:l.length + xs.length≤1000000000) (hbase:base≤w.heap.size) :
  ∃v' w',(Builtin.append_ #[ts,ts] ts #[v,.slice (some ⟨g,o,none⟩) xs.length c]).run P w=.ok v' w'∧ax T k enc w' base v' (l++xs)∧w.grownBy w' v.ownBlock∧(v'.ownBlock=v.ownBlock∨v'.ownBlock=some w.heap.size):=by
 obtain⟨i,hi,hz',hsize,a3U⟩:∃i,P.info? T=some i∧i.zero=some z∧i.size=k∧i.bytes=sG:=by
  cases hI:P.info? T with
  |none=>rw[hI]at JP; cases JP
  |some i=>
   rw[hI]at JP
   simp only[Option.map_some,Option.some.injEq,Prod.mk.injEq]at JP
   exact⟨i,rfl,JP.1,JP.2.1,JP.2.2⟩
 have hadd:∀j,(⟨g,o,none⟩:Addr).add j=⟨g,o + j,none⟩:=fun j=>by unfold Addr.add; split <;> simp_all
 have hb2:(l.length + xs.length) * sG≤1000000000 * 100000:=Nat.mul_le_mul hn hby
 obtain⟨v',w',hrun,ho,hg,-,hat⟩:=run_append_own_at (P:=P) w base ts ts T i _ k sG hu hi hz' hsize a3U hz hk0 v l.length _ h ⟨g,o,none⟩ xs.length c
  (xs.flatMap enc) (zL hk xs) (by
   intro j u hj
   rw[hadd]
   have hlen:=zL hk xs
   have hjl:=(List.getElem?_eq_some_iff.1 hj).1
   rw[hlen]at hjl
   have hq:j / k < xs.length:=by rw[Nat.div_lt_iff_lt_mul hk0]; exact hjl
   have hr:j % k < k:=Nat.mod_lt _ hk0
   have hne:xs≠[]:=by rintro rfl; simp at hq
   obtain⟨b,off,e,hc⟩:=hx hne (List.length_pos_iff.2 hne)
   simp only[Option.some.injEq,Addr.mk.injEq,and_true]at e
   obtain⟨rfl,rfl⟩:=e
   obtain⟨y,hy⟩:∃y,(enc xs[j / k])[j % k]?=some y:=⟨(enc xs[j / k])[j % k]'(by rw[hk]; exact hr),List.getElem?_eq_getElem (by rw[hk]; exact hr)⟩
   have h1:=qH hk hq hy
   have hjk:j / k * k + j % k=j:=by rw[Nat.mul_comm]; exact Nat.div_add_mod j k
   rw[hjk,hj]at h1
   obtain rfl:=Option.some.inj h1
   have h2:=hc _ hq _ _ hy
   rw[Nat.add_assoc,hjk]at h2
   exact h2) (by
   intro u hu
   obtain⟨x,_,hx⟩:=List.mem_flatMap.1 hu
   exact hplain x u hx) (by unfold maxLen; omega) (by omega) hbase
 refine⟨v',w',hrun,?_,hg,hat⟩
 unfold ax
 rw[List.length_append,List.flatMap_append]
 exact ho
end
theorem aV.DZ{α:Type}{k:Nat}{enc:α→List Value}{w:World}{g o:Nat}{x:α}(h:∀i v,(enc x)[i]?=some v→w.cell? ⟨g,o + i,none⟩=some v):aV k enc w (some ⟨g,o,none⟩) [x]:=fun _=>
 ⟨g,o,rfl,fun j hj i v hv=>by
  have:j=0:=by simpa using hj
  subst this
  rw[Nat.zero_mul,Nat.add_zero]
  exact h i v hv⟩
theorem bG{P:Program}{ops:Array Oper}{rest:List Oper}{o:Oper}{a:Act}{Q:Exit→Act→World→Prop}{w:World}(hgd:Region.wanted o (yielded ops a.tmps)=true)(s x:Operand)(t t2 ty:TypeId)
  (ho:o.op=.call { callee:=.builtin .append,args:=#[s,x],argTypes:=#[t,t2] }) (hty:o.type=ty) (sv xv v':Value) (w':World) (hs:a.eval s=sv) (hx:a.eval x=xv)
  (hrun:(Builtin.append_ #[t,t2] ty #[sv,xv]).run P w=.ok v' w') (h:wpList P ops Q rest (a.put o.dst v') w'):wpList P ops Q (o :: rest) a w:=by
 subst hty
 unfold wpList
 rw[if_pos hgd]
 refine .inl ?_
 unfold Oper.wp execOp
 simp only[ho,resolve,invoke,builtin,Sem.run_bind,Sem.run_pure,Result.andThen_ok,List.map_toArray,List.map_cons,List.map_nil,hs,hx,hrun]
 exact h
end Go.Proofs.YthmegninhpihkaaGreat
namespace Go.Proofs.YthmegninhpihkaaGreat
namespace fG
structure P4 where
 r:Nat
 g:Nat
 b:Nat
 a:Nat
def sG(x q:Nat):Nat:=(x * q + 127) / 255
def P4.num(p:P4):Nat:=p.a + 256 * p.b + 65536 * p.g + 16777216 * p.r
def P4.Bytes(p:P4):Prop:=p.r < 256∧p.g < 256∧p.b < 256∧p.a < 256
def P4.Right(p:P4):Prop:=p.r≤p.a∧p.g≤p.a∧p.b≤p.a∧p.a≤255
def P4.bY(p:P4):Bool:=decide (p.r≤p.a) && (decide (p.g≤p.a) && (decide (p.b≤p.a) && decide (p.a≤255)))
theorem P4.Jk{p:P4}:p.bY=true↔p.Right:=by
 unfold P4.bY P4.Right
 simp only[Bool.and_eq_true,decide_eq_true_eq]
def BF(n:Nat):P4:=⟨n / 16777216,n / 65536 % 256,n / 256 % 256,n % 256⟩
def P4.times(p:P4)(q:Nat):P4:=⟨sG p.r q,sG p.g q,sG p.b q,sG p.a q⟩
def zero:P4:=⟨0,0,0,0⟩
def P4.at_(p:P4):Nat→Nat
 |0=>p.a
 |1=>p.b
 |2=>p.g
 |_=>p.r
theorem P4.Right.bytes{p:P4}(h:p.Right):p.Bytes:=by
 obtain⟨h1,h2,h3,h4⟩:=h
 exact⟨by omega,by omega,by omega,by omega⟩
theorem P4.Bytes.lt{p:P4}(h:p.Bytes):p.num < 4294967296:=by
 obtain⟨h1,h2,h3,h4⟩:=h
 unfold P4.num
 omega
theorem P4.Bytes.at_{p:P4}(h:p.Bytes)(k:Nat):p.at_ k < 256:=by
 obtain⟨h1,h2,h3,h4⟩:=h
 match k with
 |0=>exact h4
 |1=>exact h3
 |2=>exact h2
 |_ + 3=>exact h1
theorem Dc{n:Nat}(h:n < 4294967296):(BF n).Bytes:=by
 unfold BF P4.Bytes
 simp only
 omega
theorem WR{n:Nat}:(BF n).num=n:=by
 unfold BF P4.num
 simp only
 omega
theorem a0z(x:Nat):sG x 255=x:=by unfold sG; omega
theorem XC(x q:Nat):sG x q=sG q x:=by unfold sG; rw[Nat.mul_comm]
theorem yw{x y:Nat}(h:x≤y)(q:Nat):sG x q≤sG y q:=by
 unfold sG
 exact Nat.div_le_div_right (Nat.add_le_add_right (Nat.mul_le_mul_right q h) 127)
theorem Y6{x:Nat}(h:x≤255)(q:Nat):sG x q≤q:=by
 have h1:=yw h q
 rw[XC 255 q,a0z]at h1
 exact h1
theorem mul_lt{x q:Nat}(hx:x < 256)(hq:q < 256):x * q≤65025:=Nat.mul_le_mul (show x≤255 by omega) (show q≤255 by omega)
theorem a2l{x q:Nat}(hx:x < 256)(hq:q < 256):sG x q < 256:=by
 have:=Y6 (show x≤255 by omega) q
 omega
theorem P4.Right.times{p:P4}(h:p.Right){q:Nat}(hq:q < 256):(p.times q).Right:=by
 obtain⟨h1,h2,h3,h4⟩:=h
 exact⟨yw h1 q,yw h2 q,yw h3 q,by have:=Y6 h4 q; show sG p.a q≤255; omega⟩
def MB(f:Nat→Nat):Nat→Nat
 |0=>0
 |k + 1=>MB f k + f k * 256 ^ k
end fG
end Go.Proofs.YthmegninhpihkaaGreat
namespace Go.Proofs.YthmegninhpihkaaGreat.regs
open Go.RowKit
section
variable {P:Program}{ops:Array Oper}{Q:Exit→Act→World→Prop}
def upd(L:Nat→Bool)(i:Nat):Nat→Bool:=fun k=>Nat.beq k i || L k
structure Inv(R:World→World→Prop)(J:(Nat→Bool)→World→Prop)(ops:Array Oper)(a0:Act)(w0:World)(F:Nat→Value→World→Prop)(listed:Array Bool)(a:Act)(w:World):Prop where
 size:listed.size=ops.size
 tmps:a.tmps.size=a0.tmps.size
 defers:a.defers=a0.defers
 rel:R w0 w
 st:J (fun k=>listed.getD k false) w
 old:∀s,(∀o∈ops.toList,o.dst≠some s)→a.tmps.getD s undef=a0.tmps.getD s undef
 facts:∀(k:Nat) (o:Oper) (d:Tmp),ops[k]?=some o→o.dst=some d→listed.getD k false=true→F k (a.tmps.getD d undef) w
def bC(R:World→World→Prop)(J:(Nat→Bool)→World→Prop)(P:Program)(ops:Array Oper)(Q:Exit→Act→World→Prop)(a0:Act)(w0:World)(F:Nat→Value→World→Prop)(i:Nat)(o:Oper):Prop:=
 ∀(L:Nat→Bool) (a:Act) (w:World),a.defers=a0.defers→R w0 w→J L w→L i=false→(∀s,(∀o∈ops.toList,o.dst≠some s)→a.tmps.getD s undef=a0.tmps.getD s undef) →
  (∀e∈o.after,Region.binds .any e=true→L e.on=true) →
  (∀e∈o.after,Region.binds .any e=true→∀(ok:Oper) (d:Tmp),ops[e.on]?=some ok→ok.dst=some d→F e.on (a.tmps.getD d undef) w) →
  if Region.wanted o (yielded ops a.tmps)=true then o.wp P a w (fun a' w'=>∃v,a'=a.put o.dst v∧R w w'∧F i v w'∧J (upd L i) w') Q else F i undef w∧J (upd L i) w
def dF(R:World→World→Prop)(J:(Nat→Bool)→World→Prop)(P:Program)(ops:Array Oper)(Q:Exit→Act→World→Prop)(a0:Act)(w0:World)(F:Nat→Value→World→Prop):Nat→List Oper→Prop
 |_,[]=>True
 |i,o :: l=>bC R J P ops Q a0 w0 F i o∧dF R J P ops Q a0 w0 F (i + 1) l
theorem dF.at_{R:World→World→Prop}{J:(Nat→Bool)→World→Prop}{a0:Act}{w0:World}{F:Nat→Value→World→Prop}:∀{l:List Oper} {n:Nat},dF R J P ops Q a0 w0 F n l→∀(i:Nat) (o:Oper),l[i]?=some o→bC R J P ops Q a0 w0 F (n + i) o
 |[],_,_,i,o,h=>by simp at h
 |x :: l,n,hs,i,o,h=>by
  cases i with
  |zero=>
   simp only[List.getElem?_cons_zero,Option.some.injEq]at h
   subst h
   exact hs.1
  |succ i=>
   have:=hs.2.at_ i o (by simpa using h)
   rw[show n + (i + 1)=n + 1 + i by omega]
   exact this
def chk(ops:List Oper)(size:Nat):Bool:=
 (ops.zipIdx.all fun p=>p.1.after.all fun e=>!Region.binds .any e || decide (e.on < p.2)) && decide ((ops.filterMap (·.dst)).Nodup) && (ops.all fun o=>match o.dst with|some d=>decide (d < size)|none=>true)
theorem y8:∀{l:List Oper} (_:(l.filterMap (·.dst)).Nodup) {i j:Nat} {x y:Oper} {d:Tmp},l[i]?=some x→l[j]?=some y→x.dst=some d→y.dst=some d→i=j
 |[],_,i,j,x,y,d,hi,_,_,_=>by simp at hi
 |o :: l,h,i,j,x,y,d,hi,hj,hx,hy=>by
  have mem:∀{k:Nat} {z:Oper},l[k]?=some z→z.dst=some d→d∈l.filterMap (·.dst):=fun hk hz=>List.mem_filterMap.2 ⟨_,List.mem_of_getElem? hk,hz⟩
  have hl:(l.filterMap (·.dst)).Nodup:=by
   rw[List.filterMap_cons]at h
   split at h
   ·exact h
   ·exact(List.nodup_cons.1 h).2
  have hno:o.dst=some d→d∉l.filterMap (·.dst):=fun ho=>by
   rw[List.filterMap_cons,ho]at h
   exact(List.nodup_cons.1 h).1
  cases i with
  |zero=>
   simp only[List.getElem?_cons_zero,Option.some.injEq]at hi
   subst hi
   cases j with
   |zero=>rfl
   |succ j=>exact absurd (mem (by simpa using hj) hy) (hno hx)
  |succ i=>
   cases j with
   |zero=>
    simp only[List.getElem?_cons_zero,Option.some.injEq]at hj
    subst hj
    exact absurd (mem (by simpa using hi) hx) (hno hy)
   |succ j=>exact congrArg (· + 1) (y8 hl (by simpa using hi) (by simpa using hj) hx hy)
theorem jY(t:Array Value)(d:Nat)(v:Value)(h:d < t.size):(t.setIfInBounds d v).getD d undef=v:=by
 simp[Array.getD_eq_getD_getElem?,h]
theorem getD_set_ne(t:Array Value)(d s:Nat)(v:Value)(h:d≠s):(t.setIfInBounds d v).getD s undef=t.getD s undef:=by
 simp[Array.getD_eq_getD_getElem?,h]
theorem oq{a:Act}{j:Nat}{o:Oper}{d:Tmp}{b:Bool}(ho:ops[j]?=some o)(hd:o.dst=some d)(h:a.tmps.getD d undef=.bool b):yielded ops a.tmps j=some b:=by
 have:a.tmps[d]?=some (.bool b):=by
  rw[Array.getD_eq_getD_getElem?]at h
  cases hx:a.tmps[d]? with
  |none=>rw[hx]at h; simp[undef]at h
  |some x=>rw[hx]at h; simpa using h
 simp[yielded,ho,hd,this]
variable {R:World→World→Prop}{J:(Nat→Bool)→World→Prop}{a0:Act}{w0:World}{F:Nat→Value→World→Prop}
theorem LP{listed:Array Bool}{i:Nat}(hi:i < listed.size):(fun k=>(listed.setIfInBounds i true).getD k false)=upd (fun k=>listed.getD k false) i:=by
 funext k
 unfold upd
 by_cases h:i=k
 ·subst h
  simp[Array.getD_eq_getD_getElem?,hi]
 ·have:Nat.beq k i=false:=by
   cases hb:Nat.beq k i with
   |false=>rfl
   |true=>exact absurd (Nat.eq_of_beq_eq_true hb).symm h
  rw[this]
  simp[Array.getD_eq_getD_getElem?,h]
theorem Inv.step(hT:∀a b c,R a b→R b c→R a c)(hmono:∀k v w w',F k v w→R w w'→F k v w')(hnd:(ops.toList.filterMap (·.dst)).Nodup)(hin:∀o∈ops.toList,∀d,o.dst=some d→d < a0.tmps.size)
  {listed:Array Bool} {a:Act} {w w':World} (h:Inv R J ops a0 w0 F listed a w) {i:Nat} {o:Oper} (ho:ops[i]?=some o) {v:Value} (hb:R w w') (hF:F i v w') (hJ:J (upd (fun k=>listed.getD k false) i) w') :
  Inv R J ops a0 w0 F (listed.setIfInBounds i true) (a.put o.dst v) w':=by
 have hmem:o∈ops.toList:=by
  rw[←Array.getElem?_toList]at ho
  exact List.mem_of_getElem? ho
 have hil:i < listed.size:=by
  rw[h.size]
  exact(Array.getElem?_eq_some_iff.1 ho).1
 refine⟨by simpa using h.size,?_,?_,hT _ _ _ h.rel hb,by rw[LP hil]; exact hJ,fun s hs=>?_,fun k ok d hk hd hl=>?_⟩
 ·unfold Act.put
  split <;> simp[h.tmps]
 ·unfold Act.put
  split <;> simp[h.defers]
 ·unfold Act.put
  split
  ·rename_i d hd
   simp only
   rw[getD_set_ne _ _ _ _ (fun e=>hs o hmem (by rw[hd,e]))]
   exact h.old s hs
  ·exact h.old s hs
 ·by_cases hik:i=k
  ·subst hik
   obtain rfl:o=ok:=Option.some.inj (ho.symm.trans hk)
   unfold Act.put
   rw[hd]
   simp only
   rw[jY _ _ _ (by rw[h.tmps]; exact hin o hmem d hd)]
   exact hF
  ·have hl':listed.getD k false=true:=by
    simpa[Array.getD_eq_getD_getElem?,Array.getElem?_setIfInBounds,hik]using hl
   have hf:=hmono _ _ _ _ (h.facts k ok d hk hd hl') hb
   unfold Act.put
   split
   ·rename_i d' hd'
    simp only
    rw[getD_set_ne _ _ _ _ (fun e=>hik (y8 hnd (by rw[Array.getElem?_toList]; exact ho) (by rw[Array.getElem?_toList]; exact hk) (by rw[hd',e]) hd))]
    exact hf
   ·exact hf
theorem fP{listed:Array Bool}(hsize:listed.size=ops.size)(hback:∀(i:Nat) (o:Oper),ops[i]?=some o→∀e∈o.after,Region.binds .any e=true→e.on < i)(hr:Region.ready .any ops listed=[]) :
  ∀i,i < ops.size→listed.getD i false=true:=by
 intro i
 induction i using Nat.strongRecOn with
 |_ i ih=>
  intro hi
  cases hl:listed.getD i false with
  |true=>rfl
  |false=>
   exfalso
   have hil:i < listed.size:=by omega
   have hl':listed.getD i true=false:=by
    simp[Array.getD_eq_getD_getElem?,hil]at hl ⊢
    exact hl
   have:i∈Region.ready .any ops listed:=by
    unfold Region.ready
    rw[List.mem_filter]
    refine⟨by simpa using hi,?_⟩
    have ho:ops[i]?=some ops[i]:=by simp[hi]
    rw[hl',ho]
    simp only[Bool.not_false,Bool.true_and,Option.map_some,Option.getD_some]
    rw[Array.all_eq_true_iff_forall_mem]
    intro e he
    cases hb:Region.binds .any e with
    |false=>simp
    |true=>
     have hlt:=hback i _ ho e he hb
     rw[ih e.on hlt (by omega)]
     simp
   rw[hr]at this
   cases this
theorem lU(hR:∀w,R w w)(hT:∀a b c,R a b→R b c→R a c)(hmono:∀k v w w',F k v w→R w w'→F k v w')(hnd:(ops.toList.filterMap (·.dst)).Nodup)(hin:∀o∈ops.toList,∀d,o.dst=some d→d < a0.tmps.size)
  (hback:∀(i:Nat) (o:Oper),ops[i]?=some o→∀e∈o.after,Region.binds .any e=true→e.on < i) (hs:∀(i:Nat) (o:Oper),ops[i]?=some o→bC R J P ops Q a0 w0 F i o)
  (hend:∀L a w,(∀i,i < ops.size→L i=true)→J L w→a.defers=a0.defers→a.tmps.size=a0.tmps.size→R w0 w→(∀s,(∀o∈ops.toList,o.dst≠some s)→a.tmps.getD s undef=a0.tmps.getD s undef) →
   (∀(k:Nat) (o:Oper) (d:Tmp),ops[k]?=some o→o.dst=some d→F k (a.tmps.getD d undef) w)→Q .normal a w) :
  ∀(fuel:Nat) (listed:Array Bool) (a:Act) (w:World),listed.toList.count false≤fuel→Inv R J ops a0 w0 F listed a w→wpAny P .any ops Q fuel listed a w:=by
 have stop:∀(listed:Array Bool) (a:Act) (w:World),Inv R J ops a0 w0 F listed a w→Region.ready .any ops listed=[]→Q .normal a w:=fun listed a w h hr=>
  hend _ a w (fP h.size hback hr) h.st h.defers h.tmps h.rel h.old fun k o d hk hd=>h.facts k o d hk hd (fP h.size hback hr k (by
   rcases Nat.lt_or_ge k ops.size with hlt|hge
   ·exact hlt
   ·rw[Array.getElem?_eq_none hge]at hk; cases hk))
 intro fuel
 induction fuel with
 |zero=>
  intro listed a w hc h
  have hr:Region.ready .any ops listed=[]:=by
   unfold Region.ready
   rw[List.filter_eq_nil_iff]
   intro i hi
   have hi':i < listed.size:=by rw[h.size]; simpa using hi
   have hno:false∉listed.toList:=List.count_eq_zero.1 (by omega)
   have:listed.getD i true=true:=by
    simp only[Array.getD_eq_getD_getElem?,Array.getElem?_eq_getElem hi',Option.getD_some]
    cases hb:listed[i]with
    |true=>rfl
    |false=>exact absurd (by rw[←hb]; exact Array.getElem_mem_toList hi') hno
   rw[this]
   simp
  exact⟨hr,stop listed a w h hr⟩
 |succ fuel ih=>
  intro listed a w hc h
  refine⟨stop listed a w h,fun i hi=>?_⟩
  unfold Region.ready at hi
  rw[List.mem_filter]at hi
  obtain⟨hi1,hi2⟩:=hi
  have hi':i < ops.size:=by simpa using hi1
  have hil:i < listed.size:=by rw[h.size]; exact hi'
  have ho:ops[i]?=some ops[i]:=by simp[hi']
  rw[ho]at hi2
  simp only[Option.map_some,Option.getD_some,Bool.and_eq_true,Bool.not_eq_true',Array.all_eq_true_iff_forall_mem,Bool.or_eq_true]at hi2
  obtain⟨hun,xq⟩:=hi2
  have hst:=hs i _ ho (fun k=>listed.getD k false) a w h.defers h.rel h.st (by
   simp only[Array.getD_eq_getD_getElem?,Array.getElem?_eq_getElem hil,Option.getD_some]at hun ⊢
   exact hun) h.old (fun e he hb=>by
   rcases xq e he with hx|hx
   ·rw[hb]at hx; cases hx
   ·exact hx) (fun e he hb ok d hok hd=>h.facts e.on ok d hok hd (by
   rcases xq e he with hx|hx
   ·rw[hb]at hx; cases hx
   ·exact hx))
  have hcnt:(listed.setIfInBounds i true).toList.count false≤fuel:=by
   have hf:listed.toList[i]'(by simpa using hil)=false:=by
    simp only[Array.getD_eq_getD_getElem?,Array.getElem?_eq_getElem hil,Option.getD_some]at hun
    simpa using hun
   rw[Array.toList_setIfInBounds,List.count_set (by simpa using hil),hf]
   show List.count false listed.toList - 1 + 0≤fuel
   omega
  unfold wpOp
  rw[ho]
  simp only
  split
  ·rename_i hw
   rw[if_pos hw]at hst
   refine .inl (Oper.wp_mono (fun a' w' hh=>?_) hst)
   obtain⟨v,rfl,hb,hF,hJ⟩:=hh
   exact ih _ _ _ hcnt (h.step hT hmono hnd hin ho hb hF hJ)
  ·rename_i hw
   rw[if_neg hw]at hst
   exact ih _ _ _ hcnt (h.step hT hmono hnd hin ho (hR _) hst.1 hst.2)
theorem gz{l:List Oper}{id:Nat}(hm:P.follows .mixedOrders=true)(hR:∀w,R w w)(hT:∀a b c,R a b→R b c→R a c)(F:Nat→Value→World→Prop)(hmono:∀k v w w',F k v w→R w w'→F k v w')(jI:chk l a0.tmps.size=true)
  (hD:R w0 w0.drew) (h0:J (fun _=>false) w0.drew) (hs:dF R J P l.toArray Q a0 w0 F 0 l)
  (hend:∀L a w,(∀i,i < l.length→L i=true)→J L w→a.defers=a0.defers→a.tmps.size=a0.tmps.size→R w0 w→(∀s,(∀o∈l,o.dst≠some s)→a.tmps.getD s undef=a0.tmps.getD s undef) →
   (∀(k:Nat) (o:Oper) (d:Tmp),l[k]?=some o→o.dst=some d→F k (a.tmps.getD d undef) w)→Q .normal a w) :
  (Code.region id l.toArray true).wp P Q a0 w0:=by
 unfold chk at jI
 simp only[Bool.and_eq_true,decide_eq_true_eq]at jI
 obtain⟨⟨h1,h2⟩,h3⟩:=jI
 have hback:∀(i:Nat) (o:Oper),l.toArray[i]?=some o→∀e∈o.after,Region.binds .any e=true→e.on < i:=by
  intro i o ho e he hb
  rw[List.all_eq_true]at h1
  have:=h1 (o,i) (List.mem_zipIdx_iff_getElem?.2 (by simpa using ho))
  rw[Array.all_eq_true_iff_forall_mem]at this
  have h5:=this e he
  rw[hb]at h5
  simpa using h5
 have hin:∀o∈l,∀d,o.dst=some d→d < a0.tmps.size:=by
  intro o ho d hd
  rw[List.all_eq_true]at h3
  have:=h3 o ho
  rw[hd]at this
  simpa using this
 refine wp_region_any hm (lU (R:=R) (J:=J) (F:=F) (a0:=a0) (w0:=w0) hR hT hmono h2 hin hback (fun i o ho=>?_) (fun L a w hL hJ h4 h5 h6 h7 h8=>hend L a w (by simpa using hL) hJ h4 h5 h6 h7 fun k o d hk hd=>h8 k o d (by simpa using hk) hd) _ _ _ _ ?_ ?_)
 ·have:=hs.at_ i o (by simpa using ho)
  rw[Nat.zero_add]at this
  exact this
 ·simp
 ·have hL:(fun k=>(Array.replicate l.toArray.size false).getD k false)=fun _=>false:=by
   funext k
   simp[Array.getD_eq_getD_getElem?,Array.getElem?_replicate]
   split <;> rfl
  refine⟨by simp,rfl,rfl,hD,by rw[hL]; exact h0,fun _ _=>rfl,fun k o d hk hd hl=>?_⟩
  exfalso
  simp[Array.getD_eq_getD_getElem?,Array.getElem?_replicate]at hl
  split at hl <;> simp at hl
def kept(l:List Oper)(s:Nat):Bool:=l.all fun o=>match o.dst with|some d=>d != s|none=>true
def dh(l:List Oper)(k:Nat):Option Nat:=(l[k]?).bind (·.dst)
def waits(o:Oper)(k:Nat):Bool:=o.after.any fun e=>e.on == k && Region.binds .any e
theorem nM{l:List Oper}{s:Nat}(h:kept l s=true):∀o∈l,o.dst≠some s:=by
 intro o ho hd
 unfold kept at h
 rw[List.all_eq_true]at h
 have:=h o ho
 rw[hd]at this
 simp at this
structure Hand(R:World→World→Prop)(J:(Nat→Bool)→World→Prop)(l:List Oper)(a0:Act)(w0:World)(F:Nat→Value→World→Prop)(i:Nat)(o:Oper)(L:Nat→Bool)(a:Act)(w:World):Prop where
 defers:a.defers=a0.defers
 rel:R w0 w
 st:J L w
 un:L i=false
 old:∀s,kept l s=true→a.tmps.getD s undef=a0.tmps.getD s undef
 up:∀k,waits o k=true→L k=true
 dep:∀k d,waits o k=true→dh l k=some d→F k (a.tmps.getD d undef) w
theorem bC.of{l:List Oper}{i:Nat}{o:Oper}
  (h:∀L a w,Hand R J l a0 w0 F i o L a w→if Region.wanted o (yielded l.toArray a.tmps)=true then o.wp P a w (fun a' w'=>∃v,a'=a.put o.dst v∧R w w'∧F i v w'∧J (upd L i) w') Q else F i undef w∧J (upd L i) w) :
  bC R J P l.toArray Q a0 w0 F i o:=fun L a w h1 h2 h3 h3u h4 h5 h6=>h L a w ⟨h1,h2,h3,h3u,fun s hs=>h4 s (by simpa using nM hs),fun k hw=>by
 unfold waits at hw
 rw[Array.any_eq_true']at hw
 obtain⟨e,he,hb⟩:=hw
 simp only[Bool.and_eq_true,beq_iff_eq]at hb
 obtain⟨hk,hb⟩:=hb
 subst hk
 exact h5 e he hb,fun k d hw hd=>by
 unfold waits at hw
 rw[Array.any_eq_true']at hw
 obtain⟨e,he,hb⟩:=hw
 simp only[Bool.and_eq_true,beq_iff_eq]at hb
 obtain⟨hk,hb⟩:=hb
 unfold dh at hd
 obtain⟨ok,ho,hd'⟩:=Option.bind_eq_some_iff.1 hd
 subst hk
 exact h6 e he hb ok d (by simpa using ho) hd'⟩
theorem bC.plain{l:List Oper}{i:Nat}{o:Oper}(hg:o.guard=none)(h:∀L a w,Hand R J l a0 w0 F i o L a w→o.wp P a w (fun a' w'=>∃v,a'=a.put o.dst v∧R w w'∧F i v w'∧J (upd L i) w') Q) :
  bC R J P l.toArray Q a0 w0 F i o:=bC.of fun L a w hh=>by
 rw[if_pos (by simp[Region.wanted,hg])]
 exact h L a w hh
theorem bC.yes{l:List Oper}{i:Nat}{o:Oper}(j:Nat)(b:Bool)(d:Tmp)(hg:o.guard=some (j,b))(hd:dh l j=some d)(hb:∀L a w,Hand R J l a0 w0 F i o L a w→a.tmps.getD d undef=.bool b)
  (h:∀L a w,Hand R J l a0 w0 F i o L a w→o.wp P a w (fun a' w'=>∃v,a'=a.put o.dst v∧R w w'∧F i v w'∧J (upd L i) w') Q):bC R J P l.toArray Q a0 w0 F i o:=bC.of fun L a w hh=>by
 unfold dh at hd
 obtain⟨oj,hj,hd⟩:=Option.bind_eq_some_iff.1 hd
 have:=oq (ops:=l.toArray) (by simpa using hj) hd (hb L a w hh)
 rw[if_pos (by simp[Region.wanted,hg,this])]
 exact h L a w hh
theorem bC.no{l:List Oper}{i:Nat}{o:Oper}(j:Nat)(b:Bool)(d:Tmp)(hg:o.guard=some (j,b))(hd:dh l j=some d)(hb:∀L a w,Hand R J l a0 w0 F i o L a w→a.tmps.getD d undef=.bool (!b))
  (h:∀L a w,Hand R J l a0 w0 F i o L a w→F i undef w∧J (upd L i) w):bC R J P l.toArray Q a0 w0 F i o:=bC.of fun L a w hh=>by
 unfold dh at hd
 obtain⟨oj,hj,hd⟩:=Option.bind_eq_some_iff.1 hd
 have:=oq (ops:=l.toArray) (by simpa using hj) hd (hb L a w hh)
 rw[if_neg (by simp[Region.wanted,hg,this])]
 exact h L a w hh
structure kW(R:World→World→Prop) where
 p:Value→World→Prop
 mono:∀v w w',p v w→R w w'→p v w'
def kW.val(R:World→World→Prop)(v0:Value):kW R:=⟨fun v _=>v=v0,fun _ _ _ h _=>h⟩
def kW.any(R:World→World→Prop):kW R:=⟨fun _ _=>True,fun _ _ _ h _=>h⟩
def kW.one(u:Value):kW (fun w w'=>bz w w'):=⟨fun v w=>∃g,v=.slice (some ⟨g,0,none⟩) 1 1∧w.cell? ⟨g,0,none⟩=some u,fun _ w _ h hb=>by
 obtain⟨g,hv,hc⟩:=h
 exact⟨g,hv,(hb.cell (World.block_lt_of_cell? w _ hc)).trans hc⟩⟩
def bl(w w':World):Prop:=bz w w'
theorem Ny(w:World):bl w w:=bR
theorem Um(a b c:World)(h:bl a b)(k:bl b c):bl a c:=Below.trans h (Below.mono k h.size)
theorem gV{l:List Oper}{id:Nat}(R:World→World→Prop)(J:(Nat→Bool)→World→Prop)(hm:P.follows .mixedOrders=true)(hR:∀w,R w w)(hT:∀a b c,R a b→R b c→R a c)(F:Nat→Value→World→Prop)(hmono:∀k v w w',F k v w→R w w'→F k v w')(jI:chk l a0.tmps.size=true)
  (hD:R w0 w0.drew) (h0:J (fun _=>false) w0.drew) (hs:dF R J P l.toArray Q a0 w0 F 0 l)
  (hend:∀L a w,(∀i,i < l.length→L i=true)→J L w→a.defers=a0.defers→a.tmps.size=a0.tmps.size→R w0 w→(∀s,kept l s=true→a.tmps.getD s undef=a0.tmps.getD s undef) →
   (∀k d,dh l k=some d→F k (a.tmps.getD d undef) w)→Q .normal a w) :
  (Code.region id l.toArray true).wp P Q a0 w0:=
 gz hm hR hT F hmono jI hD h0 hs fun L a w hL hJ h1 h2 h3 h4 h5=>hend L a w hL hJ h1 h2 h3 (fun s hs=>h4 s (nM hs)) fun k d hd=>by
  unfold dh at hd
  obtain⟨ok,ho,hd⟩:=Option.bind_eq_some_iff.1 hd
  exact h5 k ok d ho hd
def aG(a:Act):List (Tmp×Value)→Act
 |[]=>a
 |(d,v) :: r=>aG (a.put (some d) v) r
theorem yU(val:Tmp→Value):∀(ds:List Tmp) (a:Act),(aG a (ds.map fun d=>(d,val d))).tmps.size=a.tmps.size∧(aG a (ds.map fun d=>(d,val d))).defers=a.defers ∧
  ∀s,s < a.tmps.size→(aG a (ds.map fun d=>(d,val d))).tmps.getD s undef=if s∈ds then val s else a.tmps.getD s undef
 |[],a=>⟨rfl,rfl,fun s _=>by simp[aG]⟩
 |d :: ds,a=>by
  obtain⟨h1,h2,h3⟩:=yU val ds (a.put (some d) (val d))
  have hsz:(a.put (some d) (val d)).tmps.size=a.tmps.size:=by simp[Act.put]
  have hdf:(a.put (some d) (val d)).defers=a.defers:=rfl
  refine⟨h1.trans hsz,h2.trans hdf,fun s hs=>?_⟩
  have h4:=h3 s (by rw[hsz]; exact hs)
  show(aG (a.put (some d) (val d)) (ds.map fun d=>(d,val d))).tmps.getD s undef=_
  rw[h4]
  by_cases hm:s∈ds
  ·simp[hm]
  ·by_cases he:s=d
   ·subst he
    simp only[hm,if_false,List.mem_cons,true_or,if_true]
    exact jY _ _ _ hs
   ·simp only[hm,if_false,List.mem_cons,he,or_self]
    exact getD_set_ne _ _ _ _ (fun e=>he e.symm)
theorem vF{l:List Oper}{a a0:Act}(hsz:a.tmps.size=a0.tmps.size)(hdef:a.defers=a0.defers)(hold:∀s,kept l s=true→a.tmps.getD s undef=a0.tmps.getD s undef) :
  a=aG a0 ((l.filterMap (·.dst)).map fun d=>(d,a.tmps.getD d undef)):=by
 obtain⟨h1,h2,h3⟩:=yU (fun d=>a.tmps.getD d undef) (l.filterMap (·.dst)) a0
 generalize aG a0 ((l.filterMap (·.dst)).map fun d=>(d,a.tmps.getD d undef))=b at*
 obtain⟨at_,ad⟩:=a
 obtain⟨bt,bd⟩:=b
 simp only at h1 h2 h3 hsz hdef hold
 have e1:at_=bt:=by
  apply Array.ext (by omega)
  intro i hi hi2
  have h4:=h3 i (by omega)
  have g1:at_.getD i undef=at_[i]:=by simp[Array.getD_eq_getD_getElem?,hi]
  have g2:bt.getD i undef=bt[i]:=by simp[Array.getD_eq_getD_getElem?,hi2]
  have key:at_.getD i undef=bt.getD i undef:=by
   rw[h4]
   by_cases hn:i∈l.filterMap (·.dst)
   ·rw[if_pos hn]
   ·rw[if_neg hn]
    refine hold i ?_
    unfold kept
    rw[List.all_eq_true]
    intro o ho
    cases hd:o.dst with
    |none=>rfl
    |some d=>
     simp only[bne_iff_ne,ne_eq]
     intro e
     exact hn (List.mem_filterMap.2 ⟨o,ho,by rw[hd,e]⟩)
  rw[g1,g2]at key
  exact key
 rw[e1,hdef.trans h2.symm]
theorem dL{l:List Oper}{id:Nat}(R:World→World→Prop)(J:(Nat→Bool)→World→Prop)(ds:List Tmp)(hm:P.follows .mixedOrders=true)(hds:l.filterMap (·.dst)=ds)(hR:∀w,R w w)(hT:∀a b c,R a b→R b c→R a c)(F:Nat→Value→World→Prop)(hmono:∀k v w w',F k v w→R w w'→F k v w')(jI:chk l a0.tmps.size=true)
  (hD:R w0 w0.drew) (h0:J (fun _=>false) w0.drew) (hs:dF R J P l.toArray Q a0 w0 F 0 l)
  (hend:∀(L:Nat→Bool) (w:World) (val:Tmp→Value),(∀i,i < l.length→L i=true)→J L w→R w0 w→(∀k d,dh l k=some d→F k (val d) w)→Q .normal (aG a0 (ds.map fun d=>(d,val d))) w) :
  (Code.region id l.toArray true).wp P Q a0 w0:=by
 refine gV R J hm hR hT F hmono jI hD h0 hs fun L a w hL hJ h1 h2 h3 h4 h5=>?_
 have e:=vF h2 h1 h4
 rw[hds]at e
 have:=hend L w (fun d=>a.tmps.getD d undef) hL hJ h3 h5
 rw[←e]at this
 exact this
def noJ(_:Nat→Bool)(_:World):Prop:=True
theorem ZV(L:Nat→Bool)(w:World):noJ L w:=trivial
end
end Go.Proofs.YthmegninhpihkaaGreat.regs
namespace Go.Proofs.YthmegninhpihkaaGreat.bM
open Go.RowKit regs
section
variable {P:Program}{ops:Array Oper}{Q:Exit→Act→World→Prop}
def sl(a:Act)(s:Tmp):Value:=a.tmps.getD s undef
theorem a1y{t:Array Value}{d s:Nat}{v:Value}{df df':_}(h:d≠s):sl ⟨t.setIfInBounds d v,df⟩ s=sl ⟨t,df'⟩ s:=regs.getD_set_ne t d s v h
theorem bI{t:Array Value}{d:Nat}{v:Value}{df:_}(h:d < t.size):sl ⟨t.setIfInBounds d v,df⟩ d=v:=regs.jY t d v h
structure Inv(R:World→World→Prop)(J:(Nat→Bool)→(Tmp→Value)→World→Prop)(ops:Array Oper)(a0:Act)(w0:World)(F:Nat→Value→World→Prop)(listed:Array Bool)(a:Act)(w:World):Prop where
 size:listed.size=ops.size
 tmps:a.tmps.size=a0.tmps.size
 defers:a.defers=a0.defers
 rel:R w0 w
 st:J (fun k=>listed.getD k false) (sl a) w
 old:∀s,(∀o∈ops.toList,o.dst≠some s)→a.tmps.getD s undef=a0.tmps.getD s undef
 facts:∀(k:Nat) (o:Oper) (d:Tmp),ops[k]?=some o→o.dst=some d→listed.getD k false=true→F k (a.tmps.getD d undef) w
def bC(R:World→World→Prop)(J:(Nat→Bool)→(Tmp→Value)→World→Prop)(P:Program)(ops:Array Oper)(Q:Exit→Act→World→Prop)(a0:Act)(w0:World)(F:Nat→Value→World→Prop)(i:Nat)(o:Oper):Prop:=
 ∀(L:Nat→Bool) (a:Act) (w:World),a.defers=a0.defers→a.tmps.size=a0.tmps.size→R w0 w→J L (sl a) w→L i=false→(∀s,(∀o∈ops.toList,o.dst≠some s)→a.tmps.getD s undef=a0.tmps.getD s undef) →
  (∀e∈o.after,Region.binds .any e=true→L e.on=true) →
  (∀e∈o.after,Region.binds .any e=true→∀(ok:Oper) (d:Tmp),ops[e.on]?=some ok→ok.dst=some d→F e.on (a.tmps.getD d undef) w) →
  if Region.wanted o (yielded ops a.tmps)=true then o.wp P a w (fun a' w'=>∃v,a'=a.put o.dst v∧R w w'∧F i v w'∧J (upd L i) (sl (a.put o.dst v)) w') Q else F i undef w∧J (upd L i) (sl (a.put o.dst undef)) w
def dF(R:World→World→Prop)(J:(Nat→Bool)→(Tmp→Value)→World→Prop)(P:Program)(ops:Array Oper)(Q:Exit→Act→World→Prop)(a0:Act)(w0:World)(F:Nat→Value→World→Prop):Nat→List Oper→Prop
 |_,[]=>True
 |i,o :: l=>bC R J P ops Q a0 w0 F i o∧dF R J P ops Q a0 w0 F (i + 1) l
theorem dF.at_{R:World→World→Prop}{J:(Nat→Bool)→(Tmp→Value)→World→Prop}{a0:Act}{w0:World}{F:Nat→Value→World→Prop}:∀{l:List Oper} {n:Nat},dF R J P ops Q a0 w0 F n l→∀(i:Nat) (o:Oper),l[i]?=some o→bC R J P ops Q a0 w0 F (n + i) o
 |[],_,_,i,o,h=>by simp at h
 |x :: l,n,hs,i,o,h=>by
  cases i with
  |zero=>
   simp only[List.getElem?_cons_zero,Option.some.injEq]at h
   subst h
   exact hs.1
  |succ i=>
   have:=hs.2.at_ i o (by simpa using h)
   rw[show n + (i + 1)=n + 1 + i by omega]
   exact this
variable {R:World→World→Prop}{J:(Nat→Bool)→(Tmp→Value)→World→Prop}{a0:Act}{w0:World}{F:Nat→Value→World→Prop}
theorem Inv.step(hT:∀a b c,R a b→R b c→R a c)(hmono:∀k v w w',F k v w→R w w'→F k v w')(hnd:(ops.toList.filterMap (·.dst)).Nodup)(hin:∀o∈ops.toList,∀d,o.dst=some d→d < a0.tmps.size)
  {listed:Array Bool} {a:Act} {w w':World} (h:Inv R J ops a0 w0 F listed a w) {i:Nat} {o:Oper} (ho:ops[i]?=some o) {v:Value} (hb:R w w') (hF:F i v w') (hJ:J (upd (fun k=>listed.getD k false) i) (sl (a.put o.dst v)) w') :
  Inv R J ops a0 w0 F (listed.setIfInBounds i true) (a.put o.dst v) w':=by
 have hmem:o∈ops.toList:=by
  rw[←Array.getElem?_toList]at ho
  exact List.mem_of_getElem? ho
 have hil:i < listed.size:=by
  rw[h.size]
  exact(Array.getElem?_eq_some_iff.1 ho).1
 refine⟨by simpa using h.size,?_,?_,hT _ _ _ h.rel hb,by rw[LP hil]; exact hJ,fun s hs=>?_,fun k ok d hk hd hl=>?_⟩
 ·unfold Act.put
  split <;> simp[h.tmps]
 ·unfold Act.put
  split <;> simp[h.defers]
 ·unfold Act.put
  split
  ·rename_i d hd
   simp only
   rw[regs.getD_set_ne _ _ _ _ (fun e=>hs o hmem (by rw[hd,e]))]
   exact h.old s hs
  ·exact h.old s hs
 ·by_cases hik:i=k
  ·subst hik
   obtain rfl:o=ok:=Option.some.inj (ho.symm.trans hk)
   unfold Act.put
   rw[hd]
   simp only
   rw[regs.jY _ _ _ (by rw[h.tmps]; exact hin o hmem d hd)]
   exact hF
  ·have hl':listed.getD k false=true:=by
    simpa[Array.getD_eq_getD_getElem?,Array.getElem?_setIfInBounds,hik]using hl
   have hf:=hmono _ _ _ _ (h.facts k ok d hk hd hl') hb
   unfold Act.put
   split
   ·rename_i d' hd'
    simp only
    rw[regs.getD_set_ne _ _ _ _ (fun e=>hik (y8 hnd (by rw[Array.getElem?_toList]; exact ho) (by rw[Array.getElem?_toList]; exact hk) (by rw[hd',e]) hd))]
    exact hf
   ·exact hf
theorem lU(hR:∀w,R w w)(hT:∀a b c,R a b→R b c→R a c)(hmono:∀k v w w',F k v w→R w w'→F k v w')(hnd:(ops.toList.filterMap (·.dst)).Nodup)(hin:∀o∈ops.toList,∀d,o.dst=some d→d < a0.tmps.size)
  (hback:∀(i:Nat) (o:Oper),ops[i]?=some o→∀e∈o.after,Region.binds .any e=true→e.on < i) (hs:∀(i:Nat) (o:Oper),ops[i]?=some o→bC R J P ops Q a0 w0 F i o)
  (hend:∀L a w,(∀i,i < ops.size→L i=true)→J L (sl a) w→a.defers=a0.defers→a.tmps.size=a0.tmps.size→R w0 w→(∀s,(∀o∈ops.toList,o.dst≠some s)→a.tmps.getD s undef=a0.tmps.getD s undef) →
   (∀(k:Nat) (o:Oper) (d:Tmp),ops[k]?=some o→o.dst=some d→F k (a.tmps.getD d undef) w)→Q .normal a w) :
  ∀(fuel:Nat) (listed:Array Bool) (a:Act) (w:World),listed.toList.count false≤fuel→Inv R J ops a0 w0 F listed a w→wpAny P .any ops Q fuel listed a w:=by
 have stop:∀(listed:Array Bool) (a:Act) (w:World),Inv R J ops a0 w0 F listed a w→Region.ready .any ops listed=[]→Q .normal a w:=fun listed a w h hr=>
  hend _ a w (fP h.size hback hr) h.st h.defers h.tmps h.rel h.old fun k o d hk hd=>h.facts k o d hk hd (fP h.size hback hr k (by
   rcases Nat.lt_or_ge k ops.size with hlt|hge
   ·exact hlt
   ·rw[Array.getElem?_eq_none hge]at hk; cases hk))
 intro fuel
 induction fuel with
 |zero=>
  intro listed a w hc h
  have hr:Region.ready .any ops listed=[]:=by
   unfold Region.ready
   rw[List.filter_eq_nil_iff]
   intro i hi
   have hi':i < listed.size:=by rw[h.size]; simpa using hi
   have hno:false∉listed.toList:=List.count_eq_zero.1 (by omega)
   have:listed.getD i true=true:=by
    simp only[Array.getD_eq_getD_getElem?,Array.getElem?_eq_getElem hi',Option.getD_some]
    cases hb:listed[i]with
    |true=>rfl
    |false=>exact absurd (by rw[←hb]; exact Array.getElem_mem_toList hi') hno
   rw[this]
   simp
  exact⟨hr,stop listed a w h hr⟩
 |succ fuel ih=>
  intro listed a w hc h
  refine⟨stop listed a w h,fun i hi=>?_⟩
  unfold Region.ready at hi
  rw[List.mem_filter]at hi
  obtain⟨hi1,hi2⟩:=hi
  have hi':i < ops.size:=by simpa using hi1
  have hil:i < listed.size:=by rw[h.size]; exact hi'
  have ho:ops[i]?=some ops[i]:=by simp[hi']
  rw[ho]at hi2
  simp only[Option.map_some,Option.getD_some,Bool.and_eq_true,Bool.not_eq_true',Array.all_eq_true_iff_forall_mem,Bool.or_eq_true]at hi2
  obtain⟨hun,xq⟩:=hi2
  have hst:=hs i _ ho (fun k=>listed.getD k false) a w h.defers h.tmps h.rel h.st (by
   simp only[Array.getD_eq_getD_getElem?,Array.getElem?_eq_getElem hil,Option.getD_some]at hun ⊢
   exact hun) h.old (fun e he hb=>by
   rcases xq e he with hx|hx
   ·rw[hb]at hx; cases hx
   ·exact hx) (fun e he hb ok d hok hd=>h.facts e.on ok d hok hd (by
   rcases xq e he with hx|hx
   ·rw[hb]at hx; cases hx
   ·exact hx))
  have hcnt:(listed.setIfInBounds i true).toList.count false≤fuel:=by
   have hf:listed.toList[i]'(by simpa using hil)=false:=by
    simp only[Array.getD_eq_getD_getElem?,Array.getElem?_eq_getElem hil,Option.getD_some]at hun
    simpa using hun
   rw[Array.toList_setIfInBounds,List.count_set (by simpa using hil),hf]
   show List.count false listed.toList - 1 + 0≤fuel
   omega
  unfold wpOp
  rw[ho]
  simp only
  split
  ·rename_i hw
   rw[if_pos hw]at hst
   refine .inl (Oper.wp_mono (fun a' w' hh=>?_) hst)
   obtain⟨v,rfl,hb,hF,hJ⟩:=hh
   exact ih _ _ _ hcnt (h.step hT hmono hnd hin ho hb hF hJ)
  ·rename_i hw
   rw[if_neg hw]at hst
   exact ih _ _ _ hcnt (h.step hT hmono hnd hin ho (hR _) hst.1 hst.2)
theorem gz{l:List Oper}{id:Nat}(hm:P.follows .mixedOrders=true)(hR:∀w,R w w)(hT:∀a b c,R a b→R b c→R a c)(F:Nat→Value→World→Prop)(hmono:∀k v w w',F k v w→R w w'→F k v w')(jI:chk l a0.tmps.size=true)
  (hD:R w0 w0.drew) (h0:J (fun _=>false) (sl a0) w0.drew) (hs:dF R J P l.toArray Q a0 w0 F 0 l)
  (hend:∀L a w,(∀i,i < l.length→L i=true)→J L (sl a) w→a.defers=a0.defers→a.tmps.size=a0.tmps.size→R w0 w→(∀s,(∀o∈l,o.dst≠some s)→a.tmps.getD s undef=a0.tmps.getD s undef) →
   (∀(k:Nat) (o:Oper) (d:Tmp),l[k]?=some o→o.dst=some d→F k (a.tmps.getD d undef) w)→Q .normal a w) :
  (Code.region id l.toArray true).wp P Q a0 w0:=by
 unfold chk at jI
 simp only[Bool.and_eq_true,decide_eq_true_eq]at jI
 obtain⟨⟨h1,h2⟩,h3⟩:=jI
 have hback:∀(i:Nat) (o:Oper),l.toArray[i]?=some o→∀e∈o.after,Region.binds .any e=true→e.on < i:=by
  intro i o ho e he hb
  rw[List.all_eq_true]at h1
  have:=h1 (o,i) (List.mem_zipIdx_iff_getElem?.2 (by simpa using ho))
  rw[Array.all_eq_true_iff_forall_mem]at this
  have h5:=this e he
  rw[hb]at h5
  simpa using h5
 have hin:∀o∈l,∀d,o.dst=some d→d < a0.tmps.size:=by
  intro o ho d hd
  rw[List.all_eq_true]at h3
  have:=h3 o ho
  rw[hd]at this
  simpa using this
 refine wp_region_any hm (lU (R:=R) (J:=J) (F:=F) (a0:=a0) (w0:=w0) hR hT hmono h2 hin hback (fun i o ho=>?_) (fun L a w hL hJ h4 h5 h6 h7 h8=>hend L a w (by simpa using hL) hJ h4 h5 h6 h7 fun k o d hk hd=>h8 k o d (by simpa using hk) hd) _ _ _ _ ?_ ?_)
 ·have:=hs.at_ i o (by simpa using ho)
  rw[Nat.zero_add]at this
  exact this
 ·simp
 ·have hL:(fun k=>(Array.replicate l.toArray.size false).getD k false)=fun _=>false:=by
   funext k
   simp[Array.getD_eq_getD_getElem?,Array.getElem?_replicate]
   split <;> rfl
  refine⟨by simp,rfl,rfl,hD,by rw[hL]; exact h0,fun _ _=>rfl,fun k o d hk hd hl=>?_⟩
  exfalso
  simp[Array.getD_eq_getD_getElem?,Array.getElem?_replicate]at hl
  split at hl <;> simp at hl
structure Hand(R:World→World→Prop)(J:(Nat→Bool)→(Tmp→Value)→World→Prop)(l:List Oper)(a0:Act)(w0:World)(F:Nat→Value→World→Prop)(i:Nat)(o:Oper)(L:Nat→Bool)(a:Act)(w:World):Prop where
 defers:a.defers=a0.defers
 size:a.tmps.size=a0.tmps.size
 rel:R w0 w
 st:J L (sl a) w
 un:L i=false
 old:∀s,kept l s=true→a.tmps.getD s undef=a0.tmps.getD s undef
 up:∀k,waits o k=true→L k=true
 dep:∀k d,waits o k=true→dh l k=some d→F k (a.tmps.getD d undef) w
theorem bC.of{l:List Oper}{i:Nat}{o:Oper}
  (h:∀L a w,Hand R J l a0 w0 F i o L a w→if Region.wanted o (yielded l.toArray a.tmps)=true then o.wp P a w (fun a' w'=>∃v,a'=a.put o.dst v∧R w w'∧F i v w'∧J (upd L i) (sl (a.put o.dst v)) w') Q else F i undef w∧J (upd L i) (sl (a.put o.dst undef)) w) :
  bC R J P l.toArray Q a0 w0 F i o:=fun L a w h1 hz h2 h3 h3u h4 h5 h6=>h L a w ⟨h1,hz,h2,h3,h3u,fun s hs=>h4 s (by simpa using nM hs),fun k hw=>by
 unfold waits at hw
 rw[Array.any_eq_true']at hw
 obtain⟨e,he,hb⟩:=hw
 simp only[Bool.and_eq_true,beq_iff_eq]at hb
 obtain⟨hk,hb⟩:=hb
 subst hk
 exact h5 e he hb,fun k d hw hd=>by
 unfold waits at hw
 rw[Array.any_eq_true']at hw
 obtain⟨e,he,hb⟩:=hw
 simp only[Bool.and_eq_true,beq_iff_eq]at hb
 obtain⟨hk,hb⟩:=hb
 unfold dh at hd
 obtain⟨ok,ho,hd'⟩:=Option.bind_eq_some_iff.1 hd
 subst hk
 exact h6 e he hb ok d (by simpa using ho) hd'⟩
theorem bC.plain{l:List Oper}{i:Nat}{o:Oper}(hg:o.guard=none)(h:∀L a w,Hand R J l a0 w0 F i o L a w→o.wp P a w (fun a' w'=>∃v,a'=a.put o.dst v∧R w w'∧F i v w'∧J (upd L i) (sl (a.put o.dst v)) w') Q) :
  bC R J P l.toArray Q a0 w0 F i o:=bC.of fun L a w hh=>by
 rw[if_pos (by simp[Region.wanted,hg])]
 exact h L a w hh
theorem bC.yes{l:List Oper}{i:Nat}{o:Oper}(j:Nat)(b:Bool)(d:Tmp)(hg:o.guard=some (j,b))(hd:dh l j=some d)(hb:∀L a w,Hand R J l a0 w0 F i o L a w→a.tmps.getD d undef=.bool b)
  (h:∀L a w,Hand R J l a0 w0 F i o L a w→o.wp P a w (fun a' w'=>∃v,a'=a.put o.dst v∧R w w'∧F i v w'∧J (upd L i) (sl (a.put o.dst v)) w') Q):bC R J P l.toArray Q a0 w0 F i o:=bC.of fun L a w hh=>by
 unfold dh at hd
 obtain⟨oj,hj,hd⟩:=Option.bind_eq_some_iff.1 hd
 have:=oq (ops:=l.toArray) (by simpa using hj) hd (hb L a w hh)
 rw[if_pos (by simp[Region.wanted,hg,this])]
 exact h L a w hh
theorem bC.no{l:List Oper}{i:Nat}{o:Oper}(j:Nat)(b:Bool)(d:Tmp)(hg:o.guard=some (j,b))(hd:dh l j=some d)(hb:∀L a w,Hand R J l a0 w0 F i o L a w→a.tmps.getD d undef=.bool (!b))
  (h:∀L a w,Hand R J l a0 w0 F i o L a w→F i undef w∧J (upd L i) (sl (a.put o.dst undef)) w):bC R J P l.toArray Q a0 w0 F i o:=bC.of fun L a w hh=>by
 unfold dh at hd
 obtain⟨oj,hj,hd⟩:=Option.bind_eq_some_iff.1 hd
 have:=oq (ops:=l.toArray) (by simpa using hj) hd (hb L a w hh)
 rw[if_neg (by simp[Region.wanted,hg,this])]
 exact h L a w hh
theorem gV{l:List Oper}{id:Nat}(R:World→World→Prop)(J:(Nat→Bool)→(Tmp→Value)→World→Prop)(hm:P.follows .mixedOrders=true)(hR:∀w,R w w)(hT:∀a b c,R a b→R b c→R a c)(F:Nat→Value→World→Prop)(hmono:∀k v w w',F k v w→R w w'→F k v w')(jI:chk l a0.tmps.size=true)
  (hD:R w0 w0.drew) (h0:J (fun _=>false) (sl a0) w0.drew) (hs:dF R J P l.toArray Q a0 w0 F 0 l)
  (hend:∀L a w,(∀i,i < l.length→L i=true)→J L (sl a) w→a.defers=a0.defers→a.tmps.size=a0.tmps.size→R w0 w→(∀s,kept l s=true→a.tmps.getD s undef=a0.tmps.getD s undef) →
   (∀k d,dh l k=some d→F k (a.tmps.getD d undef) w)→Q .normal a w) :
  (Code.region id l.toArray true).wp P Q a0 w0:=
 gz hm hR hT F hmono jI hD h0 hs fun L a w hL hJ h1 h2 h3 h4 h5=>hend L a w hL hJ h1 h2 h3 (fun s hs=>h4 s (nM hs)) fun k d hd=>by
  unfold dh at hd
  obtain⟨ok,ho,hd⟩:=Option.bind_eq_some_iff.1 hd
  exact h5 k ok d ho hd
theorem dL{l:List Oper}{id:Nat}(R:World→World→Prop)(J:(Nat→Bool)→(Tmp→Value)→World→Prop)(ds:List Tmp)(hm:P.follows .mixedOrders=true)(hds:l.filterMap (·.dst)=ds)(hR:∀w,R w w)(hT:∀a b c,R a b→R b c→R a c)(F:Nat→Value→World→Prop)(hmono:∀k v w w',F k v w→R w w'→F k v w')(jI:chk l a0.tmps.size=true)
  (hD:R w0 w0.drew) (h0:J (fun _=>false) (sl a0) w0.drew) (hs:dF R J P l.toArray Q a0 w0 F 0 l)
  (hend:∀(L:Nat→Bool) (w:World) (val:Tmp→Value),(∀i,i < l.length→L i=true)→J L val w→R w0 w→(∀k d,dh l k=some d→F k (val d) w)→Q .normal (aG a0 (ds.map fun d=>(d,val d))) w) :
  (Code.region id l.toArray true).wp P Q a0 w0:=by
 refine gV R J hm hR hT F hmono jI hD h0 hs fun L a w hL hJ h1 h2 h3 h4 h5=>?_
 have e:=vF h2 h1 h4
 rw[hds]at e
 have:=hend L w (fun d=>a.tmps.getD d undef) hL hJ h3 h5
 rw[←e]at this
 exact this
end
end Go.Proofs.YthmegninhpihkaaGreat.bM
namespace Go.Proofs.YthmegninhpihkaaGreat
open Go.RowKit
def oW:List (Nat×List Value)→World→Prop
 |[],_=>True
 |p :: l,w=>az w p.1 p.2∧oW l w
theorem oW.below:∀{l:List (Nat×List Value)} {w w':World},oW l w→bz w w'→oW l w'
 |[],_,_,_,_=>trivial
 |_ :: _,_,_,h,hb=>⟨h.1.below' hb,oW.below h.2 hb⟩
theorem oW.alloc{l:List (Nat×List Value)}{w:World}(h:oW l w)(o:Obj):oW l (w.alloc o):=h.below (bR.alloc nR o)
theorem oW.under:∀{l:List (Nat×List Value)} {w w':World} {B:Nat},oW l w→(∀p∈l,p.1 < B)→Below B w w'→oW l w'
 |[],_,_,_,_,_,_=>trivial
 |x :: _,_,_,_,h,hl,hb=>⟨h.1.below hb (hl x List.mem_cons_self),oW.under h.2 (fun y hy=>hl y (List.mem_cons_of_mem _ hy)) hb⟩
theorem oW.lt:∀{l:List (Nat×List Value)} {w:World},oW l w→∀p∈l,p.1 < w.heap.size
 |x :: l,_,h,p,hp=>by
  rcases List.mem_cons.1 hp with rfl|hp
  ·exact h.1.inside
  ·exact oW.lt h.2 p hp
def MR(B:Nat)(cs:List Value)(v:Value)(w:World):Prop:=∃g,v=.pointer (some ⟨g,0,none⟩)∧B≤g∧az w g cs
theorem MR.below{B:Nat}{cs:List Value}{v:Value}{w w':World}(h:MR B cs v w)(hb:bz w w'):MR B cs v w':=by
 obtain⟨g,h1,h2,h3⟩:=h
 exact⟨g,h1,h2,h3.below' hb⟩
def JN(B:Nat)(old:List (Nat×List Value))(zs cs:List Value)(iA iS:Bool)(v:Value)(w:World):Prop:=
 (oW old w∧B≤w.heap.size∧∀p∈old,p.1 < B)∧(iA=true→MR B (bif iS then cs else zs) v w)∧(iS=true→iA=true)
def JS(B:Nat)(old:List (Nat×List Value))(g:Nat)(zs cs:List Value)(iS:Bool)(w:World):Prop:=
 (oW old w∧B≤w.heap.size∧∀p∈old,p.1≠g)∧B≤g∧az w g (bif iS then cs else zs)
def dX(g:Nat):World→Nat→List Value→World
 |w,_,[]=>w
 |w,i,v :: l=>dX g (w.setCell ⟨g,i,none⟩ v) (i + 1) l
theorem tq{g k:Nat}(hg:k≠g):∀(l:List Value) (i:Nat) {w:World} {cs:List Value},az w k cs→az (dX g w i l) k cs
 |[],_,_,_,h=>h
 |_ :: l,i,_,_,h=>tq hg l (i + 1) (h.other hg i _)
theorem oW.dX{g:Nat}(cs:List Value):∀{l:List (Nat×List Value)} {w:World},oW l w→(∀p∈l,p.1≠g)→oW l (dX g w 0 cs)
 |[],_,_,_=>trivial
 |x :: _,_,h,hl=>⟨tq (hl x List.mem_cons_self) cs 0 h.1,oW.dX cs h.2 fun y hy=>hl y (List.mem_cons_of_mem _ hy)⟩
theorem kR{g B:Nat}(hg:B≤g):∀(l:List Value) (i:Nat) {w W:World},Below B w W→Below B w (dX g W i l)
 |[],_,_,_,h=>h
 |_ :: l,i,_,_,h=>kR hg l (i + 1) (dW h hg)
theorem xe{g:Nat}:∀(l done rest:List Value) {w:World},rest.length=l.length→az w g (done++rest)→az (dX g w done.length l) g (done++l)
 |[],done,rest,_,hl,h=>by
  have:rest=[]:=List.eq_nil_of_length_eq_zero (by simpa using hl)
  subst this
  exact h
 |v :: l,done,[],_,hl,h=>by simp at hl
 |v :: l,done,z :: rest,w,hl,h=>by
  have h2:=h.set done.length v
  rw[List.set_append,if_neg (by simp),Nat.sub_self,List.set_cons_zero]at h2
  have e:done++v :: rest=(done++[v])++rest:=by simp
  rw[e]at h2
  have h3:=xe l (done++[v]) rest (by simpa using hl) h2
  simpa[dX]using h3
theorem yT{g:Nat}{w:World}{zs l:List Value}(hl:zs.length=l.length)(h:az w g zs):az (dX g w 0 l) g l:=xe l [] zs hl h
section
variable {B:Nat}{old:List (Nat×List Value)}{zs cs:List Value}{iA iS:Bool}{v:Value}{w w':World}
theorem JN.below(h:JN B old zs cs iA iS v w)(hb:bz w w'):JN B old zs cs iA iS v w':=
 ⟨⟨h.1.1.below hb,Nat.le_trans h.1.2.1 hb.size,h.1.2.2⟩,fun e=>(h.2.1 e).below hb,h.2.2⟩
theorem JN.slots{u:Value}(h:JN B old zs cs iA iS v w)(e:u=v):JN B old zs cs iA iS u w:=e ▸ h
theorem JN.new{u:Value}{T:TypeId}(h:JN B old zs cs iA iS v w)(eA:iA=false)(eu:u=.pointer (some ⟨w.heap.size,0,none⟩)):JN B old zs cs true iS u (w.alloc (.cells zs.toArray T)):=by
 have hb:bz w (w.alloc (.cells zs.toArray T)):=bR.alloc nR _
 have h':=h.below hb
 have eS:iS=false:=by
  cases hi:iS with
  |false=>rfl
  |true=>have:=h.2.2 hi; rw[eA]at this; cases this
 subst eA eS eu
 exact⟨h'.1,fun _=>⟨_,rfl,h.1.2.1,aA w zs T⟩,fun _=>rfl⟩
theorem JN.put{g:Nat}(h:JN B old zs cs iA iS v w)(hl:zs.length=cs.length)(eA:iA=true)(eS:iS=false)(ev:v=.pointer (some ⟨g,0,none⟩)):JN B old zs cs iA true v (dX g w 0 cs)∧Below B w (dX g w 0 cs):=by
 subst eA eS ev
 obtain⟨g',e,hg,hB⟩:=h.2.1 rfl
 simp only[Value.pointer.injEq,Option.some.injEq,Addr.mk.injEq,and_true]at e
 subst e
 have hb:Below B w (dX g w 0 cs):=kR hg cs 0 bR
 exact⟨⟨⟨h.1.1.under h.1.2.2 hb,Nat.le_trans h.1.2.1 hb.size,h.1.2.2⟩,fun _=>⟨g,rfl,hg,yT hl hB⟩,fun _=>rfl⟩,hb⟩
theorem JN.start(h:oW old w):JN w.heap.size old zs cs false false v w:=⟨⟨h,nR,h.lt⟩,fun e=>(nomatch e),fun e=>(nomatch e)⟩
theorem JS.below{g:Nat}(h:JS B old g zs cs iS w)(hb:bz w w'):JS B old g zs cs iS w':=
 ⟨⟨h.1.1.below hb,Nat.le_trans h.1.2.1 hb.size,h.1.2.2⟩,h.2.1,h.2.2.below' hb⟩
theorem JS.put{g:Nat}(h:JS B old g zs cs iS w)(hl:zs.length=cs.length)(eS:iS=false):JS B old g zs cs true (dX g w 0 cs)∧Below B w (dX g w 0 cs):=by
 subst eS
 have hb:Below B w (dX g w 0 cs):=kR h.2.1 cs 0 bR
 exact⟨⟨⟨h.1.1.dX cs h.1.2.2,Nat.le_trans h.1.2.1 hb.size,h.1.2.2⟩,h.2.1,yT hl h.2.2⟩,hb⟩
theorem JS.start{g:Nat}(h:oW old w)(hB:B≤g)(hg:az w g zs)(hne:∀p∈old,p.1≠g):JS B old g zs cs false w:=⟨⟨h,Nat.le_trans hB (Nat.le_of_lt hg.inside),hne⟩,hB,hg⟩
end
end Go.Proofs.YthmegninhpihkaaGreat
namespace Go.Proofs.YthmegninhpihkaaGreat
open Go.RowKit
theorem jC(g:Nat):∀(l:List Value) (o:Nat) (w:World),w.setCells g o l=dX g w o l
 |[],_,_=>rfl
 |v :: l,o,w=>jC g l (o + 1) (w.setCell ⟨g,o,none⟩ v)
def Wrote(g:Nat)(w w':World):Prop:=∃o l,w'=dX g w o l
theorem rJ{g b:Nat}(hb:b≠g):∀(l:List Value) (i:Nat) (w:World),(dX g w i l).heap[b]?=w.heap[b]?
 |[],_,_=>rfl
 |_ :: l,i,_=>(rJ hb l (i + 1) _).trans (Below.heap_setCell _ _ _ _ hb)
theorem wZ(g:Nat):∀(l:List Value) (i:Nat) (w:World),(dX g w i l).heap.size=w.heap.size
 |[],_,_=>rfl
 |_ :: l,i,_=>(wZ g l (i + 1) _).trans (by simp[World.setCell])
section
variable {w w' W:World}{g b B:Nat}{cs:List Value}
theorem Wrote.far(h:Wrote g w w')(hb:b≠g):w'.heap[b]?=w.heap[b]?:=by
 obtain⟨o,l,rfl⟩:=h
 exact rJ hb l o w
theorem Wrote.size(h:Wrote g w w'):w'.heap.size=w.heap.size:=by
 obtain⟨o,l,rfl⟩:=h
 exact wZ g l o w
theorem Wrote.blk(h:Wrote g w w')(hb:b≠g)(hB:az w b cs):az w' b cs:=hB.stays (h.far hb)
theorem Wrote.below(h:Wrote g w w')(hb:Below B W w)(hg:B≤g):Below B W w':=by
 obtain⟨o,l,rfl⟩:=h
 exact kR hg l o hb
end
theorem set_mid(v:Value):∀(cs:List Value) (o:Nat),o < cs.length→cs.set o v=cs.take o++v :: cs.drop (o + 1)
 |[],o,h=>by simp at h
 |c :: cs,0,_=>rfl
 |c :: cs,o + 1,h=>by
  show c :: cs.set o v=c :: (cs.take o++v :: cs.drop (o + 1))
  rw[set_mid v cs o (by simpa using h)]
theorem rH{g:Nat}:∀(l:List Value) (o:Nat) {w:World} {cs:List Value},o + l.length≤cs.length→az w g cs→az (dX g w o l) g (cs.take o++l++cs.drop (o + l.length))
 |[],o,w,cs,_,h=>by
  have e:cs.take o++[]++cs.drop (o + ([]:List Value).length)=cs:=by simp
  rw[e]
  exact h
 |v :: l,o,w,cs,hl,h=>by
  rw[List.length_cons]at hl
  have h2:=rH l (o + 1) (by rw[List.length_set]; omega) (h.set o v)
  have e:(cs.set o v).take (o + 1)++l++(cs.set o v).drop (o + 1 + l.length)=cs.take o++(v :: l)++cs.drop (o + (v :: l).length):=by
   have e2:cs.drop (o + (v :: l).length)=(cs.drop (o + 1)).drop l.length:=by rw[List.drop_drop,List.length_cons,show o + 1 + l.length=o + (l.length + 1) by omega]
   have hto:(cs.take o).length=o:=by rw[List.length_take]; omega
   rw[set_mid v cs o (by omega),e2]
   generalize cs.take o=x at*
   generalize cs.drop (o + 1)=y at*
   clear e2 h2 h hl
   subst hto
   have t1:(x++v :: y).take (x.length + 1)=x++[v]:=by rw[List.take_append,List.take_of_length_le (by omega),show x.length + 1 - x.length=1 by omega]; rfl
   have t2:(x++v :: y).drop (x.length + 1 + l.length)=y.drop l.length:=by rw[List.drop_append,List.drop_of_length_le (by omega),show x.length + 1 + l.length - x.length=l.length + 1 by omega]; rfl
   rw[t1,t2]
   simp
  rw[e]at h2
  exact h2
theorem az.range{w:World}{g:Nat}{cs:List Value}(h:az w g cs)(o n:Nat):w.rangeAt g o ((cs.drop o).take n):=fun j v hj=>by
 have h1:((cs.drop o).take n)[j]?=cs[o + j]?:=by
  have:=(List.getElem?_eq_some_iff.1 hj).1
  rw[List.length_take,List.length_drop]at this
  rw[List.getElem?_take,if_pos (by omega),List.getElem?_drop]
 rw[h.cell,←h1,hj]
theorem az.there{w:World}{g:Nat}{cs:List Value}(h:az w g cs){o n:Nat}(hl:o + n≤cs.length):w.there g o n:=fun j hj=>⟨by rw[h.cell,List.getElem?_eq_getElem (by omega)]; rfl,h.free _⟩
section
variable {P:Program}{ops:Array Oper}{rest:List Oper}{o:Oper}{a:Act}{Q:Exit→Act→World→Prop}{w:World}
theorem lF(ty:TypeId)(x:Operand)(ho:o.op=.load ty x)(hgd:Region.wanted o (yielded ops a.tmps)=true)(g f:Nat)(hx:a.eval x=.pointer (some ⟨g,f,none⟩))(cs:List Value)(hB:az w g cs)(ls:List Value)(hls:(cs.drop f).take ls.length=ls)
  (d:TypeDesc) (hu:P.underlying ty=some d) (hd:d.isRow=true) (hi:(P.info? ty).map (·.size)=some ls.length) (h:wpList P ops Q rest (a.put o.dst (.agg ls.toArray)) w):wpList P ops Q (o :: rest) a w:=by
 unfold wpList
 rw[if_pos hgd]
 refine .inl ?_
 have hr:w.rangeAt g f ls:=by rw[←hls]; exact hB.range f ls.length
 unfold Oper.wp execOp
 simp only[ho,hx,Instr.loadAt,Instr.sureAddr,Sem.run_bind,Sem.run_pure,Result.andThen_ok,run_loadVar_mid w g f ty ls d hr hu hd hi]
 exact h
theorem ay(ty:TypeId)(x y:Operand)(ho:o.op=.store ty x y)(hgd:Region.wanted o (yielded ops a.tmps)=true)(hd:o.dst=none)(g f:Nat)(hx:a.eval x=.pointer (some ⟨g,f,none⟩))(ls:List Value)(hy:a.eval y=.agg ls.toArray)
  (cs:List Value) (hB:az w g cs) (cs':List Value) (hc:cs.take f++ls++cs.drop (f + ls.length)=cs') (hl:f + ls.length≤cs.length) (hi:(P.info? ty).map (·.size)=some ls.length) (h1:ls.all (·.oneCell')=true)
  (h:∀w',Hid (Wrote g w w')→Hid (az w' g cs')→wpList P ops Q rest a w'):wpList P ops Q (o :: rest) a w:=by
 unfold wpList
 rw[if_pos hgd]
 refine .inl ?_
 have h2:=h (w.setCells g f ls) ⟨f,ls,jC g ls f w⟩ (by rw[←hc,jC]; exact rH ls f hl hB)
 unfold Oper.wp execOp
 simp only[ho,hx,hy,Instr.storeAt,Instr.sureAddr,Sem.run_bind,Sem.run_pure,Result.andThen_ok,run_storeVar_mid w g f ty ls.toArray (by simpa using hB.there hl) (by simpa using hi) (by simpa using h1)]
 have e:a.put o.dst undef=a:=by rw[hd]; rfl
 show wpList P ops Q rest (a.put o.dst undef) (w.setCells g f ls)
 rw[e]
 exact h2
end
end Go.Proofs.YthmegninhpihkaaGreat
namespace Go.Proofs.YthmegninhpihkaaGreat
open Go.RowKit
theorem oW.wrote{g:Nat}:∀{l:List (Nat×List Value)} {w w':World},oW l w→Wrote g w w'→(∀p∈l,p.1≠g)→oW l w'
 |[],_,_,_,_,_=>trivial
 |x :: _,_,_,h,hW,hl=>⟨hW.blk (hl x List.mem_cons_self) h.1,oW.wrote h.2 hW fun y hy=>hl y (List.mem_cons_of_mem _ hy)⟩
theorem oW.made{l:List (Nat×List Value)}{w w':World}{o:Obj}{cs:List Value}(h:oW l w)(hW:Wrote w.heap.size (w.alloc o) w')(hB:az w' w.heap.size cs):oW ((w.heap.size,cs) :: l) w':=
 ⟨hB,(h.alloc o).wrote hW fun p hp=>Nat.ne_of_lt (h.lt p hp)⟩
theorem Wrote.made{w W w':World}{o:Obj}(hW:Wrote W.heap.size (W.alloc o) w')(hB:bz w W):bz w w':=hW.below (hB.alloc hB.size o) hB.size
theorem aK{P:Program}{op:Oper}{a:Act}{w:World}{K:Act→World→Prop}{Q:Exit→Act→World→Prop}(ty:TypeId)(x:Operand)(ho:op.op=.load ty x)(g f:Nat)(hx:a.eval x=.pointer (some ⟨g,f,none⟩))(cs:List Value)(hB:az w g cs)(ls:List Value)(hls:(cs.drop f).take ls.length=ls)
  (d:TypeDesc) (hu:P.underlying ty=some d) (hd:d.isRow=true) (hi:(P.info? ty).map (·.size)=some ls.length) (h:K (a.put op.dst (.agg ls.toArray)) w):op.wp P a w K Q:=
 wp_load_mid ty x ho g f hx ls d (by rw[←hls]; exact hB.range f ls.length) hu hd hi h
theorem dn{P:Program}{op:Oper}{a:Act}{w:World}{K:Act→World→Prop}{Q:Exit→Act→World→Prop}(ty:TypeId)(x y:Operand)(ho:op.op=.store ty x y)(g f:Nat)(hx:a.eval x=.pointer (some ⟨g,f,none⟩))(ls:List Value)(hy:a.eval y=.agg ls.toArray)
  (cs:List Value) (hB:az w g cs) (hl:f + ls.length≤cs.length) (hi:(P.info? ty).map (·.size)=some ls.length) (h1:ls.all (·.oneCell')=true)
  (h:∀w',Wrote g w w'→az w' g (cs.take f++ls++cs.drop (f + ls.length))→K (a.put op.dst undef) w'):op.wp P a w K Q:=by
 have h2:=h (w.setCells g f ls) ⟨f,ls,jC g ls f w⟩ (by rw[jC]; exact rH ls f hl hB)
 unfold Oper.wp execOp
 simp only[ho,hx,hy,Instr.storeAt,Instr.sureAddr,Sem.run_bind,Sem.run_pure,Result.andThen_ok,run_storeVar_mid w g f ty ls.toArray (by simpa using hB.there hl) (by simpa using hi) (by simpa using h1)]
 exact h2
structure JF(B:Nat)(olds:List (Nat×List Value))(g:Nat)(cs:List Value)(w:World):Prop where
 old:oW olds w
 jr:B≤w.heap.size
 ne:∀p∈olds,p.1≠g
 ge:B≤g
 blk:az w g cs
theorem JF.below{B g:Nat}{olds:List (Nat×List Value)}{cs:List Value}{w w':World}(h:JF B olds g cs w)(hb:bz w w'):JF B olds g cs w':=
 ⟨h.old.below hb,Nat.le_trans h.jr hb.size,h.ne,h.ge,h.blk.below' hb⟩
theorem JF.wrote{B g:Nat}{olds:List (Nat×List Value)}{cs cs':List Value}{w w':World}(h:JF B olds g cs w)(hW:Wrote g w w')(hB:az w' g cs'):JF B olds g cs' w'∧Below B w w':=
 ⟨⟨h.old.wrote hW h.ne,by rw[hW.size]; exact h.jr,h.ne,h.ge,hB⟩,hW.below bR h.ge⟩
theorem JF.put{B g i:Nat}{olds:List (Nat×List Value)}{cs cs':List Value}{v:Value}{w:World}(h:JF B olds g cs w)(e:cs.set i v=cs'):JF B olds g cs' (w.setCell ⟨g,i,none⟩ v)∧Below B w (w.setCell ⟨g,i,none⟩ v):=
 h.wrote ⟨i,[v],rfl⟩ (by rw[←e]; exact h.blk.set i v)
theorem JN.Og{B g:Nat}{old:List (Nat×List Value)}{zs cs cs':List Value}{iA iS:Bool}{v:Value}{w w':World}(h:JN B old zs cs iA iS v w)(eA:iA=true)(eS:iS=false)(ev:v=.pointer (some ⟨g,0,none⟩))(hW:Wrote g w w')(hB:az w' g cs')(e:cs'=cs):JN B old zs cs iA true v w'∧Below B w w':=by
 subst eA eS ev e
 obtain⟨g',e,hg,-⟩:=h.2.1 rfl
 simp only[Value.pointer.injEq,Option.some.injEq,Addr.mk.injEq,and_true]at e
 subst e
 exact⟨⟨⟨h.1.1.wrote hW fun p hp=>Nat.ne_of_lt (Nat.lt_of_lt_of_le (h.1.2.2 p hp) hg),by rw[hW.size]; exact h.1.2.1,h.1.2.2⟩,fun _=>⟨g,rfl,hg,hB⟩,fun _=>rfl⟩,hW.below bR hg⟩
end Go.Proofs.YthmegninhpihkaaGreat
namespace Go.Proofs.YthmegninhpihkaaGreat.xk
open Go.RowKit
def uf:Obj→Bool
 |.loop _=>true
 |.deferred _=>true
 |_=>false
structure Bk(B:Nat)(A A':World):Prop where
 os:A'.os=A.os
 tape:A'.tape=A.tape
 output:A'.output=A.output
 size:A.heap.size≤A'.heap.size
 far:∀k,k < A.heap.size→A'.heap[k]?=A.heap[k]?∨(B≤k∧∃o,A.heap[k]?=some o∧uf o=true)
theorem Bk.refl(B:Nat)(A:World):Bk B A A:=⟨rfl,rfl,rfl,nR,fun _ _=>.inl rfl⟩
theorem Bk.trans{B:Nat}{A A' ZA:World}(h:Bk B A A')(k:Bk B A' ZA):Bk B A ZA:=
 ⟨k.os.trans h.os,k.tape.trans h.tape,k.output.trans h.output,Nat.le_trans h.size k.size,fun i hi=>by
  rcases h.far i hi with h1|h1
  ·rcases k.far i (Nat.lt_of_lt_of_le hi h.size) with h2|h2
   ·exact .inl (h2.trans h1)
   ·rw[h1]at h2
    exact .inr h2
  ·exact .inr h1⟩
theorem Bk.mono{B B':Nat}{A A':World}(h:Bk B A A')(hB:B'≤B):Bk B' A A':=⟨h.os,h.tape,h.output,h.size,fun k hk=>(h.far k hk).imp id fun e=>⟨Nat.le_trans hB e.1,e.2⟩⟩
theorem Bk.alloc(B:Nat)(A:World)(o:Obj):Bk B A (A.alloc o):=⟨rfl,rfl,rfl,by simp,fun k hk=>.inl (Below.heap_alloc A o k hk)⟩
theorem Bk.put{B:Nat}{A:World}{l:Nat}{o:Obj}(o':Obj)(hB:B≤l)(hl:A.heap[l]?=some o)(ho:uf o=true):Bk B A (A.putObj l o'):=⟨rfl,rfl,rfl,by simp,fun k _=>by
 by_cases e:k=l
 ·subst e
  exact .inr ⟨hB,o,hl,ho⟩
 ·exact .inl (World.putObj_heap_other e)⟩
theorem Bk.keep{B:Nat}{A A':World}(h:Bk B A A'){k:Nat}{o:Obj}(hk:A.heap[k]?=some o)(ho:uf o=false):A'.heap[k]?=some o:=by
 rcases h.far k (Array.getElem?_eq_some_iff.1 hk).1 with e|⟨_,o',h1,h2⟩
 ·exact e.trans hk
 ·rw[hk]at h1
  cases h1
  rw[ho]at h2
  cases h2
theorem Bk.low{B:Nat}{A A':World}(h:Bk B A A'){k:Nat}(hk:k < A.heap.size)(hB:k < B):A'.heap[k]?=A.heap[k]?:=by
 rcases h.far k hk with e|⟨e,_⟩
 ·exact e
 ·omega
theorem Bk.below{B n:Nat}{A A':World}(h:Bk B A A')(hn:n≤B)(hs:n≤A.heap.size):Below n A A':=⟨h.os,h.tape,h.output,h.size,fun k hk=>h.low (by omega) (by omega)⟩
def KB(A A':World):Prop:=∀(k:Nat) (o:Obj),A.heap[k]?=some o→uf o=true→A'.heap[k]?=some o
theorem KB.refl(A:World):KB A A:=fun _ _ h _=>h
theorem KB.trans{A B C:World}(h:KB A B)(k:KB B C):KB A C:=fun i o hi ho=>k i o (h i o hi ho) ho
theorem KB.yY{A B:World}{row:Option Nat}(hg:A.grownBy B row)(hr:∀(j:Nat) (o:Obj),row=some j→A.heap[j]?=some o→uf o=false):KB A B:=fun k o hk ho=>by
 refine(hg.block k (Array.getElem?_eq_some_iff.1 hk).1 fun e=>?_).trans hk
 have:=hr k o e.symm hk
 rw[ho]at this
 cases this
theorem KB.below{A B:World}(h:bz A B):KB A B:=fun k _ hk _=>(h.block k (Array.getElem?_eq_some_iff.1 hk).1).trans hk
theorem KB.set{A:World}{a:Addr}{o:Obj}(h:A.heap[a.block]?=some o)(ho:uf o=false)(u:Value):KB A (A.setCell a u):=fun k o' hk hb=>by
 refine(Below.heap_setCell A a u k fun e=>?_).trans hk
 subst e
 rw[h]at hk
 cases hk
 rw[ho]at hb
 cases hb
def QN(n:Nat)(A B:World):Prop:=∀(k:Nat) (o:Obj),n≤k→A.heap[k]?=some o→uf o=true→B.heap[k]?=some o
def uF(P:Program)(g:Nat)(lb:Array Value)(es:List (Array Value))(R:Nat→World→World→Prop)(Kp:World→World→Prop)(W:World):Prop:=
 ∀(l:Nat) (J Jx:Nat→World→Prop),(∀k A B,J k A→R W.heap.size A B→J k B)→(∀k A B,Jx k A→R W.heap.size A B→Jx k B) →
  (∀(k:Nat) (hk:k < es.length) (A:World),J k A→YieldAt Fence.wide 0 P l es[k] A fun e B=>QN W.heap.size A B∧((e=.returned (.bool true)∧J (k + 1) B∧Kp A B)∨(e=.returned (.bool false)∧Jx (k + 1) B))) →
  J 0 W→Calls P g (#[.func (.yield l) #[] #[]]++lb) W fun e B=>(∃v,e=.returned v)∧(J es.length B∨∃k,k≤es.length∧Jx k B)
def Md(Kp:World→World→Prop)(I:Nat→World→Prop)(Ix:Code→Nat→World→Prop)(k:Nat)(W:World):Exit→Act→World→Prop
 |.normal,_,W'=>KB W W'∧Kp W W'∧I (k + 1) W'
 |.ret,_,W'=>KB W W'∧Ix .ret (k + 1) W'
 |.exit id,_,W'=>KB W W'∧Ix (.exit id) (k + 1) W'
 |.goto t,_,W'=>KB W W'∧Ix (.goto t) (k + 1) W'
 |.panic _,_,_=>False
 |.outgrown,_,_=>False
def RH(n:Nat)(Kp:World→World→Prop)(I:Nat→World→Prop)(Ix:Code→Nat→World→Prop)(k:Nat)(W:World):Exit→Act→World→Prop
 |.normal,_,W'=>QN n W W'∧Kp W W'∧I (k + 1) W'
 |.ret,_,W'=>QN n W W'∧Ix .ret (k + 1) W'
 |.exit id,_,W'=>QN n W W'∧Ix (.exit id) (k + 1) W'
 |.goto t,_,W'=>QN n W W'∧Ix (.goto t) (k + 1) W'
 |.panic _,_,_=>False
 |.outgrown,_,_=>False
theorem Md.wide{n:Nat}{Kp:World→World→Prop}{I:Nat→World→Prop}{Ix:Code→Nat→World→Prop}{k:Nat}{W:World}:∀(e:Exit) (a:Act) (W':World),Md Kp I Ix k W e a W'→RH n Kp I Ix k W e a W'
 |.normal,_,_,h=>⟨fun i o _=>h.1 i o,h.2⟩
 |.ret,_,_,h=>⟨fun i o _=>h.1 i o,h.2⟩
 |.exit _,_,_,h=>⟨fun i o _=>h.1 i o,h.2⟩
 |.goto _,_,_,h=>⟨fun i o _=>h.1 i o,h.2⟩
 |.panic _,_,_,h=>h
 |.outgrown,_,_,h=>h
def mk(D:Nat):Deferred:={ target:=.collected D,args:=#[] }
variable {P:Program}
theorem BM{g:Operand}{ps:Array Tmp}{assign body:Code}{Q:Exit→Act→World→Prop}{a:Act}{w:World}
  {gf:Nat} {lb:Array Value} (hg:a.eval g=.func (.func gf) #[] lb) (eg:∀args w,(callFunc gf args).run P w=.ok (.enter gf args) w)
  {es:List (Array Value)} {R:Nat→World→World→Prop} {Kp:World→World→Prop} (hit:∀W1,Bk w.heap.size w W1→uF P gf lb es R Kp W1)
  (hKt:∀{A B C:World},Kp A B→Kp B C→Kp A C) (hKb:∀A B,Bk w.heap.size A B→Kp A B) (hRb:∀n A B,R n A B→∀(k:Nat) (o:Obj),k < n→A.heap[k]?=some o→uf o=true→B.heap[k]?=some o)
  (hps:∀e∈es,e.size=ps.size)
  (I:Nat→World→Prop) (Ix:Code→Nat→World→Prop) (hI:∀k A B,I k A→(∃n,w.heap.size≤n∧R n A B)∨Bk w.heap.size A B→I k B) (hIx:∀c k A B,Ix c k A→(∃n,w.heap.size≤n∧R n A B)∨Bk w.heap.size A B→Ix c k B) (h0:I 0 w) (As:Nat→Act→World→Prop) (hAs:∀k a' A B,As k a' A→Bk w.heap.size A B→As k a' B)
  (hassign:∀(l k:Nat) (hk:k < es.length) (W:World) (K:Act→World→Prop),I k W→(∀a' W',bz W W'→As k a' W'→K a' W') →
   assign.wpIn (Fence.wide.inRound l) 0 P (Exit.then K (fun _ _ _=>False)) { tmps:=(ps.zip es[k]).foldl (fun t (p,v)=>t.setIfInBounds p v) a.tmps,defers:=[] } W)
  (hbody:∀(l k:Nat) (_:k < es.length) (a':Act) (W:World),I k W→As k a' W→body.wpIn (Fence.wide.inRound l) 0 P (RH w.heap.size Kp I Ix k W) a' W)
  (hdone:∀(D:Nat) (W:World),w.heap.size≤D→I es.length W→W.heap[D]?=some (.deferred (some []))→Q .normal { a with defers:=mk D :: a.defers } W)
  (hstop:∀(D:Nat) (c:Code) (k:Nat) (W:World),w.heap.size≤D→k≤es.length→Ix c k W→W.heap[D]?=some (.deferred (some []))→c.wp P Q { a with defers:=mk D :: a.defers } W) :
  (Code.rangeFunc g ps assign body).wp P Q a w:=by
 refine(wpIn_wide (n:=0)).1 (wpIn_rangeFunc fun fn hfn=>?_)
 obtain⟨rec,hrec⟩:∃rec:LoopState→Option Code→Loop,rec=fun st pe=>{ state:=st,pending:=pe,fn,tmps:=a.tmps,params:=ps,assign,body,defers:=w.heap.size }:=⟨_,rfl⟩
 obtain⟨W1,hW1⟩:=aC ((w.alloc (.deferred (some []))).alloc (.loop (rec .ready none)))
 have hL1:W1.heap[w.heap.size + 1]?=some (.loop (rec .ready none)):=by
  rw[←hW1]
  have:=World.alloc_heap_new (w.alloc (.deferred (some []))) (.loop (rec .ready none))
  rwa [World.size_alloc]at this
 have hD1:W1.heap[w.heap.size]?=some (.deferred (some [])):=by
  rw[←hW1]
  exact(Below.heap_alloc _ _ _ (by simp)).trans (World.alloc_heap_new w _)
 have hB1:Bk w.heap.size w W1:=by rw[←hW1]; exact(Bk.alloc _ _ _).trans (Bk.alloc _ _ _)
 have hlt1:w.heap.size + 1 < W1.heap.size:=(Array.getElem?_eq_some_iff.1 hL1).1
 refine⟨w.heap.size + 1,[mk w.heap.size],W1,{ target:=.fn (.func gf) lb,args:=#[.func (.yield (w.heap.size + 1)) #[] #[]] },W1,gf,#[.func (.yield (w.heap.size + 1)) #[] #[]]++lb,W1,?_,?_,fun _ _=>trivial,?_,(fun h=>nomatch h),callsIn_wide.2 ?_⟩
 ·rw[←hW1,hrec]
  exact run_enterLoop_outer _ _ _ _ _
 ·simp only[resolve,hg]
  simp[go_sem]
 ·simp[invoke,go_sem,eg]
 refine(hit W1 hB1 (w.heap.size + 1) (fun k W=>I k W∧W.heap[w.heap.size + 1]?=some (.loop (rec .ready none))∧W.heap[w.heap.size]?=some (.deferred (some [])))
  (fun k W=>∃c,Ix c k W∧W.heap[w.heap.size + 1]?=some (.loop (rec .done (some c)))∧W.heap[w.heap.size]?=some (.deferred (some [])))
  (fun k A B h hr=>⟨hI k A B h.1 (.inl ⟨_,hB1.size,hr⟩),hRb _ A B hr _ _ hlt1 h.2.1 rfl,hRb _ A B hr _ _ (by omega) h.2.2 rfl⟩) (fun k A B ⟨c,h1,h2,h3⟩ hr=>⟨c,hIx c k A B h1 (.inl ⟨_,hB1.size,hr⟩),hRb _ A B hr _ _ hlt1 h2 rfl,hRb _ A B hr _ _ (by omega) h3 rfl⟩)
  ?_ ⟨hI 0 w W1 h0 (.inr hB1),hL1,hD1⟩).mono ?_
 ·intro k hk W ⟨hi,hl,hd⟩
  have hlt:w.heap.size + 1 < W.heap.size:=(Array.getElem?_eq_some_iff.1 hl).1
  have hy:=run_yield (P:=P) (args:=es[k]) hl (by rw[hrec]; exact hps _ (List.getElem_mem hk))
  rw[hrec]at hy
  refine⟨fn,_,assign,body,hy,roundIn_of_wpIn hfn (hassign _ k hk W _ hi fun a' Wa hba hA=>?_)⟩
  have ba:Bk w.heap.size W Wa:=⟨hba.os,hba.tape,hba.output,hba.size,fun k hk=>.inl (hba.block k hk)⟩
  have hla:Wa.heap[w.heap.size + 1]?=some (.loop (rec .ready none)):=(hba.block _ hlt).trans hl
  have hda:Wa.heap[w.heap.size]?=some (.deferred (some [])):=(hba.block _ (by omega)).trans hd
  refine⟨_,run_beginRound hla (by rw[hrec]),?_⟩
  have hb2:Bk w.heap.size Wa (Wa.putObj (w.heap.size + 1) (.loop { rec .ready none with state:=.busy })):=Bk.put _ (by omega) hla rfl
  have hl2:(Wa.putObj (w.heap.size + 1) (.loop { rec .ready none with state:=.busy })).heap[w.heap.size + 1]?=some (.loop { rec .ready none with state:=.busy }):=World.putObj_heap_same (Array.getElem?_eq_some_iff.1 hla).1
  have hd2:(Wa.putObj (w.heap.size + 1) (.loop { rec .ready none with state:=.busy })).heap[w.heap.size]?=some (.deferred (some [])):=(World.putObj_heap_other (by omega)).trans hda
  refine wpIn_mono (hbody _ k hk a' _ (hI k _ _ (hI k _ _ hi (.inr ba)) (.inr hb2)) (hAs _ _ _ _ hA hb2)) ?_
  have fin:∀(jump:Option Code) (W3:World),QN w.heap.size (Wa.putObj (w.heap.size + 1) (.loop { rec .ready none with state:=.busy })) W3 →
    ∃W4,(Instr.endRound (w.heap.size + 1) jump).run P W3=.ok (.bool jump.isNone) W4∧QN W1.heap.size W W4∧Bk w.heap.size W3 W4∧W4.heap[w.heap.size + 1]?=some (.loop (rec (if jump.isNone then .ready else .done) jump))∧W4.heap[w.heap.size]?=some (.deferred (some [])):=fun jump W3 hk3=>by
   have hl3:=hk3 _ _ (Nat.le_succ _) hl2 rfl
   have:=run_endRound (P:=P) jump hl3
   rw[hrec]at this ⊢
   exact⟨_,this,fun k o hn ho hb=>(World.putObj_heap_other (by omega)).trans (hk3 k o (by omega) ((World.putObj_heap_other (by omega)).trans ((hba.block _ (Array.getElem?_eq_some_iff.1 ho).1).trans ho)) hb),Bk.put _ (by omega) hl3 rfl,World.putObj_heap_same (Array.getElem?_eq_some_iff.1 hl3).1,(World.putObj_heap_other (by omega)).trans (hk3 _ _ nR hd2 rfl)⟩
  rintro e a3 W3 hp
  cases e with
  |normal=>
   obtain⟨hk3,hkp3,hi3⟩:=hp
   obtain⟨W4,hr,hf4,hb4,hl4,hd4⟩:=fin none W3 hk3
   exact⟨_,W4,hr,hf4,.inl ⟨rfl,⟨hI _ _ _ hi3 (.inr hb4),hl4,hd4⟩,hKt (hKt (hKb _ _ ba) (hKt (hKb _ _ hb2) hkp3)) (hKb _ _ hb4)⟩⟩
  |ret=>
   obtain⟨hk3,hi3⟩:=hp
   obtain⟨W4,hr,hf4,hb4,hl4,hd4⟩:=fin (some .ret) W3 hk3
   exact⟨_,W4,hr,hf4,.inr ⟨rfl,.ret,hIx _ _ _ _ hi3 (.inr hb4),hl4,hd4⟩⟩
  |exit id=>
   obtain⟨hk3,hi3⟩:=hp
   obtain⟨W4,hr,hf4,hb4,hl4,hd4⟩:=fin (some (.exit id)) W3 hk3
   exact⟨_,W4,hr,hf4,.inr ⟨rfl,.exit id,hIx _ _ _ _ hi3 (.inr hb4),hl4,hd4⟩⟩
  |goto t=>
   obtain⟨hk3,hi3⟩:=hp
   obtain⟨W4,hr,hf4,hb4,hl4,hd4⟩:=fin (some (.goto t)) W3 hk3
   exact⟨_,W4,hr,hf4,.inr ⟨rfl,.goto t,hIx _ _ _ _ hi3 (.inr hb4),hl4,hd4⟩⟩
  |panic ch=>exact hp.elim
  |outgrown=>exact hp.elim
 ·rintro e W2 ⟨⟨v,rfl⟩,(⟨hi,hl,hd⟩|⟨k,hk,c,hi,hl,hd⟩)⟩
  ·have hr:=run_endLoop (P:=P) hl (by rw[hrec]; simp)
   rw[hrec]at hr hl
   exact⟨none,_,hr,hdone _ _ nR (hI _ _ _ hi (.inr (Bk.put _ (by omega) hl rfl))) ((World.putObj_heap_other (by omega)).trans hd)⟩
  ·have hr:=run_endLoop (P:=P) hl (by rw[hrec]; simp)
   rw[hrec]at hr hl
   exact⟨some c,_,hr,(wpIn_wide (n:=0)).2 (hstop _ c k _ nR hk (hIx _ _ _ _ hi (.inr (Bk.put _ (by omega) hl rfl))) ((World.putObj_heap_other (by omega)).trans hd))⟩
theorem jZ{g:Operand}{ps:Array Tmp}{assign body:Code}{Q:Exit→Act→World→Prop}{a:Act}{w:World}
  {gf:Nat} {lb:Array Value} (hg:a.eval g=.func (.func gf) #[] lb) (eg:∀args w,(callFunc gf args).run P w=.ok (.enter gf args) w)
  {es:List (Array Value)} {R:Nat→World→World→Prop} {Kp:World→World→Prop} (hit:∀W1,Bk w.heap.size w W1→uF P gf lb es R Kp W1)
  (hKt:∀{A B C:World},Kp A B→Kp B C→Kp A C) (hKb:∀A B,Bk w.heap.size A B→Kp A B) (hRb:∀n A B,R n A B→∀(k:Nat) (o:Obj),k < n→A.heap[k]?=some o→uf o=true→B.heap[k]?=some o)
  (hps:∀e∈es,e.size=ps.size)
  (I:Nat→World→Prop) (Ix:Code→Nat→World→Prop) (hI:∀k A B,I k A→(∃n,w.heap.size≤n∧R n A B)∨Bk w.heap.size A B→I k B) (hIx:∀c k A B,Ix c k A→(∃n,w.heap.size≤n∧R n A B)∨Bk w.heap.size A B→Ix c k B) (h0:I 0 w) (a₁:Nat→Act)
  (hassign:∀(l k:Nat) (hk:k < es.length) (W:World) (K:Act→World→Prop),K (a₁ k) W →
   assign.wpIn (Fence.wide.inRound l) 0 P (Exit.then K (fun _ _ _=>False)) { tmps:=(ps.zip es[k]).foldl (fun t (p,v)=>t.setIfInBounds p v) a.tmps,defers:=[] } W)
  (hbody:∀(l k:Nat) (_:k < es.length) (W:World),I k W→body.wpIn (Fence.wide.inRound l) 0 P (Md Kp I Ix k W) (a₁ k) W)
  (hdone:∀(D:Nat) (W:World),w.heap.size≤D→I es.length W→W.heap[D]?=some (.deferred (some []))→Q .normal { a with defers:=mk D :: a.defers } W)
  (hstop:∀(D:Nat) (c:Code) (k:Nat) (W:World),w.heap.size≤D→k≤es.length→Ix c k W→W.heap[D]?=some (.deferred (some []))→c.wp P Q { a with defers:=mk D :: a.defers } W) :
  (Code.rangeFunc g ps assign body).wp P Q a w:=
 BM hg eg hit hKt hKb hRb hps I Ix hI hIx h0 (fun k a' _=>a'=a₁ k) (fun _ _ _ _ h _=>h) (fun l k hk W K _ h=>hassign l k hk W K (h _ _ bR rfl)) (fun l k hk _ W hi e=>e ▸ wpIn_mono (hbody l k hk W hi) Md.wide) hdone hstop
def Marks(B:Nat)(w:World):List Deferred→Prop
 |[]=>True
 |d :: ds=>(∃D,d=mk D∧B≤D∧w.heap[D]?=some (.deferred (some []))∧mk D∉ds)∧Marks B w ds
theorem Marks.keep{B:Nat}{w w':World}:∀{ds:List Deferred},Marks B w ds→(∀D,mk D∈ds→w.heap[D]?=some (.deferred (some []))→w'.heap[D]?=some (.deferred (some [])))→Marks B w' ds
 |[],_,_=>trivial
 |d :: ds,⟨⟨D,e,hB,h,hn⟩,hs⟩,hk=>⟨⟨D,e,hB,hk D (by rw[e]; exact List.mem_cons_self) h,hn⟩,hs.keep fun D' hD'=>hk D' (List.mem_cons_of_mem _ hD')⟩
theorem Marks.kb{B:Nat}{w w':World}{ds:List Deferred}(h:Marks B w ds)(hk:KB w w'):Marks B w' ds:=h.keep fun D _ hD=>hk D _ hD rfl
theorem Marks.kbf{B:Nat}{w w':World}(hk:QN B w w'):∀{ds:List Deferred},Marks B w ds→Marks B w' ds
 |[],_=>trivial
 |_ :: _,⟨⟨D,e,hB,h,hn⟩,hs⟩=>⟨⟨D,e,hB,hk D _ hB h rfl,hn⟩,Marks.kbf hk hs⟩
theorem Marks.lt{B:Nat}{w:World}:∀{ds:List Deferred},Marks B w ds→∀D,mk D∈ds→D < w.heap.size
 |d :: ds,⟨⟨D,e,_,h,_⟩,hs⟩,D',hm=>by
  rcases List.mem_cons.1 hm with e'|e'
  ·rw[e]at e'
   unfold mk at e'
   injection e' with e' _
   injection e' with e'
   subst e'
   exact(Array.getElem?_eq_some_iff.1 h).1
  ·exact hs.lt D' e'
theorem Marks.bk{B B':Nat}{w w':World}{ds:List Deferred}(h:Marks B w ds)(hk:Bk B' w w')(hB:∀D,mk D∈ds→D < B'):Marks B w' ds:=h.keep fun D hm hD=>(hk.low (Array.getElem?_eq_some_iff.1 hD).1 (hB D hm)).trans hD
theorem leaves{fn:Func}{tmps:Array Value}{R:Ending→World→Prop}(B:Nat):∀(ds:List Deferred) (w:World),Marks B w ds→(∀w',Bk B w w'→∃v,(results fn tmps).run P w'=.ok v w'∧R (.returned v) w') →
  LeavesInM Fence.wide 0 P fn tmps R ds .returning w
 |[],w,_,h=>h w (Bk.refl _ _)
 |d :: ds,w,⟨⟨D,e,hB,hD,hn⟩,hs⟩,h=>by
  subst e
  refine⟨by simp,.inl ⟨D,_,rfl,run_takeDeferred hD,leaves B ds _ (hs.keep fun D' hm hD'=>?_) fun w' hb=>h w' ((Bk.put _ hB hD rfl).trans hb)⟩⟩
  refine(World.putObj_heap_other (fun e=>?_)).trans hD'
  subst e
  exact hn hm
abbrev RN(P:Program)(fn:Func)(R:Ending→World→Prop):Exit→Act→World→Prop:=bodyPostM Fence.wide 0 P fn R
theorem bQ{f:FuncId}{fn:Func}{c:Code}{args:Array Value}{w:World}{R:Ending→World→Prop}(hf:P.funcs[f]?=some fn)(hb:fn.body=some c)
  (h:c.wp P (RN P fn R) { tmps:=args++Array.replicate (fn.ntmps - args.size) undef,defers:=[] } w):Calls P f args w R:=
 (callsIn_wide (n:=0)).1 (callsIn_of_wp_marks hf hb trivial ((wpIn_wide (n:=0)).2 h))
theorem dG{fn:Func}{R:Ending→World→Prop}{a:Act}{w:World}(B:Nat)(hm:Marks B w a.defers)(h:∀w',Bk B w w'→∃v,(results fn a.tmps).run P w'=.ok v w'∧R (.returned v) w'):RN P fn R .ret a w:=leaves B _ _ hm h
theorem CJ{fn:Func}{R:Ending→World→Prop}{a:Act}{w:World}(B:Nat)(hm:Marks B w a.defers)(h:∀w',Bk B w w'→∃v,(results fn a.tmps).run P w'=.ok v w'∧R (.returned v) w'):RN P fn R .normal a w:=leaves B _ _ hm h
theorem Oe{K K':Act→World→Prop}{Q:Exit→Act→World→Prop}(h:∀a w,K a w→K' a w):∀e a w,Exit.then K Q e a w→Exit.then K' Q e a w
 |.normal,_,_,hk=>h _ _ hk
 |.ret,_,_,hk=>hk
 |.exit _,_,_,hk=>hk
 |.goto _,_,_,hk=>hk
 |.panic _,_,_,hk=>hk
 |.outgrown,_,_,hk=>hk
theorem SH{F:Fence}{n:Nat}{c:Code}{Q:Exit→Act→World→Prop}(I:Nat→Act→World→Prop)(hstep:∀m a w,I m a w→c.wpIn F n P (Exit.then (fun a' w'=>∃m',m' < m∧I m' a' w') Q) a w){m:Nat}{a:Act}{w:World}(h:I m a w) :
  (Code.loop c).wpIn F n P Q a w:=by
 have go:∀(M m:Nat) (a:Act) (w:World),m < M→I m a w→Code.roundsIn F n P c Q M a w:=by
  intro M
  induction M with
  |zero=>intro m a w hm _; omega
  |succ M ih=>
   intro m a w hm hi
   rw[roundsIn_succ]
   refine wpIn_mono (hstep m a w hi) (Oe fun a' w' ⟨m',hlt,hi'⟩=>ih m' a' w' (by omega) hi')
 exact wpIn_loop_rounds (m + 1) (go _ m a w (by omega) h)
structure ST(T:TypeId→Bool)(B:Nat)(A A':World):Prop where
 os:A'.os=A.os
 tape:A'.tape=A.tape
 output:A'.output=A.output
 size:A.heap.size≤A'.heap.size
 far:∀(k:Nat) (o:Obj),A.heap[k]?=some o→(B≤k→uf o=false∧∀cur ty fr,o=.cells cur ty fr→T ty=false)→A'.heap[k]?=some o
theorem ST.refl(T:TypeId→Bool)(B:Nat)(A:World):ST T B A A:=⟨rfl,rfl,rfl,nR,fun _ _ h _=>h⟩
theorem ST.trans{T:TypeId→Bool}{B:Nat}{A A' ZA:World}(h:ST T B A A')(k:ST T B A' ZA):ST T B A ZA:=
 ⟨k.os.trans h.os,k.tape.trans h.tape,k.output.trans h.output,Nat.le_trans h.size k.size,fun i o hi h1=>k.far i o (h.far i o hi h1) h1⟩
theorem ST.bk{T:TypeId→Bool}{B B':Nat}{A A':World}(h:Bk B' A A')(hB:B≤B'):ST T B A A':=⟨h.os,h.tape,h.output,h.size,fun k o hk h1=>by
 rcases h.far k (Array.getElem?_eq_some_iff.1 hk).1 with e|⟨e1,o',e2,e3⟩
 ·exact e.trans hk
 ·rw[hk]at e2
  cases e2
  rw[(h1 (by omega)).1]at e3
  cases e3⟩
theorem ST.below{T:TypeId→Bool}{B:Nat}{A A':World}(h:bz A A'):ST T B A A':=⟨h.os,h.tape,h.output,h.size,fun k _ hk _=>(h.block k (Array.getElem?_eq_some_iff.1 hk).1).trans hk⟩
theorem ST.set{T:TypeId→Bool}{B:Nat}{A:World}{a:Addr}{cur:Array Value}{ty:TypeId}{fr:Nat×Nat}(h:A.heap[a.block]?=some (.cells cur ty fr))(ht:T ty=true)(hB:B≤a.block)(u:Value):ST T B A (A.setCell a u):=
 ⟨rfl,rfl,rfl,by simp[World.setCell],fun k o hk h2=>(Below.heap_setCell A a u k fun e=>by
  subst e
  rw[h]at hk
  injection hk with hk
  rw[(h2 hB).2 _ _ _ hk.symm]at ht
  cases ht).trans hk⟩
theorem ST.grown{T:TypeId→Bool}{B:Nat}{A A':World}{row:Option Nat}(hg:A.grownBy A' row)(hr:∀j,row=some j→A.heap.size≤j∨(B≤j∧∃cur ty fr,A.heap[j]?=some (.cells cur ty fr)∧T ty=true)):ST T B A A':=
 ⟨hg.os,hg.tape,hg.output,hg.size,fun k o hk h2=>(hg.block k (Array.getElem?_eq_some_iff.1 hk).1 fun e=>by
  have hlt:=(Array.getElem?_eq_some_iff.1 hk).1
  rcases hr k e.symm with h|⟨hB,cur,ty,fr,h,ht⟩
  ·omega
  ·rw[h]at hk
   injection hk with hk
   rw[(h2 hB).2 _ _ _ hk.symm]at ht
   cases ht).trans hk⟩
theorem ST.keeps{T:TypeId→Bool}{B:Nat}{A A':World}(h:ST T B A A'):∀(k:Nat) (o:Obj),k < B→A.heap[k]?=some o→uf o=true→A'.heap[k]?=some o:=fun k o hk ho _=>h.far k o ho (fun e=>by omega)
theorem ST.cells{T:TypeId→Bool}{B:Nat}{A A':World}(h:ST T B A A'){k:Nat}{cur:Array Value}{ty:TypeId}{fr:Nat×Nat}(hk:A.heap[k]?=some (.cells cur ty fr))(ht:T ty=false):A'.heap[k]?=A.heap[k]?:=
 (h.far k _ hk (fun _=>⟨rfl,fun _ _ _ e=>by injection e with _ e _; rw[←e]; exact ht⟩)).trans hk.symm
theorem ST.aQ{T:TypeId→Bool}{B n:Nat}{A A':World}(h:ST T B A A')(hn:n≤B)(hs:n≤A.heap.size):Below n A A':=⟨h.os,h.tape,h.output,h.size,fun k hk=>by
 have hlt:k < A.heap.size:=by omega
 have e:A.heap[k]?=some A.heap[k]:=Array.getElem?_eq_getElem hlt
 rw[e]
 exact h.far k _ e (fun e=>by omega)⟩
structure KT(T:TypeId→Bool)(A A':World):Prop where
 size:A.heap.size≤A'.heap.size
 same:∀(k:Nat) (cur:Array Value) (ty:TypeId) (fr:Nat×Nat),A.heap[k]?=some (.cells cur ty fr)→T ty=true→A'.heap[k]?=some (.cells cur ty fr)
theorem KT.refl(T:TypeId→Bool)(A:World):KT T A A:=⟨nR,fun _ _ _ _ h _=>h⟩
theorem KT.trans{T:TypeId→Bool}{A A' ZA:World}(h:KT T A A')(k:KT T A' ZA):KT T A ZA:=⟨Nat.le_trans h.size k.size,fun i c ty fr hi ht=>k.same i c ty fr (h.same i c ty fr hi ht) ht⟩
theorem KT.bk{T:TypeId→Bool}{B:Nat}{A A':World}(h:Bk B A A'):KT T A A':=⟨h.size,fun _ _ _ _ hk _=>h.keep hk rfl⟩
theorem KT.below{T:TypeId→Bool}{A A':World}(h:bz A A'):KT T A A':=⟨h.size,fun k _ _ _ hk _=>(h.block k (Array.getElem?_eq_some_iff.1 hk).1).trans hk⟩
theorem KT.grown{T:TypeId→Bool}{A A':World}{row:Option Nat}(hg:A.grownBy A' row)(hr:∀j cur ty fr,row=some j→A.heap[j]?=some (.cells cur ty fr)→T ty=false):KT T A A':=
 ⟨hg.size,fun k cur ty fr hk ht=>(hg.block k (Array.getElem?_eq_some_iff.1 hk).1 fun e=>by
  rw[hr k cur ty fr e.symm hk]at ht
  cases ht).trans hk⟩
theorem KT.st{T T':TypeId→Bool}{B:Nat}{A A':World}(h:ST T' B A A')(hd:∀ty,T ty=true→T' ty=false):KT T A A':=⟨h.size,fun _ _ ty _ hk ht=>(h.cells hk (hd ty ht)).trans hk⟩
theorem KT.set{T:TypeId→Bool}{A:World}{a:Addr}{cur:Array Value}{ty:TypeId}{fr:Nat×Nat}(h:A.heap[a.block]?=some (.cells cur ty fr))(ht:T ty=false)(u:Value):KT T A (A.setCell a u):=
 ⟨by simp[World.setCell],fun k c t f hk hT=>(Below.heap_setCell A a u k fun e=>by
  subst e
  rw[h]at hk
  injection hk with hk
  injection hk with _ hk _
  rw[←hk,ht]at hT
  cases hT).trans hk⟩
theorem Wx{l n:Nat}{row:String}{args:Array Value}{w:World}{R:Value→World→Prop}(h:Rows P row args w R):RowsIn (Fence.wide.inRound l) n P row args w R:=fun c cs _=>
 let ⟨v,w',r,s⟩:=h c cs
 ⟨v,w',r,stepsIn_wide.2 s⟩
theorem DY{l:Nat}{o:Oper}{a:Act}{w:World}{K:Act→World→Prop}{Q:Exit→Act→World→Prop}(hd:∀c,o.op≠.defer c)(h:o.wp P a w K Q):o.wpIn (Fence.wide.inRound l) 0 P a w K Q:=by
 refine⟨fun _ _=>trivial,?_⟩
 unfold Oper.wp at h
 rw[show(Fence.wide.inRound l).round=some l from rfl,Oper.semAt_eq _ _ _ hd]
 generalize (execOp a.eval o).run P w=r at*
 cases r with
 |ok x w'=>
  cases x <;> simp only[Oper.upon,Oper.uponIn]at h ⊢ <;> first
   |exact h
   |exact⟨(fun e=>nomatch e),callsIn_wide.2 h⟩
   |exact⟨(fun e=>nomatch e),Wx h⟩
 |halt x w'=>cases x <;> simp only[Oper.upon,Oper.uponIn]at h ⊢ <;> exact h
def tN(l:List Oper):Bool:=l.all fun o=>match o.op with|.defer _=>false|_=>true
theorem D8{l:List Oper}(h:tN l=true):∀o∈l,∀c,o.op≠.defer c:=by
 intro o ho c e
 unfold tN at h
 rw[List.all_eq_true]at h
 have:=h o ho
 rw[e]at this
 cases this
theorem qV{l:Nat}{ops:Array Oper}{rest:List Oper}{o:Oper}{a:Act}{Q:Exit→Act→World→Prop}{w:World}(hgd:Region.wanted o (yielded ops a.tmps)=true)(s x:Operand)(t t2 ty:TypeId)
  (ho:o.op=.call { callee:=.builtin .append,args:=#[s,x],argTypes:=#[t,t2] }) (hty:o.type=ty) (sv xv v':Value) (w':World) (hs:a.eval s=sv) (hx:a.eval x=xv)
  (hrun:(Builtin.append_ #[t,t2] ty #[sv,xv]).run P w=.ok v' w') (h:wpListIn (Fence.wide.inRound l) 0 P ops Q rest (a.put o.dst v') w'):wpListIn (Fence.wide.inRound l) 0 P ops Q (o :: rest) a w:=by
 subst hty
 unfold wpListIn
 rw[if_pos hgd]
 refine⟨fun _ _=>trivial,?_⟩
 rw[Oper.semAt_eq _ _ _ (fun c e=>by rw[ho]at e; cases e)]
 unfold execOp
 simp only[ho,resolve,invoke,builtin,Sem.run_bind,Sem.run_pure,Result.andThen_ok,List.map_toArray,List.map_cons,List.map_nil,hs,hx,hrun]
 exact h
end Go.Proofs.YthmegninhpihkaaGreat.xk
namespace Go.Proofs.YthmegninhpihkaaGreat.CG
open Go.RowKit regs bM xk
section
variable {P:Program}{ops:Array Oper}{Q:Exit→Act→World→Prop}{ln:Nat}
variable {R:World→World→Prop}{J:(Nat→Bool)→(Tmp→Value)→World→Prop}{a0:Act}{w0:World}{F:Nat→Value→World→Prop}
theorem lU(GL:∀o∈ops.toList,∀c,o.op≠.defer c)(hR:∀w,R w w)(hT:∀a b c,R a b→R b c→R a c)(hmono:∀k v w w',F k v w→R w w'→F k v w')(hnd:(ops.toList.filterMap (·.dst)).Nodup)(hin:∀o∈ops.toList,∀d,o.dst=some d→d < a0.tmps.size)
  (hback:∀(i:Nat) (o:Oper),ops[i]?=some o→∀e∈o.after,Region.binds .any e=true→e.on < i) (hs:∀(i:Nat) (o:Oper),ops[i]?=some o→bC R J P ops Q a0 w0 F i o)
  (hend:∀L a w,(∀i,i < ops.size→L i=true)→J L (sl a) w→a.defers=a0.defers→a.tmps.size=a0.tmps.size→R w0 w→(∀s,(∀o∈ops.toList,o.dst≠some s)→a.tmps.getD s undef=a0.tmps.getD s undef) →
   (∀(k:Nat) (o:Oper) (d:Tmp),ops[k]?=some o→o.dst=some d→F k (a.tmps.getD d undef) w)→Q .normal a w) :
  ∀(fuel:Nat) (listed:Array Bool) (a:Act) (w:World),listed.toList.count false≤fuel→Inv R J ops a0 w0 F listed a w→wpAnyIn (Fence.wide.inRound ln) 0 P .any ops Q fuel listed a w:=by
 have stop:∀(listed:Array Bool) (a:Act) (w:World),Inv R J ops a0 w0 F listed a w→Region.ready .any ops listed=[]→Q .normal a w:=fun listed a w h hr=>
  hend _ a w (fP h.size hback hr) h.st h.defers h.tmps h.rel h.old fun k o d hk hd=>h.facts k o d hk hd (fP h.size hback hr k (by
   rcases Nat.lt_or_ge k ops.size with hlt|hge
   ·exact hlt
   ·rw[Array.getElem?_eq_none hge]at hk; cases hk))
 intro fuel
 induction fuel with
 |zero=>
  intro listed a w hc h
  have hr:Region.ready .any ops listed=[]:=by
   unfold Region.ready
   rw[List.filter_eq_nil_iff]
   intro i hi
   have hi':i < listed.size:=by rw[h.size]; simpa using hi
   have hno:false∉listed.toList:=List.count_eq_zero.1 (by omega)
   have:listed.getD i true=true:=by
    simp only[Array.getD_eq_getD_getElem?,Array.getElem?_eq_getElem hi',Option.getD_some]
    cases hb:listed[i]with
    |true=>rfl
    |false=>exact absurd (by rw[←hb]; exact Array.getElem_mem_toList hi') hno
   rw[this]
   simp
  exact⟨hr,stop listed a w h hr⟩
 |succ fuel ih=>
  intro listed a w hc h
  refine⟨stop listed a w h,fun i hi=>?_⟩
  unfold Region.ready at hi
  rw[List.mem_filter]at hi
  obtain⟨hi1,hi2⟩:=hi
  have hi':i < ops.size:=by simpa using hi1
  have hil:i < listed.size:=by rw[h.size]; exact hi'
  have ho:ops[i]?=some ops[i]:=by simp[hi']
  rw[ho]at hi2
  simp only[Option.map_some,Option.getD_some,Bool.and_eq_true,Bool.not_eq_true',Array.all_eq_true_iff_forall_mem,Bool.or_eq_true]at hi2
  obtain⟨hun,xq⟩:=hi2
  have hst:=hs i _ ho (fun k=>listed.getD k false) a w h.defers h.tmps h.rel h.st (by
   simp only[Array.getD_eq_getD_getElem?,Array.getElem?_eq_getElem hil,Option.getD_some]at hun ⊢
   exact hun) h.old (fun e he hb=>by
   rcases xq e he with hx|hx
   ·rw[hb]at hx; cases hx
   ·exact hx) (fun e he hb ok d hok hd=>h.facts e.on ok d hok hd (by
   rcases xq e he with hx|hx
   ·rw[hb]at hx; cases hx
   ·exact hx))
  have hcnt:(listed.setIfInBounds i true).toList.count false≤fuel:=by
   have hf:listed.toList[i]'(by simpa using hil)=false:=by
    simp only[Array.getD_eq_getD_getElem?,Array.getElem?_eq_getElem hil,Option.getD_some]at hun
    simpa using hun
   rw[Array.toList_setIfInBounds,List.count_set (by simpa using hil),hf]
   show List.count false listed.toList - 1 + 0≤fuel
   omega
  unfold wpOpIn
  rw[ho]
  simp only
  split
  ·rename_i hw
   rw[if_pos hw]at hst
   refine DY (GL _ (by rw[←Array.getElem?_toList]at ho; exact List.mem_of_getElem? ho)) (Oper.wp_mono (fun a' w' hh=>?_) hst)
   obtain⟨v,rfl,hb,hF,hJ⟩:=hh
   exact ih _ _ _ hcnt (h.step hT hmono hnd hin ho hb hF hJ)
  ·rename_i hw
   rw[if_neg hw]at hst
   exact⟨fun _ _=>trivial,ih _ _ _ hcnt (h.step hT hmono hnd hin ho (hR _) hst.1 hst.2)⟩
theorem gz{l:List Oper}{id:Nat}(hm:P.follows .mixedOrders=true)(GL:tN l=true)(hR:∀w,R w w)(hT:∀a b c,R a b→R b c→R a c)(F:Nat→Value→World→Prop)(hmono:∀k v w w',F k v w→R w w'→F k v w')(jI:chk l a0.tmps.size=true)
  (hD:R w0 w0.drew) (h0:J (fun _=>false) (sl a0) w0.drew) (hs:dF R J P l.toArray Q a0 w0 F 0 l)
  (hend:∀L a w,(∀i,i < l.length→L i=true)→J L (sl a) w→a.defers=a0.defers→a.tmps.size=a0.tmps.size→R w0 w→(∀s,(∀o∈l,o.dst≠some s)→a.tmps.getD s undef=a0.tmps.getD s undef) →
   (∀(k:Nat) (o:Oper) (d:Tmp),l[k]?=some o→o.dst=some d→F k (a.tmps.getD d undef) w)→Q .normal a w) :
  (Code.region id l.toArray true).wpIn (Fence.wide.inRound ln) 0 P Q a0 w0:=by
 unfold chk at jI
 simp only[Bool.and_eq_true,decide_eq_true_eq]at jI
 obtain⟨⟨h1,h2⟩,h3⟩:=jI
 have hback:∀(i:Nat) (o:Oper),l.toArray[i]?=some o→∀e∈o.after,Region.binds .any e=true→e.on < i:=by
  intro i o ho e he hb
  rw[List.all_eq_true]at h1
  have:=h1 (o,i) (List.mem_zipIdx_iff_getElem?.2 (by simpa using ho))
  rw[Array.all_eq_true_iff_forall_mem]at this
  have h5:=this e he
  rw[hb]at h5
  simpa using h5
 have hin:∀o∈l,∀d,o.dst=some d→d < a0.tmps.size:=by
  intro o ho d hd
  rw[List.all_eq_true]at h3
  have:=h3 o ho
  rw[hd]at this
  simpa using this
 refine wpIn_region_any hm (lU (GL:=by simpa using D8 GL) (R:=R) (J:=J) (F:=F) (a0:=a0) (w0:=w0) hR hT hmono h2 hin hback (fun i o ho=>?_) (fun L a w hL hJ h4 h5 h6 h7 h8=>hend L a w (by simpa using hL) hJ h4 h5 h6 h7 fun k o d hk hd=>h8 k o d (by simpa using hk) hd) _ _ _ _ ?_ ?_)
 ·have:=hs.at_ i o (by simpa using ho)
  rw[Nat.zero_add]at this
  exact this
 ·simp
 ·have hL:(fun k=>(Array.replicate l.toArray.size false).getD k false)=fun _=>false:=by
   funext k
   simp[Array.getD_eq_getD_getElem?,Array.getElem?_replicate]
   split <;> rfl
  refine⟨by simp,rfl,rfl,hD,by rw[hL]; exact h0,fun _ _=>rfl,fun k o d hk hd hl=>?_⟩
  exfalso
  simp[Array.getD_eq_getD_getElem?,Array.getElem?_replicate]at hl
  split at hl <;> simp at hl
theorem gV{l:List Oper}{id:Nat}(R:World→World→Prop)(J:(Nat→Bool)→(Tmp→Value)→World→Prop)(hm:P.follows .mixedOrders=true)(GL:tN l=true)(hR:∀w,R w w)(hT:∀a b c,R a b→R b c→R a c)(F:Nat→Value→World→Prop)(hmono:∀k v w w',F k v w→R w w'→F k v w')(jI:chk l a0.tmps.size=true)
  (hD:R w0 w0.drew) (h0:J (fun _=>false) (sl a0) w0.drew) (hs:dF R J P l.toArray Q a0 w0 F 0 l)
  (hend:∀L a w,(∀i,i < l.length→L i=true)→J L (sl a) w→a.defers=a0.defers→a.tmps.size=a0.tmps.size→R w0 w→(∀s,kept l s=true→a.tmps.getD s undef=a0.tmps.getD s undef) →
   (∀k d,dh l k=some d→F k (a.tmps.getD d undef) w)→Q .normal a w) :
  (Code.region id l.toArray true).wpIn (Fence.wide.inRound ln) 0 P Q a0 w0:=
 gz hm GL hR hT F hmono jI hD h0 hs fun L a w hL hJ h1 h2 h3 h4 h5=>hend L a w hL hJ h1 h2 h3 (fun s hs=>h4 s (nM hs)) fun k d hd=>by
  unfold dh at hd
  obtain⟨ok,ho,hd⟩:=Option.bind_eq_some_iff.1 hd
  exact h5 k ok d ho hd
theorem dL{l:List Oper}{id:Nat}(R:World→World→Prop)(J:(Nat→Bool)→(Tmp→Value)→World→Prop)(ds:List Tmp)(hm:P.follows .mixedOrders=true)(GL:tN l=true)(hds:l.filterMap (·.dst)=ds)(hR:∀w,R w w)(hT:∀a b c,R a b→R b c→R a c)(F:Nat→Value→World→Prop)(hmono:∀k v w w',F k v w→R w w'→F k v w')(jI:chk l a0.tmps.size=true)
  (hD:R w0 w0.drew) (h0:J (fun _=>false) (sl a0) w0.drew) (hs:dF R J P l.toArray Q a0 w0 F 0 l)
  (hend:∀(L:Nat→Bool) (w:World) (val:Tmp→Value),(∀i,i < l.length→L i=true)→J L val w→R w0 w→(∀k d,dh l k=some d→F k (val d) w)→Q .normal (aG a0 (ds.map fun d=>(d,val d))) w) :
  (Code.region id l.toArray true).wpIn (Fence.wide.inRound ln) 0 P Q a0 w0:=by
 refine gV R J hm GL hR hT F hmono jI hD h0 hs fun L a w hL hJ h1 h2 h3 h4 h5=>?_
 have e:=vF h2 h1 h4
 rw[hds]at e
 have:=hend L w (fun d=>a.tmps.getD d undef) hL hJ h3 h5
 rw[←e]at this
 exact this
end
end Go.Proofs.YthmegninhpihkaaGreat.CG
namespace Go.Proofs.YthmegninhpihkaaGreat
open Go.RowKit
theorem regs.Hand.d{R:World →World →Prop}{l:List Oper}{a0:Act}{w0:World}{F:Nat →Value →World →Prop}{i:Nat}{o:Oper}{J:(Nat →Bool) →World →Prop}{L:Nat →Bool}{a:Act}{w:World}(hh:regs.Hand R J l a0 w0 F i o L a w)(k d:Tmp)(h1:regs.waits o k=true:=by kernel_rfl)(h2:regs.dh l k=some d:=by kernel_rfl):F k (a.tmps.getD d undef) w:=hh.dep k d h1 h2
theorem regs.Hand.j{R:World →World →Prop}{l:List Oper}{a0:Act}{w0:World}{F:Nat →Value →World →Prop}{i:Nat}{o:Oper}{J:(Nat →Bool) →World →Prop}{L:Nat →Bool}{a:Act}{w:World}(hh:regs.Hand R J l a0 w0 F i o L a w):Hid (J L w):=hh.st
theorem regs.Hand.o{R:World →World →Prop}{l:List Oper}{a0:Act}{w0:World}{F:Nat →Value →World →Prop}{i:Nat}{o:Oper}{J:(Nat →Bool) →World →Prop}{L:Nat →Bool}{a:Act}{w:World}(hh:regs.Hand R J l a0 w0 F i o L a w)(s:Tmp){v:Value}(e:a0.tmps.getD s undef=v)(hk:regs.kept l s=true:=by exact rfl):a.tmps[s]?.getD undef=v:=rq ((hh.old s hk).trans e)
theorem regs.Hand.p{R:World →World →Prop}{l:List Oper}{a0:Act}{w0:World}{F:Nat →Value →World →Prop}{i:Nat}{o:Oper}{J:(Nat →Bool) →World →Prop}{L:Nat →Bool}{a:Act}{w:World}(hh:regs.Hand R J l a0 w0 F i o L a w)(s:Tmp)(g f:Nat)(e:a0.tmps.getD s undef=.pointer (some ⟨g,f,none⟩):=by exact rfl)(hk:regs.kept l s=true:=by exact rfl):a.tmps[s]?.getD undef=.pointer (some ⟨g,f,none⟩):=hh.o s e hk
theorem zp{P:Program}{Q:Exit →Act →World →Prop}{R:World →World →Prop}{l:List Oper}{a0:Act}{w0:World}{F:Nat →Value →World →Prop}{i:Nat}{o:Oper}{J:(Nat →Bool) →World →Prop}(h:∀L a w,regs.Hand R J l a0 w0 F i o L a w →o.wp P a w (fun a' w'=>∃v,a'=a.put o.dst v ∧ R w w' ∧ F i v w' ∧ J (regs.upd L i) w') Q)(hg:o.guard=none:=by exact rfl):regs.bC R J P l.toArray Q a0 w0 F i o:=regs.bC.plain hg h
theorem sy{P:Program}{Q:Exit →Act →World →Prop}{R:World →World →Prop}{l:List Oper}{a0:Act}{w0:World}{F:Nat →Value →World →Prop}{i:Nat}{o:Oper}{J:(Nat →Bool) →World →Prop}{j:Nat}{b:Bool}{d:Tmp}(hg:o.guard=some (j,b))(hd:regs.dh l j=some d)(h:∀L a w,regs.Hand R J l a0 w0 F i o L a w →o.wp P a w (fun a' w'=>∃v,a'=a.put o.dst v ∧ R w w' ∧ F i v w' ∧ J (regs.upd L i) w') Q)(hw:regs.waits o j=true:=by kernel_rfl)(hf:∀v w,F j v w →v=.bool b:=by exact fun _ _ h=>h):regs.bC R J P l.toArray Q a0 w0 F i o:=regs.bC.yes j b d hg hd (fun _ _ _ hh=>hf _ _ (hh.dep j d hw hd)) h
theorem sz{P:Program}{Q:Exit →Act →World →Prop}{R:World →World →Prop}{l:List Oper}{a0:Act}{w0:World}{F:Nat →Value →World →Prop}{i:Nat}{o:Oper}{J:(Nat →Bool) →World →Prop}{j:Nat}{b:Bool}{d:Tmp}(hg:o.guard=some (j,b))(hd:regs.dh l j=some d)(h:∀L a w,regs.Hand R J l a0 w0 F i o L a w →F i undef w ∧ J (regs.upd L i) w:=by exact fun _ _ _ hh=>⟨rfl,hh.st⟩)(hw:regs.waits o j=true:=by kernel_rfl)(hf:∀v w,F j v w →v=.bool (!b):=by exact fun _ _ h=>h):regs.bC R J P l.toArray Q a0 w0 F i o:=regs.bC.no j b d hg hd (fun _ _ _ hh=>hf _ _ (hh.dep j d hw hd)) h
theorem bM.Hand.d{R:World →World →Prop}{l:List Oper}{a0:Act}{w0:World}{F:Nat →Value →World →Prop}{i:Nat}{o:Oper}{J:(Nat →Bool) →(Tmp →Value) →World →Prop}{L:Nat →Bool}{a:Act}{w:World}(hh:bM.Hand R J l a0 w0 F i o L a w)(k d:Tmp)(h1:regs.waits o k=true:=by kernel_rfl)(h2:regs.dh l k=some d:=by kernel_rfl):F k (a.tmps.getD d undef) w:=hh.dep k d h1 h2
theorem bM.Hand.j{R:World →World →Prop}{l:List Oper}{a0:Act}{w0:World}{F:Nat →Value →World →Prop}{i:Nat}{o:Oper}{J:(Nat →Bool) →(Tmp →Value) →World →Prop}{L:Nat →Bool}{a:Act}{w:World}(hh:bM.Hand R J l a0 w0 F i o L a w):Hid (J L (bM.sl a) w):=hh.st
theorem bM.Hand.o{R:World →World →Prop}{l:List Oper}{a0:Act}{w0:World}{F:Nat →Value →World →Prop}{i:Nat}{o:Oper}{J:(Nat →Bool) →(Tmp →Value) →World →Prop}{L:Nat →Bool}{a:Act}{w:World}(hh:bM.Hand R J l a0 w0 F i o L a w)(s:Tmp){v:Value}(e:a0.tmps.getD s undef=v)(hk:regs.kept l s=true:=by exact rfl):a.tmps[s]?.getD undef=v:=rq ((hh.old s hk).trans e)
theorem bM.Hand.p{R:World →World →Prop}{l:List Oper}{a0:Act}{w0:World}{F:Nat →Value →World →Prop}{i:Nat}{o:Oper}{J:(Nat →Bool) →(Tmp →Value) →World →Prop}{L:Nat →Bool}{a:Act}{w:World}(hh:bM.Hand R J l a0 w0 F i o L a w)(s:Tmp)(g f:Nat)(e:a0.tmps.getD s undef=.pointer (some ⟨g,f,none⟩):=by exact rfl)(hk:regs.kept l s=true:=by exact rfl):a.tmps[s]?.getD undef=.pointer (some ⟨g,f,none⟩):=hh.o s e hk
theorem fK{P:Program}{Q:Exit →Act →World →Prop}{R:World →World →Prop}{l:List Oper}{a0:Act}{w0:World}{F:Nat →Value →World →Prop}{i:Nat}{o:Oper}{J:(Nat →Bool) →(Tmp →Value) →World →Prop}(h:∀L a w,bM.Hand R J l a0 w0 F i o L a w →o.wp P a w (fun a' w'=>∃v,a'=a.put o.dst v ∧ R w w' ∧ F i v w' ∧ J (regs.upd L i) (bM.sl (a.put o.dst v)) w') Q)(hg:o.guard=none:=by exact rfl):bM.bC R J P l.toArray Q a0 w0 F i o:=bM.bC.plain hg h
theorem syv{P:Program}{Q:Exit →Act →World →Prop}{R:World →World →Prop}{l:List Oper}{a0:Act}{w0:World}{F:Nat →Value →World →Prop}{i:Nat}{o:Oper}{J:(Nat →Bool) →(Tmp →Value) →World →Prop}{j:Nat}{b:Bool}{d:Tmp}(hg:o.guard=some (j,b))(hd:regs.dh l j=some d)(h:∀L a w,bM.Hand R J l a0 w0 F i o L a w →o.wp P a w (fun a' w'=>∃v,a'=a.put o.dst v ∧ R w w' ∧ F i v w' ∧ J (regs.upd L i) (bM.sl (a.put o.dst v)) w') Q)(hw:regs.waits o j=true:=by kernel_rfl)(hf:∀v w,F j v w →v=.bool b:=by exact fun _ _ h=>h):bM.bC R J P l.toArray Q a0 w0 F i o:=bM.bC.yes j b d hg hd (fun _ _ _ hh=>hf _ _ (hh.dep j d hw hd)) h
theorem szv{P:Program}{Q:Exit →Act →World →Prop}{R:World →World →Prop}{l:List Oper}{a0:Act}{w0:World}{F:Nat →Value →World →Prop}{i:Nat}{o:Oper}{J:(Nat →Bool) →(Tmp →Value) →World →Prop}{j:Nat}{b:Bool}{d:Tmp}(hg:o.guard=some (j,b))(hd:regs.dh l j=some d)(h:∀L a w,bM.Hand R J l a0 w0 F i o L a w →F i undef w ∧ J (regs.upd L i) (bM.sl (a.put o.dst undef)) w:=by exact fun _ _ _ hh=>⟨rfl,hh.st⟩)(hw:regs.waits o j=true:=by kernel_rfl)(hf:∀v w,F j v w →v=.bool (!b):=by exact fun _ _ h=>h):bM.bC R J P l.toArray Q a0 w0 F i o:=bM.bC.no j b d hg hd (fun _ _ _ hh=>hf _ _ (hh.dep j d hw hd)) h
theorem wR{P:Program}{Q:Exit →Act →World →Prop}{l:List Oper}{id:Nat}{a0:Act}{w0:World}(R:World →World →Prop)(J:(Nat →Bool) →World →Prop)(ds:List Tmp)(hR:∀w,R w w)(hT:∀a b c,R a b →R b c →R a c)(S:Nat →regs.kW R)(hD:R w0 w0.drew)(h0:J (fun _=>false) w0.drew)(hs:regs.dF R J P l.toArray Q a0 w0 (fun i=>(S i).p) 0 l)(hend:∀(L:Nat →Bool) (w:World) (val:Tmp →Value),(∀i,i < l.length →L i=true) →J L w →R w0 w →(∀k d,regs.dh l k=some d →(S k).p (val d) w) →Q .normal (regs.aG a0 (ds.map fun d=>(d,val d))) w)(hm:P.follows .mixedOrders=true:=by kernel_rfl)(hds:l.filterMap (·.dst)=ds:=by kernel_rfl)(jI:regs.chk l a0.tmps.size=true:=by kernel_rfl):(Code.region id l.toArray true).wp P Q a0 w0:=regs.dL R J ds hm hds hR hT (fun i=>(S i).p) (fun _=>regs.kW.mono _) jI hD h0 hs hend
theorem Q5{P:Program}{Q:Exit →Act →World →Prop}{l:List Oper}{id:Nat}{a0:Act}{w0:World}(ds:List Tmp)(S:Nat →regs.kW regs.bl)(hs:regs.dF regs.bl regs.noJ P l.toArray Q a0 w0 (fun i=>(S i).p) 0 l)(hend:∀(L:Nat →Bool) (w:World) (val:Tmp →Value),(∀i,i < l.length →L i=true) →regs.noJ L w →regs.bl w0 w →(∀k d,regs.dh l k=some d →(S k).p (val d) w) →Q .normal (regs.aG a0 (ds.map fun d=>(d,val d))) w)(hm:P.follows .mixedOrders=true:=by kernel_rfl)(hds:l.filterMap (·.dst)=ds:=by kernel_rfl)(jI:regs.chk l a0.tmps.size=true:=by kernel_rfl):(Code.region id l.toArray true).wp P Q a0 w0:=wR regs.bl regs.noJ ds (fun _=>regs.Ny _) regs.Um S ((Below.refl _ _).drew) (regs.ZV _ _) hs hend hm hds jI
theorem QC{P:Program}{Q:Exit →Act →World →Prop}{l:List Oper}{id:Nat}{a0:Act}{w0:World}(R:World →World →Prop)(J:(Nat →Bool) →(Tmp →Value) →World →Prop)(ds:List Tmp)(hR:∀w,R w w)(hT:∀a b c,R a b →R b c →R a c)(S:Nat →regs.kW R)(hD:R w0 w0.drew)(h0:J (fun _=>false) (bM.sl a0) w0.drew)(hs:bM.dF R J P l.toArray Q a0 w0 (fun i=>(S i).p) 0 l)(hend:∀(L:Nat →Bool) (w:World) (val:Tmp →Value),(∀i,i < l.length →L i=true) →J L val w →R w0 w →(∀k d,regs.dh l k=some d →(S k).p (val d) w) →Q .normal (regs.aG a0 (ds.map fun d=>(d,val d))) w)(hm:P.follows .mixedOrders=true:=by kernel_rfl)(hds:l.filterMap (·.dst)=ds:=by kernel_rfl)(jI:regs.chk l a0.tmps.size=true:=by kernel_rfl):(Code.region id l.toArray true).wp P Q a0 w0:=bM.dL R J ds hm hds hR hT (fun i=>(S i).p) (fun _=>regs.kW.mono _) jI hD h0 hs hend
theorem sn{t:Array Value}{d s:Nat}{v:Value}{df df':_}(h:d ≠ s:=by decide):bM.sl ⟨t.setIfInBounds d v,df⟩ s=bM.sl ⟨t,df'⟩ s:=bM.a1y h
abbrev rV{R:World →World →Prop}(v:Value):regs.kW R:=regs.kW.val R v
abbrev ra{R:World →World →Prop} : regs.kW R:=regs.kW.any R
abbrev rp{R:World →World →Prop}(g f:Nat):regs.kW R:=regs.kW.val R (.pointer (some ⟨g,f,none⟩))
abbrev rT{R:World →World →Prop} : regs.kW R:=regs.kW.val R (.bool true)
theorem rB{w:World} : regs.bl w w:=regs.Ny w
theorem gL{P:Program}{ops:Array Oper}{Q:Exit →Act →World →Prop}{l:List Oper}{a:Act}{w:World}{x0 x1 x2 x3 x4 y1 y2:_}(h:wpList P ops Q (Oper.mk x0 (Op.load y1 y2) x1 x2 x3 x4 :: l) a w):wpList P ops Q (Oper.mk x0 (Op.load y1 y2) x1 x2 x3 x4 :: l) a w:=h
theorem gS{P:Program}{ops:Array Oper}{Q:Exit →Act →World →Prop}{l:List Oper}{a:Act}{w:World}{x0 x1 x2 x3 x4 y1 y2 y3:_}(h:wpList P ops Q (Oper.mk x0 (Op.store y1 y2 y3) x1 x2 x3 x4 :: l) a w):wpList P ops Q (Oper.mk x0 (Op.store y1 y2 y3) x1 x2 x3 x4 :: l) a w:=h
theorem gB{P:Program}{ops:Array Oper}{Q:Exit →Act →World →Prop}{l:List Oper}{a:Act}{w:World}{x0 x1 x2 x3 x4 y1 y2 y3:_}(h:wpList P ops Q (Oper.mk x0 (Op.buildSlice y1 y2 y3) x1 x2 x3 x4 :: l) a w):wpList P ops Q (Oper.mk x0 (Op.buildSlice y1 y2 y3) x1 x2 x3 x4 :: l) a w:=h
theorem gU{P:Program}{ops:Array Oper}{Q:Exit →Act →World →Prop}{l:List Oper}{a:Act}{w:World}{x0 x1 x2 x3 x4 y1 y2:_}(h:wpList P ops Q (Oper.mk x0 (Op.build y1 y2) x1 x2 x3 x4 :: l) a w):wpList P ops Q (Oper.mk x0 (Op.build y1 y2) x1 x2 x3 x4 :: l) a w:=h
end Go.Proofs.YthmegninhpihkaaGreat
namespace Go.Proofs.YthmegninhpihkaaGreat
open Go.RowKit
theorem wt{P:Program}{ops:Array Oper}{Q:Exit →Act →World →Prop}{rest:List Oper}{o:Oper}{a:Act}{w:World}(ty:TypeId){x:Operand}(f:Nat){g:Nat}(ho:o.op=.load ty x)(hgd:Region.wanted o (yielded ops a.tmps)=true)(hx:a.eval x=.pointer (some ⟨g,f,none⟩)){cs:List Value}(hB:az w g cs)(ls:List Value)(hls:(cs.drop f).take ls.length=ls){d:TypeDesc}(hu:P.underlying ty=some d)(hd:d.isRow=true)(h:wpList P ops Q rest (a.put o.dst (.agg ls.toArray)) w)(hi:(P.info? ty).map (·.size)=some ls.length:=by kernel_rfl):wpList P ops Q (o :: rest) a w:=lF ty x ho hgd g f hx cs hB ls hls d hu hd hi h
theorem az.c{w:World}{g:Nat}{cs:List Value}(h:az w g cs)(i:Nat){v:Value}(e:cs[i]?=some v):w.cell? ⟨g,i,none⟩=some v:=(h.cell i).trans e
theorem az.ci{w:World}{g:Nat}{cs:List Value}(h:az w g cs)(i:Nat){v:Value}(e:cs[i]?=some v):w.cell? ⟨g,i,none⟩=some v ∧ g < w.heap.size:=⟨(h.cell i).trans e,h.inside⟩
end Go.Proofs.YthmegninhpihkaaGreat
