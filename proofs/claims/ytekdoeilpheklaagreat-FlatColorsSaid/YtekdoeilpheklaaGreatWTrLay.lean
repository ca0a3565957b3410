import Derived.Shelf.SlicesE.Delete
import Derived.Test.YtekdoeilpheklaaGreatProg
set_option maxHeartbeats 16000000
set_option maxRecDepth 100000
open Go.Proofs.Tryz
namespace Go.Proofs.YtekdoeilpheklaaGreat
section
open Go.Shelf
def QH:Go.Shelf.Ren:=⟨fun|45=>155|n=>n,fun|22=>184|23=>183|3=>3|4=>4|0=>0|n=>n,fun|n=>n⟩
theorem a3m:Go.Proofs.SlLaysE.n45 prog QH:={
 mixed:=by kernel_rfl
 f45:=⟨Tryz.f155.name,by decide,func155.trans (congrArg some (by kernel_rfl))⟩
 t0:=underlying0
 a0:=Tryz.isAgg0
 z0:=Tryz.sizeOf0
 v0:=Tryz.zeroValue0
 t3:=underlying3
 a3:=Tryz.isAgg3
 z3:=Tryz.sizeOf3
 v3:=Tryz.zeroValue3
 t4:=underlying4
 a4:=Tryz.isAgg4
 z4:=Tryz.sizeOf4
 v4:=Tryz.zeroValue4
 t22:=underlying184
 a22:=Tryz.isAgg184
 z22:=Tryz.sizeOf184
 v22:=Tryz.zeroValue184
 a23:=Tryz.isAgg183
 z23:=Tryz.sizeOf183 }
end
end Go.Proofs.YtekdoeilpheklaaGreat
