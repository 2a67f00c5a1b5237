/- Kit. -/
import Derived.Test.YtfioknaadbgjlaaGreatDoorNKC
import Derived.OwnWalk
import Derived.Test.YtfioknaadbgjlaaGreatDoorNKA
import Derived.Test.YtfioknaadbgjlaaGreatDoorNKB
import Derived.Laws.IdiomStrings
import Derived.OpenShut
import Derived.Test.YtfioknaadbgjlaaGreatDoorNL3
import Derived.Test.YtfioknaadbgjlaaGreatDoorNL2
set_option maxRecDepth 100000
set_option linter.unusedVariables false
set_option linter.unusedSimpArgs false
namespace Go.Proofs.YtfioknaadbgjlaaGreatDoor.F
open Go.RowKit Go.Sort
end Go.Proofs.YtfioknaadbgjlaaGreatDoor.F
namespace Go.Proofs.YtfioknaadbgjlaaGreatDoor.F
open Go.RowKit Go.Sort
end Go.Proofs.YtfioknaadbgjlaaGreatDoor.F
namespace Go.Proofs.YtfioknaadbgjlaaGreatDoor.F
open Go.RowKit Go.Sort
end Go.Proofs.YtfioknaadbgjlaaGreatDoor.F
namespace Go.Proofs.YtfioknaadbgjlaaGreatDoor.F
open Go.RowKit Go.Lib Go.Sort
end Go.Proofs.YtfioknaadbgjlaaGreatDoor.F
namespace Go.Proofs.YtfioknaadbgjlaaGreatDoor.F
open Go.RowKit Go.Lib Go.Sort
def chars (l:List UInt8):List Int:=l.map fun c=>(c.toNat:Int)
end Go.Proofs.YtfioknaadbgjlaaGreatDoor.F
namespace Go.Proofs.YtfioknaadbgjlaaGreatDoor.F
open Go.RowKit Go.Sort
end Go.Proofs.YtfioknaadbgjlaaGreatDoor.F
namespace Go.Proofs.YtfioknaadbgjlaaGreatDoor.F
open Go.RowKit Go.Sort
end Go.Proofs.YtfioknaadbgjlaaGreatDoor.F
namespace Go.Proofs.YtfioknaadbgjlaaGreatDoor.F
open Go.RowKit Go.Sort
end Go.Proofs.YtfioknaadbgjlaaGreatDoor.F
namespace Go.Proofs.YtfioknaadbgjlaaGreatDoor.F
open Go.RowKit Go.Sort
end Go.Proofs.YtfioknaadbgjlaaGreatDoor.F
namespace Go.Proofs.YtfioknaadbgjlaaGreatDoor.F
open Go.RowKit Go.Sort
end Go.Proofs.YtfioknaadbgjlaaGreatDoor.F
namespace Go.Proofs.YtfioknaadbgjlaaGreatDoor.F
open Go.RowKit Go.Sort
end Go.Proofs.YtfioknaadbgjlaaGreatDoor.F
namespace Go.Proofs.YtfioknaadbgjlaaGreatDoor.F
open Go.RowKit
end Go.Proofs.YtfioknaadbgjlaaGreatDoor.F
namespace Go.Proofs.YtfioknaadbgjlaaGreatDoor.F
open Go.RowKit Go.Sort
end Go.Proofs.YtfioknaadbgjlaaGreatDoor.F
namespace Go.Proofs.YtfioknaadbgjlaaGreatDoor.F
open Go.RowKit Go.Sort
def longB (enc:Int)(l:List UInt8):Bool:=decide ((255:Int)<((⟨(presL enc l).toArray⟩:ByteArray).size:Int))
set_option maxHeartbeats 1000000 in
theorem long_c (enc:Int)(h0:0≤enc)(h8:enc≤8)(b:ByteArray)(hs:b.size≤300)(w:World)(hT:Tabs w) :
    Calls Tryz.prog 48 #[.int .i64 enc,.string b] w fun e w'=>e=.returned (.bool (longB enc b.data.toList))∧Below w.heap.size w w':=by
  have c:=present_c enc h0 h8 b hs w hT
  unfold longB
  generalize (⟨(presL enc b.data.toList).toArray⟩:ByteArray)=P at *
  clear hT h0 h8 hs
  go_enter Tryz.func48,Tryz.ntmps48
  go_wp2_with fail
  refine c.mono ?_
  rintro e w1 ⟨rfl,hb⟩
  have HB:=Lib.hid hb
  clear c hb
  go_wp2
  go_ret
  exact⟨rfl,HB.out⟩
end Go.Proofs.YtfioknaadbgjlaaGreatDoor.F
