/- Kit. -/
import Derived.Test.YtdmkhmeaphaapaaGreatFX7
import Derived.Test.YtdmkhmeaphaapaaGreatFX5
import Derived.Test.YtdmkhmeaphaapaaGreatFQB
import Derived.Laws.MakeOwn
import Derived.Test.YtdmkhmeaphaapaaGreatFX6
import Derived.Test.YtdmkhmeaphaapaaGreatFX8
import Derived.Lib.AppendStr
import Derived.Lib.ConvBytes
import Derived.StillTailTactics
import Derived.Test.YtdmkhmeaphaapaaGreatFQH
set_option maxRecDepth 100000
namespace Go.Proofs.YtdmkhmeaphaapaaGreat
open Go.RowKit Go.Sort
set_option linter.unusedVariables false
end Go.Proofs.YtdmkhmeaphaapaaGreat
namespace Go.Proofs.YtdmkhmeaphaapaaGreat
open Go.RowKit Go.Sort
set_option linter.unusedVariables false
set_option linter.unusedSimpArgs false
end Go.Proofs.YtdmkhmeaphaapaaGreat
namespace Go.Proofs.YtdmkhmeaphaapaaGreat
open Go.RowKit Go.Sort
set_option linter.unusedVariables false
end Go.Proofs.YtdmkhmeaphaapaaGreat
namespace Go.Proofs.YtdmkhmeaphaapaaGreat
open Go.RowKit Go.Sort
set_option linter.unusedVariables false
set_option linter.unusedSimpArgs false
theorem row_below {w w':World}{B c n:Nat}{T0:TypeId}{v:Value}{xs:List Value}(h:w.ownsRow B T0 c v n xs)(hb:Below w.heap.size w w'):w'.ownsRow B T0 c v n xs:=ownsRow_same h fun g hg=>hb.block g (h.lt g hg).2
structure ImgW (w:World)(bO:Nat)(rv:Value)(nx:Int)(dv:Value)(ds:List Int)(ev:Value)(es:List Ent)(u:List UInt8)(v:Value)(W:World):Prop where
  d:W.heap[bO]?=some (.cells #[rv,.int .i64 nx] 31 (0,0))
  ds:W.ownsRow bO 3 1 dv ds.length (ds.flatMap numC)
  es:W.ownsRow bO 112 5 ev es.length (es.flatMap entC)
  own:W.ownsRow (bO+1) 5 1 v u.length (Lib.byteCells u)
  b:Below bO w W
  lt:bO+1≤W.heap.size
section
variable {w W W':World}{bO:Nat}{rv:Value}{nx:Int}{dv:Value}{ds:List Int}{ev:Value}{es:List Ent}{u:List UInt8}{v:Value}
theorem ImgW.below (h:ImgW w bO rv nx dv ds ev es u v W)(hb:Below W.heap.size W W'):ImgW w bO rv nx dv ds ev es u v W':=
  ⟨(hb.block _ (by have:=h.lt;omega)).trans h.d,row_below h.ds hb,row_below h.es hb,row_below h.own hb,h.b.trans (hb.mono (by have:=h.lt;omega)),Nat.le_trans h.lt hb.size⟩
theorem ImgW.cells (h:ImgW w bO rv nx dv ds ev es u v W):W.cell? ⟨bO,0,none⟩=some rv∧W.cell? ⟨bO,1,none⟩=some (.int .i64 nx):=⟨Lib.cell_of_heap h.d 0,Lib.cell_of_heap h.d 1⟩
end
end Go.Proofs.YtdmkhmeaphaapaaGreat
namespace Go.Proofs.YtdmkhmeaphaapaaGreat
open Go.RowKit Go.Sort
set_option linter.unusedVariables false
end Go.Proofs.YtdmkhmeaphaapaaGreat
