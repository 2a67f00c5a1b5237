/-
  Prepared for stage 10: the reference's Move.
-/
import Derived.Test.YtmplekjiciedgaaQ2
namespace Go.Proofs.Ytmplekjiciedgaa
open Go.RowKit Go.Sort
set_option linter.unusedVariables false

/-- Is x met on the way up from n, within k steps? -/
def loopGo (l : List Itm) (x : Int) : Nat → Int → Bool
  | 0, _ => false
  | k + 1, n => if n < 0 then false else if n = x then true else loopGo l x k (aboveI l n)
def moveI (l : List Itm) (nx d : Int) (s : ByteArray) (dt : Int) (ns : ByteArray) (sh : Int) : (List Itm × Int) × Int :=
  if (findI l d s).2 ≠ 0 then ((l, nx), (findI l d s).2)
  else if listE l dt ≠ 0 then ((l, nx), listE l dt)
  else if badE ns sh ≠ 0 then ((l, nx), badE ns sh)
  else if loopGo l (findI l d s).1.node 300 dt = true then ((l, nx), 10)
  else if (findI l dt ns).2 = 0 then ((l, nx), 6)
  else ((putI (dropI l d s) nx dt ⟨ns, (findI l d s).1.node, (findI l d s).1.dir, 0, sh⟩, nx + 1), 0)
end Go.Proofs.Ytmplekjiciedgaa
