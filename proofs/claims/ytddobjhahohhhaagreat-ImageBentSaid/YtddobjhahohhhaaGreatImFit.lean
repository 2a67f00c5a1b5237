/-
  Entries and directories that have their bytes, and whose cookies are of 63 bits.
-/
import Derived.Test.YtddobjhahohhhaaGreatImMath
namespace Go.Proofs.YtddobjhahohhhaaGreat
open Go.RowKit Go.Sort
/-- .. whose cookies a reader can tell. -/
def EntFit (e : Ent) : Prop := EntOk e ∧ e.cookie ≤ 9223372036854775807
def DirFit (d : Int × List Ent) : Prop := DirOk d ∧ ∀ e ∈ d.2, e.cookie ≤ 9223372036854775807
theorem DirFit.ent {d : Int × List Ent} (h : DirFit d) {e : Ent} (he : e ∈ d.2) : EntFit e := ⟨h.1.2.2 e he, h.2 e he⟩
end Go.Proofs.YtddobjhahohhhaaGreat
