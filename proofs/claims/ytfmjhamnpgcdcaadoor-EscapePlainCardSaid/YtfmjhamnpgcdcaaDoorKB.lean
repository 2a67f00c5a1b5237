/-
  The contract of the fourth reference's Present: the presented name, by the plain facts' words; what lay in memory stays.
  The contract of the fourth reference's Present, of HFS's names.  (wip/gen_r4presh.py writes this text.)
-/
import Derived.Test.YtfmjhamnpgcdcaaDoorK9
import Derived.Test.YtfmjhamnpgcdcaaDoorK5
import Derived.Test.YtfmjhamnpgcdcaaDoorK8
import Derived.Test.YtfmjhamnpgcdcaaDoorK7
import Derived.Deep.LoopGhost
import Derived.Deep.CutRange
import Derived.Deep.RegionHeld3
namespace Go.Proofs.YtfmjhamnpgcdcaaDoor
open Go.RowKit Go.Sort
set_option linter.unusedVariables false

theorem joined_same (h g : Bool) (l : List Int) : joinedI (h && g) l = joinT h g l := rfl
theorem keepS_drew {wc w' : World} {v : Value} {op : List Int} (h : Below wc.heap.size wc w' ∧ SliceIs w' v op) : Below wc.heap.size wc w'.drew ∧ SliceIs w'.drew v op := ⟨h.1.drew, h.2.kept ((Below.refl _ _).drew)⟩
theorem keepS_step {wc w' w'' : World} {v : Value} {op : List Int} (h : Below wc.heap.size wc w' ∧ SliceIs w' v op) (hb : Below w'.heap.size w' w'') : Below wc.heap.size wc w'' ∧ SliceIs w'' v op := ⟨below_step h.1 hb, h.2.kept hb⟩
def PresRel (enc : Int) (good : Bool) (b : ByteArray) (w0 : World) (total : List UInt8) (gk : Nat) (sv ov kv : Value) (wr : World) : Prop :=
  ∃ (k : Nat) (op : List Int) (s : ByteArray), k + gk = b.size ∧ sv = .string s ∧ kv = .int .i64 k ∧ op.length ≤ k ∧ (∀ x ∈ op, 0 ≤ x ∧ x ≤ 1114111) ∧ s.data.toList ++ presN enc good (b.data.toList.drop k) op = total ∧ OwnI w0.heap.size wr ov op ∧ Below w0.heap.size w0 wr

end Go.Proofs.YtfmjhamnpgcdcaaDoor

namespace Go.Proofs.YtfmjhamnpgcdcaaDoor
open Go.RowKit Go.Sort
set_option linter.unusedVariables false

theorem hide_irr' (last e : Bool) (r : Int) : hideB true false last e r = ((decide (r < 0) || decide (128 ≤ r)) || hidI r last) := by
  unfold hideB hidI
  rw [res_same]
  generalize decide (r < 0) = a
  generalize decide (128 ≤ r) = p
  generalize reservedI r = c
  generalize decide (r = 46 ∨ r = 32) = d
  generalize decide (0 ≤ r ∧ 0 < classI r) = f
  cases a <;> cases p <;> cases c <;> cases d <;> cases last <;> cases e <;> rfl

end Go.Proofs.YtfmjhamnpgcdcaaDoor
