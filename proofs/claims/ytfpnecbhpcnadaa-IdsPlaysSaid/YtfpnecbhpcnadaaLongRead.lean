/-
  Regions that draw their order, with a load of a long struct: the load's step where operations only read, and where callees only make memory.
-/
import Derived.Test.YtfpnecbhpcnadaaIdAwake
import Derived.StillTailTactics
import Derived.Lib.QuietBelow
namespace Go.Proofs.Ytfpnecbhpcnadaa
open Go.RowKit Go.Sort Go.Lib
set_option linter.unusedVariables false
section
variable {P : Program} {ops : Array Oper} {rest : List Oper} {d : Option Tmp} {T : TypeId} {pos : String} {af : Array Edge} {a : Act} {w : World} {C : World → Prop} {Q : Act → Prop}
theorem wanted_none {o : Oper} {ys : Nat → Option Bool} (hgd : o.guard = none) : Region.wanted o ys = true := by simp [Region.wanted, hgd]
theorem wpStill_load (ty : TypeId) (x : Operand) (px v : Value) (hx : a.eval x = px) (hr : (Instr.loadAt ty px).run P w = .ok v w) (h : wpStill P ops w Q rest (a.put d v)) :
    wpStill P ops w Q ({ dst := d, op := .load ty x, type := T, pos := pos, after := af, guard := none } :: rest) a := by
  unfold wpStill
  rw [if_pos (wanted_none rfl)]
  unfold Oper.still execOp
  simp only [hx, Sem.run_bind, hr, Result.andThen_ok]
  exact ⟨rfl, h⟩
theorem wpQuiet_load (ty : TypeId) (x : Operand) (px v : Value) (hx : a.eval x = px) (hr : ∀ w, C w → (Instr.loadAt ty px).run P w = .ok v w) (h : wpQuiet P ops C Q rest (a.put d v)) :
    wpQuiet P ops C Q ({ dst := d, op := .load ty x, type := T, pos := pos, after := af, guard := none } :: rest) a := by
  unfold wpQuiet
  rw [if_pos (wanted_none rfl)]
  refine ⟨v, fun w hw => ?_, h⟩
  unfold Oper.quietAt execOp
  simp only [hx, Sem.run_bind, hr w hw, Result.andThen_ok]
  exact ⟨rfl, rfl⟩
end
theorem grow_below {w w' : World} (p : Regrown) (h : w' = grow (redrawn w p.d) p.os) : Below w.heap.size w w' := by
  rw [h]
  exact below_regrown w p.d p.os
end Go.Proofs.Ytfpnecbhpcnadaa
