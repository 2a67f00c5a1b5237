/-
  A pool's numbers, plainly: the least that is not out, how many are out.
-/
import Derived.Test.YthaghhleidopeaaRowKit
namespace Go.Proofs.Ythaghhleidopeaa
set_option linter.unusedVariables false

/-- The least number from n on, of k, that isn't out. -/
def leastGo (l : List Bool) : Nat → Nat → Nat
  | 0, _ => 0
  | k + 1, n => if l.getD n true = false then n else leastGo l k (n + 1)
def leastN (m : Nat) (l : List Bool) : Nat := leastGo l m 1
/-- How many are out. -/
def cntGo (l : List Bool) : Nat → Nat → Nat
  | 0, _ => 0
  | k + 1, n => (if l.getD n false = true then 1 else 0) + cntGo l k (n + 1)
def countN (m : Nat) (l : List Bool) : Nat := cntGo l m 1
theorem cntGo_le (l : List Bool) : ∀ k n, cntGo l k n ≤ k
  | 0, _ => Nat.le_refl _
  | k + 1, n => by
    have := cntGo_le l k (n + 1)
    unfold cntGo
    split <;> omega
end Go.Proofs.Ythaghhleidopeaa
