/-
  Prepared for stage 10: the reference's bad, and put.
  Prepared for stage 10: the reference's drop.
  Prepared for stage 10: the reference's Link.
  Prepared for stage 10: the reference's Unlink.
-/
import Derived.Test.YtmplekjiciedgaaQ1
import Derived.Deep.AppendLies
import Derived.Deep.RegionLaw
import Derived.Deep.RegionHeld3
namespace Go.Proofs.Ytmplekjiciedgaa
open Go.RowKit Go.Sort
set_option linter.unusedVariables false

/-- What is wrong with a name, and a number. -/
def badE (s : ByteArray) (sh : Int) : Int := if goodB s = true then (if sh < 0 ∨ 1000000 < sh then 1 else 0) else 3
/-- With one more entry. -/
def putI (l : List Itm) (nx d : Int) (e : Ent) : List Itm := l ++ [⟨d, { e with cookie := nx }⟩]
theorem own_set {B : Nat} {T : TypeId} {c : Nat} {w : World} {v : Value} {n : Nat} {xs : List Value} (ho : w.ownsRow B T c v n xs) {b : Nat} (hb : b < B) (o : Nat) (x : Value) : (w.setCell ⟨b, o, none⟩ x).ownsRow B T c v n xs :=
  World.ownsRow.kept (row := some b) ho ⟨rfl, rfl, rfl, by simp [World.setCell], fun k hk hne => Below.heap_setCell w ⟨b, o, none⟩ x k (fun e => hne (by rw [e]))⟩ (Or.inr (fun e => by have := (ho.lt b e).1; omega))
theorem below_al {B : Nat} {W0 W : World} {o : Obj} (h : Below B W0 W) (hB : B ≤ W0.heap.size) : Below B W0 (W.alloc o) := h.alloc (Nat.le_trans hB h.size) o
theorem below_set2 {B : Nat} {W0 W : World} {x y : Value} (h : Below B W0 W) : Below B W0 ((W.setCell ⟨B, 0, none⟩ x).setCell ⟨B, 1, none⟩ y) := (h.setCell (p := ⟨B, 0, none⟩) (Nat.le_refl _) _).setCell (p := ⟨B, 1, none⟩) (Nat.le_refl _) _
theorem own_form {B : Nat} {T : TypeId} {c : Nat} {w7 : World} {v : Value} {n : Nat} {xs : List Value} (ho : w7.ownsRow B T c v n xs) : ∃ a k cp, v = .slice a k cp := by
  rcases ho.2 with ⟨h, _⟩ | ⟨g, cap, cur, h, _⟩
  · exact ⟨_, _, _, h⟩
  · exact ⟨_, _, _, h⟩
end Go.Proofs.Ytmplekjiciedgaa

namespace Go.Proofs.Ytmplekjiciedgaa
open Go.RowKit Go.Sort
set_option linter.unusedVariables false

theorem dropI_snoc {l : List Itm} {i : Nat} {x : Itm} (h : l[i]? = some x) (d : Int) (s : ByteArray) : dropI (l.take (i + 1)) d s = dropI (l.take i) d s ++ (if x.inn = d ∧ x.e.name = s then [] else [x]) := by
  unfold dropI
  rw [take_snoc h, List.filter_append]
  congr 1
  by_cases h1 : x.inn = d <;> by_cases h2 : x.e.name = s <;> simp [h1, h2]
theorem dropI_le (l : List Itm) (d : Int) (s : ByteArray) : (dropI l d s).length ≤ l.length := List.length_filter_le _ _
/-- A tree's block and an own row. -/
theorem two_cells {W : World} {b : Nat} {v0 v1 : Value} {T : TypeId} (h : W.heap[b]? = some (.cells #[v0, v1] T (0, 0))) :
    (W.cell? ⟨b, 0, none⟩ = some v0 ∧ W.cell? ⟨b, 1, none⟩ = some v1) ∧ (W.frozen? ⟨b, 0, none⟩ = false ∧ W.frozen? ⟨b, 1, none⟩ = false) :=
  ⟨⟨by rw [cell_of_row _ _ _ _ _ _ h]; rfl, by rw [cell_of_row _ _ _ _ _ _ h]; rfl⟩, ⟨frozen_of_row _ _ _ _ _ h, frozen_of_row _ _ _ _ _ h⟩⟩
theorem below_set1 {B : Nat} {W0 W : World} {x : Value} (h : Below B W0 W) : Below B W0 (W.setCell ⟨B, 0, none⟩ x) := h.setCell (p := ⟨B, 0, none⟩) (Nat.le_refl _) _
end Go.Proofs.Ytmplekjiciedgaa

namespace Go.Proofs.Ytmplekjiciedgaa
open Go.RowKit Go.Sort
set_option linter.unusedVariables false

/-- The least number that no entry has, from n on, of k. -/
def freeGo (l : List Itm) : Nat → Nat → Nat
  | 0, _ => 0
  | k + 1, n => if kindI l n = 0 then n else freeGo l k (n + 1)
def freeN (l : List Itm) : Nat := freeGo l 200 1
theorem freeGo_le (l : List Itm) : ∀ k n, freeGo l k n = 0 ∨ (n ≤ freeGo l k n ∧ freeGo l k n < n + k)
  | 0, n => Or.inl rfl
  | k + 1, n => by
    unfold freeGo
    split
    · right; omega
    · rcases freeGo_le l k (n + 1) with h | h
      · exact Or.inl h
      · right; omega
def linkI (l : List Itm) (nx d : Int) (s : ByteArray) (isD : Bool) (sh : Int) : (List Itm × Int) × Int × Int :=
  if listE l d ≠ 0 then ((l, nx), 0, listE l d)
  else if badE s sh ≠ 0 then ((l, nx), 0, badE s sh)
  else if (findI l d s).2 = 0 then ((l, nx), 0, 6)
  else if freeN l = 0 then ((l, nx), 0, 12)
  else ((putI l nx d ⟨s, freeN l, isD, 0, sh⟩, nx + 1), freeN l, 0)

theorem results_cell_two {fn : Func} {p u q : Tmp} {ty : TypeId} (h : fn.results = #[.cell p ty, .tmp u, .tmp q]) (tmps : Array Value) (P : Program) (w : World) :
    (results fn tmps).run P w =
      ((asAddr (tmps.getD p undef)).run P w).andThen fun a w₁ => ((loadVar ty a).run P w₁).andThen fun v w₂ => .ok (.tuple #[v, tmps.getD u undef, tmps.getD q undef]) w₂ := by
  simp only [results, h]
  simp [Sem.run_bind, Result.andThen]
theorem findE_cases (l : List Itm) (d : Int) (s : ByteArray) : 0 ≤ (findI l d s).2 ∧ (findI l d s).2 ≤ 8 := by
  unfold findI listE
  split
  · simp
  · repeat' split
    all_goals simp_all
end Go.Proofs.Ytmplekjiciedgaa

namespace Go.Proofs.Ytmplekjiciedgaa
open Go.RowKit Go.Sort
set_option linter.unusedVariables false

theorem below_drewN1 {B : Nat} {a w : World} (h : Below B a w) : ∀ q, Below B a (w.drewN q)
  | 0 => h
  | q + 1 => (below_drewN1 h q).drew
def hasIn (l : List Itm) (n : Int) : Bool := l.any fun x => decide (x.inn = n)
theorem hasIn_cons (x : Itm) (l : List Itm) (n : Int) : hasIn (x :: l) n = (decide (x.inn = n) || hasIn l n) := rfl
def unlinkI (l : List Itm) (nx d : Int) (s : ByteArray) (isD : Bool) : (List Itm × Int) × Int :=
  if (findI l d s).2 ≠ 0 then ((l, nx), (findI l d s).2)
  else if isD = true ∧ (findI l d s).1.dir = false then ((l, nx), 8)
  else if isD = false ∧ (findI l d s).1.dir = true then ((l, nx), 7)
  else if hasIn l (findI l d s).1.node = true then ((l, nx), 9)
  else ((dropI l d s, nx), 0)
/-- An entry's block. -/
theorem ent_block {W : World} {b : Nat} {x : Ent} {T : TypeId} (h : W.heap[b]? = some (.cells (entC x).toArray T (0, 0))) : W.cell? ⟨b, 0, none⟩ = some (.string x.name) ∧ W.cell? ⟨b, 1, none⟩ = some (.int .i64 x.node) ∧ W.cell? ⟨b, 2, none⟩ = some (.bool x.dir) ∧ W.cell? ⟨b, 3, none⟩ = some (.int .i64 x.cookie) ∧ W.cell? ⟨b, 4, none⟩ = some (.int .i64 x.short) :=
  (five_cells h).1
end Go.Proofs.Ytmplekjiciedgaa
