/-
  A map keyed by int, said by what stands at each key: the raw values, and how many there are.
-/
import Derived.Test.YthaghhleidopeaaRowKit
import Derived.Maps.OwnSet
import Derived.Maps.OwnOps
import Derived.Maps.Range
namespace Go.Proofs.Ythaghhleidopeaa
open Go.RowKit Go.Sort Go.Maps
open Go.WideShapes
set_option linter.unusedVariables false

/-- An element as it stands. -/
def rawR (v : Value) : Option (DataW Value × List MemPlace) := some (.held v, [])
def inI64 (x : Int) : Prop := -9223372036854775808 ≤ x ∧ x ≤ 9223372036854775807
theorem inI64_wf {x : Int} (h : inI64 x) : (Lit.int .i64 x).wf = true := by
  unfold inI64 at h
  simp [Lit.wf, IntKind.min, IntKind.max, IntKind.signed, IntKind.bits]
  omega
/-- Block b is a map keyed by int: F tells what stands at each key, c how many keys there are. -/
def MapF (P : Program) (k : TypeId) (w : World) (b n : Nat) (F : Int → Option Value) (c : Nat) : Prop :=
  ∃ D : DataW Value, w.ownsMap P k rawR b n D ∧ Maps.size D = c ∧ ∀ x, inI64 x → Maps.has D (.int .i64 x) = (F x).isSome ∧ ∀ v, F x = some v → ∀ z, D.atKey (.int .i64 x) z = .held v
def updF (F : Int → Option Value) (x : Int) (v : Option Value) : Int → Option Value := fun y => if y = x then v else F y
section
variable {P : Program} {k e t : TypeId} {w w' : World} {b n c : Nat} {F : Int → Option Value}
theorem MapF.lt (h : MapF P k w b n F c) : b < w.heap.size := by
  obtain ⟨D, h, _⟩ := h
  exact h.lt
theorem MapF.grown {row : Option Nat} (h : MapF P k w b n F c) (hg : w.grownBy w' row) (hne : some b ≠ row) : MapF P k w' b n F c := by
  obtain ⟨D, h, hs⟩ := h
  exact ⟨D, h.kept hg hne, hs⟩
theorem MapF.below (h : MapF P k w b n F c) (hb : Below w.heap.size w w') : MapF P k w' b n F c :=
  h.grown (row := none) ⟨hb.os, hb.tape, hb.output, hb.size, fun j hj _ => hb.block j hj⟩ (by simp)
theorem MapF.isMap (h : MapF P k w b n F c) : ∃ es cl, w.heap[b]? = some (.map es cl) := by
  obtain ⟨D, ⟨es, cl, h, _⟩, _⟩ := h
  exact ⟨es, cl, h⟩
theorem MapF.made (w : World) : MapF P k (w.alloc (.map #[] 0)) w.heap.size 0 (fun _ => none) 0 :=
  ⟨.map [], World.ownsMap_made _ _ _ _, rfl, fun x hx => ⟨rfl, fun v hv => by cases hv⟩⟩
theorem MapF.look (h : MapF P k w b n F c) (hk : P.underlying k = some (.int .i64)) (ht : P.underlying t = some (.map k e)) {z : Value} (hz : (zeroValue e).run P w = .ok z w) {x : Int} (hx : inI64 x) :
    (Instr.lookup t (.map (some b)) (.int .i64 x) true).run P w = .ok (.tuple #[(F x).getD z, .bool (F x).isSome]) w ∧ (Instr.lookup t (.map (some b)) (.int .i64 x) false).run P w = .ok ((F x).getD z) w := by
  obtain ⟨D, h, _, hF⟩ := h
  obtain ⟨h1, h2⟩ := hF x hx
  have hkey := keyOf_int_mk hk (inI64_wf hx)
  have hv : ∀ v ps, rawR v = some (D.atKey (.int .i64 x) (.held z), ps) → v = (F x).getD z := by
    intro v ps hv
    unfold rawR at hv
    have hv' : DataW.held v = D.atKey (.int .i64 x) (.held z) := by
      injection hv with hv
      injection hv
    cases hf : F x with
    | none =>
      rw [hf] at h1
      rw [Maps.atKey_of_not_has h1] at hv'
      injection hv'
    | some u =>
      rw [h2 u hf] at hv'
      injection hv'
  constructor
  · obtain ⟨v, ps, hr, hvv⟩ := h.look_ok (int_keyed hk) ht hz (zd := .held z) (zp := []) rfl hkey
    rw [hr, h1, hv v ps hvv]
  · obtain ⟨v, ps, hr, hvv⟩ := h.lookup (int_keyed hk) ht hz (zd := .held z) (zp := []) rfl hkey
    rw [hr, hv v ps hvv]
theorem lit_ne {x y : Int} (h : y ≠ x) : Lit.int .i64 y ≠ Lit.int .i64 x := fun e => by
  injection e with _ e
  exact h e
theorem MapF.update (h : MapF P k w b n F c) (hk : P.underlying k = some (.int .i64)) (ht : P.underlying t = some (.map k e)) (hn : n < maxLen) {x : Int} (hx : inI64 x) (v : Value) :
    ∃ w', (Instr.mapUpdate t (.map (some b)) (.int .i64 x) v).run P w = .ok () w' ∧ MapF P k w' b (n + 1) (updF F x (some v)) (if (F x).isSome = true then c else c + 1) ∧ w.mapTurned w' b := by
  obtain ⟨D, h, hs, hF⟩ := h
  have hkey := keyOf_int_mk hk (inI64_wf hx)
  have hM := h.isMap
  have hT := h.tidy (int_keyed hk)
  obtain ⟨w', hr, h', hm⟩ := h.store (int_keyed hk) ht hn hkey (val := v) (d := .held v) (ps := []) rfl
  refine ⟨w', hr, ⟨_, h', ?_, fun y hy => ?_⟩, hm⟩
  · rw [Maps.size_put hT, (hF x hx).1, hs]
  · unfold updF
    by_cases e : y = x
    · subst e
      rw [if_pos rfl]
      exact ⟨Maps.has_put_same hM (by simp [WideAt.IsKeyLit]) _, fun u hu z => by
        rw [Maps.atKey_put_same hM (by simp [WideAt.IsKeyLit])]
        injection hu with hu
        rw [hu]⟩
    · rw [if_neg e]
      exact ⟨by rw [Maps.has_put_other (lit_ne e)]; exact (hF y hy).1, fun u hu z => by rw [Maps.atKey_put_other (lit_ne e)]; exact (hF y hy).2 u hu z⟩
theorem MapF.delete (h : MapF P k w b n F c) (hk : P.underlying k = some (.int .i64)) (ht : P.underlying t = some (.map k e)) {x : Int} (hx : inI64 x) (ty : TypeId) :
    ∃ w', (Builtin.delete_ #[t, k] ty #[.map (some b), .int .i64 x]).run P w = .ok (.tuple #[]) w' ∧ MapF P k w' b n (updF F x none) (if (F x).isSome = true then c - 1 else c) ∧ w.mapTurned w' b := by
  obtain ⟨D, h, hs, hF⟩ := h
  have hkey := keyOf_int_mk hk (inI64_wf hx)
  have hT := h.tidy (int_keyed hk)
  obtain ⟨w', hr, h', hm⟩ := h.drop (int_keyed hk) ht hkey ty
  refine ⟨w', hr, ⟨_, h', ?_, fun y hy => ?_⟩, hm⟩
  · have h9 := Maps.size_del (k := Lit.int .i64 x) hT
    rw [(hF x hx).1, hs] at h9
    split <;> simp_all <;> omega
  · unfold updF
    by_cases e : y = x
    · subst e
      rw [if_pos rfl]
      exact ⟨Maps.has_del_same, fun u hu => by cases hu⟩
    · rw [if_neg e]
      exact ⟨by rw [Maps.has_del_other (lit_ne e)]; exact (hF y hy).1, fun u hu z => by rw [Maps.atKey_del_other (lit_ne e)]; exact (hF y hy).2 u hu z⟩
theorem MapF.len (h : MapF P k w b n F c) (ht : P.underlying t = some (.map k e)) (ty : TypeId) : (Builtin.len_ #[t] ty #[.map (some b)]).run P w = .ok (.int .i64 (c : Int)) w := by
  obtain ⟨D, h, hs, _⟩ := h
  rw [h.len ht ty, hs]
end
end Go.Proofs.Ythaghhleidopeaa
