/-
  The number of a new entry, plainly: the least from 1 on that none of the same hash has.
-/
import Derived.Test.YtbbgnhbkjbobgaaGreatDoorFcMath
import Derived.Test.YtbbgnhbkjbobgaaGreatDoorL2
namespace Go.Proofs.YtbbgnhbkjbobgaaGreatDoor
open Go.RowKit Go.Sort
set_option linter.unusedVariables false

def freeI (ts : List Int) : Nat → Int → Int
  | 0, k => k
  | f + 1, k => if k ∈ ts then freeI ts f (k + 1) else k
theorem freeI_spec (ts : List Int) : ∀ (f : Nat) (k : Int), (∀ x ∈ ts, x < k + f) → (∀ m, 1 ≤ m → m < k → m ∈ ts) → 1 ≤ k → FreeOf ts (freeI ts f k)
  | 0, k, h, hm, h1 => ⟨h1, fun hk => by have := h k hk; omega, hm⟩
  | f + 1, k, h, hm, h1 => by
    unfold freeI
    split
    · rename_i hk
      exact freeI_spec ts f (k + 1) (fun x hx => by have := h x hx; omega) (fun m a b => by
        by_cases e : m = k
        · subst e; exact hk
        · exact hm m a (by omega)) (by omega)
    · rename_i hk
      exact ⟨h1, hk, hm⟩
def bndI : List Int → Nat
  | [] => 0
  | x :: l => x.toNat + 1 + bndI l
theorem bndI_lt : ∀ (ts : List Int), ∀ x ∈ ts, x < 1 + (bndI ts : Int)
  | [], x, h => by cases h
  | y :: l, x, h => by
    unfold bndI
    rcases List.mem_cons.1 h with rfl | h
    · omega
    · have := bndI_lt l x h
      omega
theorem nodupSub : ∀ (l m : List Int), l.Nodup → (∀ x ∈ l, x ∈ m) → l.length ≤ m.length
  | [], m, _, _ => Nat.zero_le _
  | x :: l, m, hn, hs => by
    obtain ⟨h1, h2⟩ := List.nodup_cons.1 hn
    have hx : x ∈ m := hs x List.mem_cons_self
    have ih := nodupSub l (m.erase x) h2 (fun y hy => (List.mem_erase_of_ne (show y ≠ x from fun e => h1 (by rw [← e]; exact hy))).2 (hs y (List.mem_cons_of_mem _ hy)))
    rw [List.length_erase_of_mem hx] at ih
    have : 0 < m.length := List.length_pos_of_mem hx
    rw [List.length_cons]
    omega
theorem freeOf_le {ts : List Int} {f : Int} (h : FreeOf ts f) : f ≤ ts.length + 1 := by
  obtain ⟨h1, h2, h3⟩ := h
  obtain ⟨n, hn⟩ : ∃ n : Nat, f = n + 1 := ⟨(f - 1).toNat, by omega⟩
  have hd : ((List.range n).map fun i : Nat => ((i : Int) + 1)).Nodup := by
    rw [List.nodup_iff_pairwise_ne, List.pairwise_map]
    refine List.Pairwise.imp (fun {a b} h => ?_) (List.nodup_iff_pairwise_ne.1 List.nodup_range)
    intro e; omega
  have := nodupSub _ ts hd (fun x hx => by
    obtain ⟨i, hi, rfl⟩ := List.mem_map.1 hx
    have := List.mem_range.1 hi
    exact h3 _ (by omega) (by omega))
  rw [List.length_map, List.length_range] at this
  omega
/-- The Shorts of the entries of a hash. -/
def shortsOf (h : Nat) (l : List Ent) : List Int := (l.filter fun e => decide (fnvL e.name.data.toList = h)).map Ent.short
theorem shortsOf_nil (h : Nat) : shortsOf h [] = [] := rfl
theorem shortsOf_snoc (h : Nat) (l : List Ent) (x : Ent) : shortsOf h (l ++ [x]) = if fnvL x.name.data.toList = h then shortsOf h l ++ [x.short] else shortsOf h l := by
  unfold shortsOf
  rw [List.filter_append, List.map_append]
  by_cases e : fnvL x.name.data.toList = h <;> simp [e]
theorem shortsOf_len (h : Nat) (l : List Ent) : (shortsOf h l).length ≤ l.length := by
  unfold shortsOf
  rw [List.length_map]
  exact List.length_filter_le _ _
theorem mem_shorts {h : Nat} {l : List Ent} {n : Int} : n ∈ shortsOf h l ↔ ∃ e ∈ l, fnvL e.name.data.toList = h ∧ e.short = n := by
  unfold shortsOf
  simp only [List.mem_map, List.mem_filter, decide_eq_true_iff]
  exact ⟨fun ⟨e, ⟨h1, h2⟩, h3⟩ => ⟨e, h1, h2, h3⟩, fun ⟨e, h1, h2, h3⟩ => ⟨e, ⟨h1, h2⟩, h3⟩⟩
def pickI (enc : Int) (l : List Ent) (r : List UInt8) : Int := if longB enc r = true then freeI (shortsOf (fnvL r) l) (bndI (shortsOf (fnvL r) l)) 1 else 0
theorem pick_short {enc : Int} {l : List Ent} {r : List UInt8} (h : longB enc r = false) : pickI enc l r = 0 := by
  unfold pickI
  rw [if_neg (by rw [h]; decide)]
theorem pick_free {enc : Int} {l : List Ent} {r : List UInt8} (h : longB enc r = true) : FreeOf (shortsOf (fnvL r) l) (pickI enc l r) := by
  unfold pickI
  rw [if_pos h]
  exact freeI_spec _ _ _ (bndI_lt _) (fun m a b => by omega) (by omega)
theorem pick_range (enc : Int) (l : List Ent) (r : List UInt8) : 0 ≤ pickI enc l r ∧ pickI enc l r ≤ l.length + 1 := by
  cases h : longB enc r with
  | false => rw [pick_short h]; omega
  | true =>
    have hf := pick_free (l := l) h
    have h1 := hf.1
    have h2 := freeOf_le hf
    have h3 := shortsOf_len (fnvL r) l
    omega
theorem take_snocE {α : Type} {l : List α} {i : Nat} {x : α} (h : l[i]? = some x) : l.take (i + 1) = l.take i ++ [x] := by
  rw [List.take_add_one, h]; rfl
end Go.Proofs.YtbbgnhbkjbobgaaGreatDoor
