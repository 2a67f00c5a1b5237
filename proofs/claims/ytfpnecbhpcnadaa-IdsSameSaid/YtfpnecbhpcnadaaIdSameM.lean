/-
  Pools beside each other, and beside an own row; which numbers a list of those that are out has.
-/
import Derived.Test.YtfpnecbhpcnadaaIdAwake
namespace Go.Proofs.Ytfpnecbhpcnadaa
open Go.RowKit Go.Sort
set_option linter.unusedVariables false

/-- Two slices in different blocks. -/
def ApartV (v v2 : Value) : Prop := ∀ k, v.ownBlock = some k → v2.ownBlock ≠ some k
theorem ApartV.symm {v v2 : Value} (h : ApartV v v2) : ApartV v2 v := fun k hk e => h k e hk
theorem ApartV.nil {v : Value} : ApartV v (.slice none 0 0) := fun k hk e => by cases e
section
variable {w0 w w' wa : World} {r : Option Nat} {m b : Nat} {v v' : Value} {l l' : List Bool}
theorem PoolIs.isRow (h : PoolIs w0 r m b w v l) {k : Nat} (hk : v.ownBlock = some k) : ∃ cs, w.heap[k]? = some (.cells cs 3 (0, 0)) := by
  obtain ⟨u, ys, hx, _⟩ := h
  rcases hx.own.2 with ⟨hv, _⟩ | ⟨g, cap, cur, hv, hg, hb, _⟩
  · rw [hv] at hk; cases hk
  · rw [hv] at hk
    obtain rfl := Option.some.inj hk
    exact ⟨_, hb⟩
theorem PoolIs.isPool (h : PoolIs w0 r m b w v l) : ∃ cs, w.heap[b]? = some (.cells cs 42 (0, 0)) := by
  obtain ⟨u, ys, hx, _⟩ := h
  exact ⟨_, hx.at'⟩
theorem OwnN.isRow {B : Nat} {xs : List Int} (h : OwnN B w v xs) {k : Nat} (hk : v.ownBlock = some k) : ∃ cs, w.heap[k]? = some (.cells cs 3 (0, 0)) := by
  rcases h.2 with ⟨hv, _⟩ | ⟨g, cap, cur, hv, hg, hb, _⟩
  · rw [hv] at hk; cases hk
  · rw [hv] at hk
    obtain rfl := Option.some.inj hk
    exact ⟨_, hb⟩
/-- An own row beside a pool that is called. -/
theorem OwnN.beside {B : Nat} {v6 : Value} {xs : List Int} (h6 : OwnN B w v6 xs) (h0 : PoolIs w0 r m b w v l) (h : PoolIs w v.ownBlock m b w' v' l') (ha : ApartV v6 v) : OwnN B w' v6 xs ∧ ApartV v6 v' := by
  have hk := h.keep
  constructor
  · refine World.ownsRow.kept (row := none) h6 ⟨rfl, rfl, rfl, Nat.le_refl _, fun _ _ _ => rfl⟩ (by cases v6.ownBlock <;> simp) |> fun h6 => ?_
    refine ⟨h6.1, ?_⟩
    rcases h6.2 with hn | ⟨g, cap, cur, rfl, hb, hgg, rest⟩
    · exact Or.inl hn
    · refine Or.inr ⟨g, cap, cur, rfl, hb, ?_, rest⟩
      obtain ⟨cs, hp⟩ := h0.isPool
      rw [hk.block g (lt_of_get hgg) (block_ne hgg hp (by decide)) (fun e => ha g rfl e.symm)]
      exact hgg
  · intro k hk6 e
    rcases (h.row k e).1 with h1 | h1
    · exact ha k hk6 h1.symm
    · obtain ⟨cs, hc⟩ := h6.isRow hk6
      have := lt_of_get hc
      omega
/-- A pool beside an own row that is appended to. -/
theorem PoolIs.grown {row : Option Nat} (h : PoolIs w0 r m b w v l) (hg : w.grownBy w' row) (hb : row ≠ some b) (hr : ∀ k, v.ownBlock = some k → row ≠ some k) : PoolIs w' v.ownBlock m b w' v l := by
  obtain ⟨u, ys, hx, hgd, hl⟩ := h
  refine ⟨u, ys, ⟨?_, ?_, fun k hk => Or.inl hk.symm, Keeps.refl _ _ _⟩, hgd, hl⟩
  · rw [hg.block b hx.lt (fun e => hb e.symm)]
    exact hx.at'
  · refine World.ownsRow.kept hx.own hg ?_
    cases hv : v.ownBlock with
    | none => exact Or.inl rfl
    | some k => exact Or.inr (fun e => hr k hv e.symm)
/-- A pool beside another one that is called. -/
theorem PoolIs.other {w2 : World} {r2 : Option Nat} {m2 b2 : Nat} {v2 : Value} {l2 : List Bool} (h0 : PoolIs w0 r m b w v l) (h : PoolIs w v.ownBlock m b w' v' l') (h2 : PoolIs w2 r2 m2 b2 w v2 l2) (hb : b ≠ b2) (ha : ApartV v v2) : PoolIs w' v2.ownBlock m2 b2 w' v2 l2 ∧ ApartV v' v2 := by
  have hk := h.keep
  obtain ⟨cs, hp⟩ := h0.isPool
  obtain ⟨cs2, hp2⟩ := h2.isPool
  have hrow : ∀ k, v2.ownBlock = some k → w'.heap[k]? = w.heap[k]? := fun k hk2 => by
    obtain ⟨cs3, hc⟩ := h2.isRow hk2
    exact hk.block k (lt_of_get hc) (block_ne hc hp (by decide)) (fun e => ha k e.symm hk2)
  have hat : w'.heap[b2]? = w.heap[b2]? := hk.block b2 (lt_of_get hp2) (fun e => hb e.symm) (fun e => by
    obtain ⟨cs3, hc⟩ := h0.isRow e.symm
    exact block_ne hp2 hc (by decide) rfl)
  constructor
  · obtain ⟨u, ys, hx, hgd, hl⟩ := h2
    refine ⟨u, ys, ⟨by rw [hat]; exact hx.at', ⟨hx.own.1, ?_⟩, fun k hk => Or.inl hk.symm, Keeps.refl _ _ _⟩, hgd, hl⟩
    rcases hx.own.2 with hn | ⟨g, cap, cur, rfl, hbg, hgg, rest⟩
    · exact Or.inl hn
    · exact Or.inr ⟨g, cap, cur, rfl, hbg, by rw [hrow g rfl]; exact hgg, rest⟩
  · intro k hk' e
    rcases (h.row k hk').1 with h1 | h1
    · exact ha k h1.symm e
    · obtain ⟨cs3, hc⟩ := h2.isRow e
      have := lt_of_get hc
      omega
theorem PoolIs.newer {m2 b2 : Nat} {v2 : Value} {l2 : List Bool} (h0 : PoolIs w0 r m b w v l) (h : PoolIs w none m2 b2 w' v2 l2) : ApartV v v2 ∧ (w.heap.size ≤ b2 → b ≠ b2) := by
  constructor
  · intro k hk e
    rcases (h.row k e).1 with h1 | h1
    · cases h1
    · have := (h0.row k hk).2.2
      omega
  · intro h1 h2
    have := h0.lt
    omega
theorem take_zero (h : PoolIs w v.ownBlock m b w v l) (h0 : leastN m l = 0) : Calls Try.prog 10 #[.pointer (some ⟨b, 0, none⟩)] w fun e w' => e = .returned (.tuple #[.int .i64 0, .bool false]) ∧ PoolIs w v.ownBlock m b w' v l :=
  (take_c w v.ownBlock m b v l w h).mono (fun e w' h => by
    rcases h with ⟨_, h1, h2⟩ | ⟨n, v', h1, _, h2, _⟩
    · exact ⟨h1, h2⟩
    · omega)
theorem take_some (h : PoolIs w v.ownBlock m b w v l) (h0 : leastN m l ≠ 0) : Calls Try.prog 10 #[.pointer (some ⟨b, 0, none⟩)] w fun e w' => e = .returned (.tuple #[.int .i64 (leastN m l : Nat), .bool true]) ∧ ∃ v', PoolIs w v.ownBlock m b w' v' (l.set (leastN m l) true) :=
  (take_c w v.ownBlock m b v l w h).mono (fun e w' h => by
    rcases h with ⟨h1, _, _⟩ | ⟨n, v', _, _, h2, h3, h4⟩
    · exact absurd h1 h0
    · rw [h2]
      exact ⟨h3, v', h4⟩)
theorem PoolIs.len2 (h : PoolIs w0 r m b w v l) : l.length = 201 ∧ m ≤ 200 := by
  obtain ⟨u, ys, _, hg, rfl⟩ := h
  exact ⟨outRow_length u ys, hg.m200⟩
theorem OwnN.lower {B C : Nat} {xs : List Int} (h : OwnN C w v xs) (hB : B ≤ C) : OwnN B w v xs := by
  refine ⟨h.1, ?_⟩
  rcases h.2 with hn | ⟨g, cap, cur, hv, hb, rest⟩
  · exact Or.inl hn
  · exact Or.inr ⟨g, cap, cur, hv, by omega, rest⟩
/-- A list has just the numbers that are out. -/
def HasOut (m : Nat) (l : List Bool) (L : List Int) : Prop := ∀ x : Int, x ∈ L ↔ isOut m l x = true
theorem HasOut.nil (m : Nat) : HasOut m (mkRow m []) [] := fun x => by
  refine ⟨fun h => (by cases h), fun h => ?_⟩
  unfold isOut at h
  have : (mkRow m []).getD x.toNat false = false := by
    show (List.replicate 201 false).getD x.toNat false = false
    rw [List.getD_eq_getElem?_getD, List.getElem?_replicate]
    split <;> rfl
  rw [this] at h
  simp at h
theorem isOut_set {m : Nat} {l : List Bool} {n : Nat} {t : Bool} (hl : l.length = 201) (hm : m ≤ 200) (h1 : 1 ≤ n) (h2 : n ≤ m) (x : Int) : isOut m (l.set n t) x = if x = n then t else isOut m l x := by
  unfold isOut
  by_cases e : x = n
  · subst e
    rw [if_pos rfl, Int.toNat_natCast, decide_eq_true (by omega), decide_eq_true (by omega), List.getD_eq_getElem?_getD, List.getElem?_set_self (by omega)]
    rfl
  · rw [if_neg e]
    by_cases hx : 1 ≤ x
    · rw [List.getD_eq_getElem?_getD, List.getD_eq_getElem?_getD, List.getElem?_set_ne (by omega)]
    · rw [decide_eq_false hx]
      simp
theorem HasOut.more {L : List Int} {n : Nat} (h : HasOut m l L) (hl : l.length = 201) (hm : m ≤ 200) (h1 : 1 ≤ n) (h2 : n ≤ m) : HasOut m (l.set n true) (L ++ [(n : Int)]) := fun x => by
  rw [isOut_set hl hm h1 h2, List.mem_append, List.mem_singleton, h x]
  by_cases e : x = n
  · rw [if_pos e]
    simp [e]
  · rw [if_neg e]
    simp [e]
theorem HasOut.less {L : List Int} {n : Nat} (h : HasOut m l L) (hl : l.length = 201) (hm : m ≤ 200) (h1 : 1 ≤ n) (h2 : n ≤ m) : HasOut m (l.set n false) (L.filter (fun y => !(y == (n : Int)))) := fun x => by
  rw [isOut_set hl hm h1 h2, List.mem_filter, h x]
  by_cases e : x = n
  · rw [if_pos e]
    simp [e]
  · rw [if_neg e]
    simp [e]
theorem mkRow_get (m : Nat) (hm : m ≤ 200) (n : Nat) (hn : n ≤ 200) : ∀ L : List Int, (mkRow m L)[n]? = some (decide (1 ≤ n ∧ n ≤ m ∧ (n : Int) ∈ L)) := by
  intro L
  induction hL : L.length generalizing L with
  | zero =>
    obtain rfl := List.eq_nil_of_length_eq_zero hL
    show (List.replicate 201 false)[n]? = _
    rw [List.getElem?_replicate, if_pos (by omega)]
    simp
  | succ q ih =>
    obtain ⟨L', x, rfl⟩ : ∃ L' x, L = L' ++ [x] := ⟨L.dropLast, L.getLast (by intro e; rw [e] at hL; simp at hL), (List.dropLast_concat_getLast _).symm⟩
    have ih' := ih L' (by simp at hL; omega)
    rw [mkRow_snoc]
    by_cases hx : 1 ≤ x ∧ x ≤ (m : Int)
    · rw [if_pos hx]
      by_cases e : x.toNat = n
      · rw [e, List.getElem?_set_self (by rw [mkRow_len]; omega)]
        congr 1
        symm
        rw [decide_eq_true_eq]
        refine ⟨by omega, by omega, by simp; omega⟩
      · rw [List.getElem?_set_ne e, ih']
        congr 2
        apply propext
        rw [List.mem_append, List.mem_singleton]
        constructor
        · rintro ⟨a, b, c⟩; exact ⟨a, b, Or.inl c⟩
        · rintro ⟨a, b, c | c⟩
          · exact ⟨a, b, c⟩
          · omega
    · rw [if_neg hx, ih']
      congr 2
      apply propext
      rw [List.mem_append, List.mem_singleton]
      constructor
      · rintro ⟨a, b, c⟩; exact ⟨a, b, Or.inl c⟩
      · rintro ⟨a, b, c | c⟩
        · exact ⟨a, b, c⟩
        · omega
/-- A pool made with those that are out is the same. -/
theorem HasOut.made {L : List Int} (h : HasOut m l L) (hp : PoolIs w0 r m b w v l) : mkRow m L = l := by
  obtain ⟨u, ys, _, hg, rfl⟩ := hp
  have hm := hg.m200
  have hu := hg.um
  apply List.ext_getElem?
  intro n
  by_cases hn : n ≤ 200
  · rw [mkRow_get m hm n hn, outRow_get _ _ hn]
    congr 1
    rw [Bool.eq_iff_iff, decide_eq_true_eq, h]
    have hi := hg.isOut (n : Int)
    rw [hi]
    unfold outAt
    simp only [decide_eq_true_eq]
    constructor
    · rintro ⟨a, b, c, d, e⟩; exact ⟨a, by omega, e⟩
    · rintro ⟨a, b, c⟩; exact ⟨a, by omega, by omega, by omega, c⟩
  · rw [List.getElem?_eq_none (by rw [mkRow_len]; omega), List.getElem?_eq_none (by rw [outRow_length]; omega)]
end
end Go.Proofs.Ytfpnecbhpcnadaa
