/-
  VaultPlays' kit: a vault, and what the law keeps of it.
-/
import Derived.Test.YtmpfdmjbgabcdaaJ6
import Derived.Test.YtmpfdmjbgabcdaaJ4
import Derived.Test.YtmpfdmjbgabcdaaJ3
import Derived.Test.YtmpfdmjbgabcdaaR7Cut
import Derived.Test.YtmpfdmjbgabcdaaR7Same
namespace Go.Proofs.Ytmpfdmjbgabcdaa
open Go.RowKit Go.Sort
set_option linter.unusedVariables false

/-- Behind i calls: the vault's device and block; the law's own records lv, and its room r. -/
def PlL (B b vb n h i : Nat) (W : World) (img : ByteArray) (lv : Value) (r : Int) : Prop :=
  ∃ k E A rs r1 r2 st rv, LiveR B b vb n h k E A img rs r1 r2 false st rv W ∧ rs.length ≤ i ∧ E ≤ i + 1 ∧ r = (h : Int) - (A : Int) ∧ RowAt B W lv rs ∧ (rowBlk lv = none ∨ rowBlk lv ≠ rowBlk rv)
/-- A record is appended, but not yet to the law's own. -/
def PlA (B b vb n h i : Nat) (W : World) (img : ByteArray) (lv : Value) (r : Int) (s : ByteArray) (rs : List ByteArray) : Prop :=
  ∃ k E A r1 r2 st rv, LiveR B b vb n h k E A img (rs ++ [s]) r1 r2 false st rv W ∧ rs.length ≤ i ∧ E ≤ i + 1 ∧ r = (h : Int) - (A : Int) ∧ RowAt B W lv rs ∧ (rowBlk lv = none ∨ rowBlk lv ≠ rowBlk rv)
theorem cutf_c (s : ByteArray) (w : World) (hs : s.size ≤ 65000) : Calls Try.prog 19 #[.string s] w fun e w' => ∃ a c, e = .returned (.slice a ((s.size + 61) / 62 : Nat) c) ∧ Below w.heap.size w w' := by
  refine (cut7_c s w hs).mono ?_
  rintro e w' ⟨v, rfl, ho, hb⟩
  rw [cut_len] at ho
  rcases ho.2 with ⟨hv, h0⟩ | ⟨g, cap, cur, hv, _⟩
  · exact ⟨none, 0, by rw [hv, h0], hb⟩
  · exact ⟨_, cap, by rw [hv], hb⟩
theorem rowBlk_far {B : Nat} {w : World} {lv : Value} {l : List ByteArray} (h : RowAt B w lv l) {v : Value} (hv : ∃ g, w.heap.size ≤ g ∧ rowBlk v = some g) : rowBlk lv = none ∨ rowBlk lv ≠ rowBlk v := by
  cases hl : rowBlk lv with
  | none => exact Or.inl rfl
  | some g =>
    obtain ⟨g', h1, h2⟩ := hv
    right
    rw [h2]
    intro e
    injection e with e
    have := (h.lt hl).2
    omega
section
variable {B b vb n h i : Nat} {W W' : World} {img : ByteArray} {lv : Value} {r : Int}
theorem PlL.below (hP : PlL B b vb n h i W img lv r) (hb : Below W.heap.size W W') : PlL B b vb n h i W' img lv r := by
  obtain ⟨k, E, A, rs, r1, r2, st, rv, hL, h1, h2, h3, h4, h5⟩ := hP
  exact ⟨k, E, A, rs, r1, r2, st, rv, hL.below hb, h1, h2, h3, h4.below hb, h5⟩
theorem PlL.up (hP : PlL B b vb n h i W img lv r) {j : Nat} (hj : i ≤ j) : PlL B b vb n h j W img lv r := by
  obtain ⟨k, E, A, rs, r1, r2, st, rv, hL, h1, h2, h3, h4, h5⟩ := hP
  exact ⟨k, E, A, rs, r1, r2, st, rv, hL, by omega, by omega, h3, h4, h5⟩
theorem PlL.room (hP : PlL B b vb n h i W img lv r) : 0 ≤ r ∧ r ≤ 200 := by
  obtain ⟨k, E, A, rs, r1, r2, st, rv, hL, h1, h2, h3, h4, h5⟩ := hP
  have h6 := hL.live.room
  have h7 := hL.live.n2
  have h8 := hL.live.hn
  omega
theorem pl_image (hP : PlL B b vb n h i W img lv r) : Calls Try.prog 16 #[.pointer (some ⟨vb, 0, none⟩)] W fun e w' => e = .returned (.string img) ∧ W = w' := by
  obtain ⟨k, E, A, rs, r1, r2, st, rv, hL, h1, h2, h3, h4, h5⟩ := hP
  exact image_c hL.vlt
theorem pl_over (hP : PlL B b vb n h i W img lv r) : Calls Try.prog 23 #[.pointer (some ⟨vb, 0, none⟩)] W fun e w' => e = .returned (.bool false) ∧ W = w' := by
  obtain ⟨k, E, A, rs, r1, r2, st, rv, hL, h1, h2, h3, h4, h5⟩ := hP
  exact over_c hL.vlt
theorem pl_room (hP : PlL B b vb n h i W img lv r) : Calls Try.prog 22 #[.pointer (some ⟨vb, 0, none⟩)] W fun e w' => e = .returned (.int .i64 r) ∧ Below W.heap.size W w' := by
  obtain ⟨k, E, A, rs, r1, r2, st, rv, hL, h1, h2, h3, h4, h5⟩ := hP
  have h6 := hL.live.room
  have h7 := hL.live.n2
  have h8 := hL.live.hn
  rw [h3]
  exact vroom_c hL.vlt (by omega) (by omega)
theorem pl_records (hP : PlL B b vb n h i W img lv r) (hi : i ≤ 1000) : Calls Try.prog 17 #[.pointer (some ⟨vb, 0, none⟩)] W fun e w' => ∃ v, e = .returned v ∧ Below W.heap.size W w' ∧ Calls Try.prog 21 #[v, lv] w' fun e w2 => e = .returned (.bool true) ∧ Below w'.heap.size w' w2 := by
  obtain ⟨k, E, A, rs, r1, r2, st, rv, hL, h1, h2, h3, h4, h5⟩ := hP
  refine (records_c hL.vlt hL.row (by omega)).mono ?_
  rintro e w' ⟨v, rfl, ho, hb⟩
  exact ⟨v, rfl, hb, same_c _ _ rs rs w' (strs_owned ho) (h4.below hb).strs (by omega) (by omega) true ⟨fun _ => rfl, fun _ => rfl⟩⟩
theorem pl_sync (hP : PlL B b vb n h i W img lv r) (hB : B ≤ W.heap.size) : Calls Try.prog 20 #[.pointer (some ⟨vb, 0, none⟩)] W fun e w' => e = .returned (.int .i64 0) ∧ Below B W w' ∧ PlL B b vb n h i w' img lv r := by
  obtain ⟨k, E, A, rs, r1, r2, st, rv, hL, h1, h2, h3, h4, h5⟩ := hP
  refine (sync_c hL hB).mono ?_
  rintro e w' ⟨q, rfl, hb, ho, ⟨rfl, st', hl⟩ | ⟨_, hf, _⟩⟩
  · exact ⟨rfl, hb, k, E, A, rs, _, _, st', rv, hl, h1, h2, h3, h4.off ho, h5⟩
  · cases hf
theorem pl_renew (s : ByteArray) (hP : PlL B b vb n h i W img lv r) (hs : s.size ≤ 400) (hi : i ≤ 1000) (hB : B ≤ W.heap.size) : Calls Try.prog 12 #[.pointer (some ⟨vb, 0, none⟩), .string s] W fun e w' => e = .returned (.int .i64 (fitsI h 1 s)) ∧ Below B W w' ∧ (fitsI h 1 s ≠ 0 → PlL B b vb n h i w' img lv r) ∧ (fitsI h 1 s = 0 → PlL B b vb n h (i + 1) w' s (.slice none 0 0) ((h : Int) - 1 - (((s.size + 61) / 62 : Nat) : Int))) := by
  obtain ⟨k, E, A, rs, r1, r2, st, rv, hL, h1, h2, h3, h4, h5⟩ := hP
  refine (renew_c s hL (by omega) (by omega) hB).mono ?_
  rintro e w' ⟨q, rfl, ⟨rfl, hf, hb, ho, st', rv', hl, _, _⟩ | ⟨hb, ho, ⟨_, hf, _⟩ | ⟨hq, _, rfl, hl⟩⟩⟩
  · rw [hf]
    exact ⟨rfl, hb, fun h => absurd rfl h, fun _ => ⟨_, _, _, [], _, _, st', rv', hl, Nat.zero_le _, by omega, by omega, Or.inl ⟨rfl, rfl⟩, Or.inl rfl⟩⟩
  · cases hf
  · exact ⟨rfl, hb, fun _ => ⟨k, E, A, rs, _, _, st, rv, hl, h1, h2, h3, h4.off ho, h5⟩, fun h => absurd h hq⟩
/-- What an append answers. -/
def apI (r : Int) (s : ByteArray) : Int := if s.size = 0 then 4 else if r < (((s.size + 61) / 62 : Nat) : Int) then 11 else 0
theorem apI_fits {h A : Nat} {r : Int} {s : ByteArray} (hr : r = (h : Int) - (A : Int)) (hs : s.size ≤ 400) : fitsI h A s = apI r s := by
  unfold fitsI apI
  by_cases h0 : s.size = 0
  · rw [if_pos (by omega), if_pos h0]
  · rw [if_neg (by omega), if_neg h0]
    by_cases h1 : h < A + (s.size + 61) / 62
    · rw [if_pos h1, if_pos (by omega)]
    · rw [if_neg h1, if_neg (by omega)]
theorem pl_append (s : ByteArray) (hP : PlL B b vb n h i W img lv r) (hs : s.size ≤ 400) (hi : i ≤ 1000) (hB : B ≤ W.heap.size) : Calls Try.prog 11 #[.pointer (some ⟨vb, 0, none⟩), .string s] W fun e w' => e = .returned (.int .i64 (apI r s)) ∧ Below B W w' ∧ (apI r s ≠ 0 → PlL B b vb n h i w' img lv r) ∧ (apI r s = 0 → ∃ rs, PlA B b vb n h i w' img lv (r - (((s.size + 61) / 62 : Nat) : Int)) s rs) := by
  obtain ⟨k, E, A, rs, r1, r2, st, rv, hL, h1, h2, h3, h4, h5⟩ := hP
  rw [← apI_fits h3 hs]
  refine (append_c s hL (by omega) (by omega) hB).mono ?_
  rintro e w' ⟨q, rfl, hb, ho, ⟨rfl, hf, st', rv', hl, hbl⟩ | ⟨_, hf, _⟩ | ⟨hq, _, rfl, hl⟩⟩
  · rw [hf]
    refine ⟨rfl, hb, fun h => absurd rfl h, fun _ => ⟨rs, k, E, _, _, _, st', rv', hl, h1, h2, by omega, h4.offRow ho h5, ?_⟩⟩
    rcases hbl with hbl | hbl
    · rw [hbl]; exact h5
    · exact rowBlk_far h4 hbl
  · cases hf
  · exact ⟨rfl, hb, fun _ => ⟨k, E, A, rs, _, _, st, rv, hl, h1, h2, h3, h4.offRow ho h5, h5⟩, fun h => absurd h hq⟩
/-- The law's own records are appended to. -/
theorem PlA.done {s : ByteArray} {rs : List ByteArray} (hP : PlA B b vb n h i W img lv r s rs) (hb : Below W.heap.size W W') {v : Value} (hv : RowAt W.heap.size W' v (rs ++ [s])) (hB : B ≤ W.heap.size) : PlL B b vb n h (i + 1) W' img v r := by
  obtain ⟨k, E, A, r1, r2, st, rv, hL, h1, h2, h3, h4, h5⟩ := hP
  refine ⟨k, E, A, _, r1, r2, st, rv, hL.below hb, by simp; omega, by omega, h3, hv.base hB, ?_⟩
  cases hl : rowBlk rv with
  | none =>
    cases hl2 : rowBlk v with
    | none => exact Or.inl rfl
    | some g => exact Or.inr (by simp)
  | some g =>
    right
    intro e
    have h6 := (hL.row.lt hl).2
    have h7 := (hv.lt e).1
    omega
theorem pl_open (hP : PlL B b vb n h i W img lv r) (hh : n / 2 = h) (hB : B ≤ W.heap.size) : Calls Try.prog 15 #[.pointer (some ⟨b, 0, none⟩)] W fun e w' => ∃ vb', e = .returned (.tuple #[.pointer (some ⟨vb', 0, none⟩), .int .i64 0]) ∧ Below B W w' ∧ PlL B b vb' n h i w' img lv r := by
  obtain ⟨k, E, A, rs, r1, r2, st, rv, hL, h1, h2, h3, h4, h5⟩ := hP
  refine (reopen_c hL.dev (hL.live.kn hh) hB).mono ?_
  rintro e w' ⟨vb', rv', st', rfl, hb, ho, hvb, hrow, hL', _⟩
  refine ⟨vb', rfl, hb, k, E, _, rs, _, _, st', rv', hL', h1, h2, ?_, h4.off ho.1, ?_⟩
  · rw [h3, hL.live.end_]
  · cases hl : rowBlk rv' with
    | none =>
      cases hl2 : rowBlk lv with
      | none => exact Or.inl rfl
      | some g => exact Or.inr (by simp)
    | some g => exact hl ▸ rowBlk_far h4 ⟨g, (hrow.lt hl).1, hl⟩
end
theorem PlL.start {B b vb n h : Nat} {k : Bool} {E A : Nat} {img : ByteArray} {r1 r2 : List ByteArray} {st : St} {rv : Value} {W : World} (hL : LiveR B b vb n h k E A img [] r1 r2 false st rv W) (hE : E ≤ 1) {r : Int} (hr : r = (h : Int) - (A : Int)) : PlL B b vb n h 0 W img (.slice none 0 0) r :=
  ⟨k, E, A, [], r1, r2, st, rv, hL, Nat.le_refl _, by omega, hr, Or.inl ⟨rfl, rfl⟩, Or.inl rfl⟩
end Go.Proofs.Ytmpfdmjbgabcdaa
