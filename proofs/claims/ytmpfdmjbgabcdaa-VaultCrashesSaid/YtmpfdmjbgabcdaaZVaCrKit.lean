/-
  VaultCrashes' kit: a vault, power gone or not, and what the law keeps of it.
-/
import Derived.Test.YtmpfdmjbgabcdaaZVaPlKit
import Derived.Test.YtmpfdmjbgabcdaaZVaOver
namespace Go.Proofs.Ytmpfdmjbgabcdaa
open Go.RowKit Go.Sort
set_option linter.unusedVariables false

/-- The law's copies of calls stay. -/
def KeepO (w w' : World) : Prop := ∀ (k : Nat) (cs : Array Value) (fr : Nat × Nat), w.heap[k]? = some (.cells cs 33 fr) → w'.heap[k]? = some (.cells cs 33 fr)
theorem KeepO.refl (w : World) : KeepO w w := fun _ _ _ h => h
theorem KeepO.trans {a b c : World} (h : KeepO a b) (h' : KeepO b c) : KeepO a c := fun k cs fr hk => h' k cs fr (h k cs fr hk)
theorem KeepO.ofOff {a b : World} (h : Off vaTs a b) : KeepO a b := fun k cs fr hk => h _ (by decide) k cs fr hk
theorem KeepO.ofBelow {a b : World} (h : Below a.heap.size a b) : KeepO a b := KeepO.ofOff (Off.ofBelow h _)
theorem KeepO.ofRow {B : Nat} {a b : World} {rv : Value} {l : List ByteArray} (h : OffRow (rowBlk rv) a b) (hr : RowAt B a rv l) : KeepO a b := fun k cs fr hk => h _ (by decide) k cs fr (fun e => by
  rcases hr with ⟨_, h1⟩ | ⟨g, off, cap, cur, h1, _, _, _, hg, _⟩
  · rw [h1] at e; cases e
  · rw [h1] at e
    injection e with e
    have e2 : k = g := e
    subst e2
    rw [hk] at hg
    injection hg with hg
    injection hg with _ hT _
    revert hT
    decide) hk
/-- The vault goes on; the first syn records are flushed; the law's own records lie in lv. -/
def CrA (B b vb i : Nat) (W : World) (img : ByteArray) (lv : Value) (syn : Nat) : Prop :=
  ∃ k E A rs r1 r2 lm st rv, LiveR B b vb 60 30 k E A img rs r1 r2 lm st rv W ∧ r1.length = syn + 1 ∧ rs.length ≤ i ∧ E ≤ i + 1 ∧ RowAt B W lv rs ∧ (rowBlk lv = none ∨ rowBlk lv ≠ rowBlk rv)
/-- Power was met gone. -/
def CrD (B b vb i : Nat) (W : World) (img : ByteArray) (lv : Value) (syn : Nat) (fresh : ByteArray) : Prop :=
  ∃ k E rs r1 r2 st, DeadR B b vb 60 30 k E r1 r2 fresh st W ∧ r1 ++ r2 = img :: rs ∧ r1.length = syn + 1 ∧ rs.length ≤ i ∧ E ≤ i + 1 ∧ RowAt B W lv rs ∧ ∀ s ∈ img :: rs, 1 ≤ s.size ∧ s.size ≤ 60000
/-- Ahead of a restart. -/
def CrZ (B b i : Nat) (W : World) (img : ByteArray) (lv : Value) (syn : Nat) (fresh : ByteArray) : Prop :=
  ∃ k E rs r1 r2 st, Dev B W b st ∧ DeadS 60 30 k E r1 r2 fresh st ∧ r1 ++ r2 = img :: rs ∧ r1.length = syn + 1 ∧ rs.length ≤ i ∧ E ≤ i + 1 ∧ RowAt B W lv rs ∧ ∀ s ∈ img :: rs, 1 ≤ s.size ∧ s.size ≤ 60000
/-- Opened again. -/
def CrN (B b vb i : Nat) (W : World) (img : ByteArray) (rs : List ByteArray) : Prop :=
  ∃ k E A st rv, LiveR B b vb 60 30 k E A img rs (img :: rs) [] false st rv W ∧ E ≤ i + 1 ∧ rs.length ≤ i
def CrL (B b vb i : Nat) (W : World) (img : ByteArray) (lv : Value) (syn : Nat) (fresh : ByteArray) : Prop := CrA B b vb i W img lv syn ∨ CrD B b vb i W img lv syn fresh
section
variable {B b vb i : Nat} {W W' : World} {img fresh : ByteArray} {lv : Value} {syn : Nat}
theorem CrA.below (h : CrA B b vb i W img lv syn) (hb : Below W.heap.size W W') : CrA B b vb i W' img lv syn := by
  obtain ⟨k, E, A, rs, r1, r2, lm, st, rv, hL, h1, h2, h3, h4, h5⟩ := h
  exact ⟨k, E, A, rs, r1, r2, lm, st, rv, hL.below hb, h1, h2, h3, h4.below hb, h5⟩
theorem CrD.below (h : CrD B b vb i W img lv syn fresh) (hb : Below W.heap.size W W') : CrD B b vb i W' img lv syn fresh := by
  obtain ⟨k, E, rs, r1, r2, st, hD, h0, h1, h2, h3, h4, h5⟩ := h
  exact ⟨k, E, rs, r1, r2, st, hD.below hb, h0, h1, h2, h3, h4.below hb, h5⟩
theorem CrA.up (h : CrA B b vb i W img lv syn) {j : Nat} (hj : i ≤ j) : CrA B b vb j W img lv syn := by
  obtain ⟨k, E, A, rs, r1, r2, lm, st, rv, hL, h1, h2, h3, h4, h5⟩ := h
  exact ⟨k, E, A, rs, r1, r2, lm, st, rv, hL, h1, by omega, by omega, h4, h5⟩
theorem CrD.up (h : CrD B b vb i W img lv syn fresh) {j : Nat} (hj : i ≤ j) : CrD B b vb j W img lv syn fresh := by
  obtain ⟨k, E, rs, r1, r2, st, hD, h0, h1, h2, h3, h4, h5⟩ := h
  exact ⟨k, E, rs, r1, r2, st, hD, h0, h1, by omega, by omega, h4, h5⟩
theorem CrL.below (h : CrL B b vb i W img lv syn fresh) (hb : Below W.heap.size W W') : CrL B b vb i W' img lv syn fresh := h.elim (fun h => Or.inl (h.below hb)) (fun h => Or.inr (h.below hb))
theorem CrL.up (h : CrL B b vb i W img lv syn fresh) {j : Nat} (hj : i ≤ j) : CrL B b vb j W img lv syn fresh := h.elim (fun h => Or.inl (h.up hj)) (fun h => Or.inr (h.up hj))
theorem DeadS.any {n h : Nat} {k : Bool} {E : Nat} {r1 r2 : List ByteArray} {st : St} (hD : DeadS n h k E r1 r2 ⟨#[]⟩ st) (f : ByteArray) : DeadS n h k E r1 r2 f st :=
  ⟨hD.good, hD.len, hD.pnd, hD.out.imp fun x hx => by
    rcases hx with hx | ⟨h0, _⟩
    · exact Or.inl hx
    · exact absurd rfl h0⟩
theorem CrD.any (h : CrD B b vb i W img lv syn ⟨#[]⟩) (f : ByteArray) : CrD B b vb i W img lv syn f := by
  obtain ⟨k, E, rs, r1, r2, st, hD, h0⟩ := h
  exact ⟨k, E, rs, r1, r2, st, ⟨hD.dead.any f, hD.dev, hD.vlt, hD.hvb⟩, h0⟩
theorem CrL.z (h : CrL B b vb i W img lv syn fresh) : CrZ B b i W img lv syn fresh := by
  rcases h with ⟨k, E, A, rs, r1, r2, lm, st, rv, hL, h1, h2, h3, h4, h5⟩ | ⟨k, E, rs, r1, r2, st, hD, h0, h1, h2, h3, h4, h5⟩
  · have hd := hL.live.dead [] fresh
    rw [List.append_nil] at hd
    exact ⟨k, E, rs, r1, r2, st, hL.dev, hd, hL.live.all.symm, h1, h2, h3, h4, hL.live.sizes⟩
  · exact ⟨k, E, rs, r1, r2, st, hD.dev, hD.dead, h0, h1, h2, h3, h4, h5⟩
theorem CrL.form (h : CrL B b vb i W img lv syn fresh) : ∃ a n c, lv = .slice a n c := by
  have h4 : ∃ rs, RowAt B W lv rs := by
    rcases h with ⟨k, E, A, rs, r1, r2, lm, st, rv, hL, h1, h2, h3, h4, h5⟩ | ⟨k, E, rs, r1, r2, st, hD, h0, h1, h2, h3, h4, h5⟩
    · exact ⟨rs, h4⟩
    · exact ⟨rs, h4⟩
  obtain ⟨rs, ⟨_, h5⟩ | ⟨g, off, cap, cur, h5, _⟩⟩ := h4
  · exact ⟨_, _, _, h5⟩
  · exact ⟨_, _, _, h5⟩
theorem LiveR.cutd {n h : Nat} {k : Bool} {E A : Nat} {rs r1 r2 : List ByteArray} {lm : Bool} {st : St} {rv : Value} {N : Int} (hL : LiveR B b vb n h k E A img rs r1 r2 lm st rv W) (h1 : -9223372036854775808 ≤ N) (h2 : N ≤ 9223372036854775807) (hd : Dev B W' b (cutSt st N)) (ho : Off devTs W W') : LiveR B b vb n h k E A img rs r1 r2 true (cutSt st N) rv W' :=
  ⟨hL.live.cut h1 h2, hd, HalfAt.base_off hL.vlt ho (by simp), hL.row.off ho.va, hL.hvb⟩
theorem cr_cut {N : Int} (h : CrL B b vb i W img lv syn fresh) (h1 : -9223372036854775808 ≤ N) (h2 : N ≤ 9223372036854775807) : Calls Try.prog 24 #[.pointer (some ⟨b, 0, none⟩), .int .i64 N] W fun e w' => e = .returned (.tuple #[]) ∧ Below B W w' ∧ KeepO W w' ∧ CrL B b vb i w' img lv syn fresh := by
  rcases h with ⟨k, E, A, rs, r1, r2, lm, st, rv, hL, g1, g2, g3, g4, g5⟩ | ⟨k, E, rs, r1, r2, st, hD, g0, g1, g2, g3, g4, g5⟩
  · refine (cut_c B b st N W hL.dev).mono ?_
    rintro e w' ⟨he, hd, hb, ho⟩
    exact ⟨he, hb, KeepO.ofOff ho.va, Or.inl ⟨k, E, A, rs, r1, r2, true, _, rv, hL.cutd h1 h2 hd ho, g1, g2, g3, g4.off ho.va, g5⟩⟩
  · refine (cut_c B b st N W hD.dev).mono ?_
    rintro e w' ⟨he, hd, hb, ho⟩
    obtain ⟨A, img', rv, hv⟩ := hD.vlt
    exact ⟨he, hb, KeepO.ofOff ho.va, Or.inr ⟨k, E, rs, r1, r2, _, ⟨hD.dead.cut h1 h2, hd, ⟨A, img', rv, HalfAt.base_off hv ho (by simp)⟩, hD.hvb⟩, g0, g1, g2, g3, g4.off ho.va, g5⟩⟩
theorem cr_overA (h : CrA B b vb i W img lv syn) : Calls Try.prog 23 #[.pointer (some ⟨vb, 0, none⟩)] W fun e w' => e = .returned (.bool false) ∧ W = w' := by
  obtain ⟨k, E, A, rs, r1, r2, lm, st, rv, hL, _⟩ := h
  exact over_c hL.vlt
theorem cr_overD (h : CrD B b vb i W img lv syn fresh) : Calls Try.prog 23 #[.pointer (some ⟨vb, 0, none⟩)] W fun e w' => e = .returned (.bool true) ∧ W = w' := by
  obtain ⟨k, E, rs, r1, r2, st, hD, _⟩ := h
  obtain ⟨A, img', rv, hv⟩ := hD.vlt
  exact over_c hv
theorem cr_syncA {a : Option Addr} {n c : Nat} (h : CrA B b vb i W img (.slice a n c) syn) (hB : B ≤ W.heap.size) : Calls Try.prog 20 #[.pointer (some ⟨vb, 0, none⟩)] W fun e w' => ∃ q : Int, e = .returned (.int .i64 q) ∧ Below B W w' ∧ KeepO W w' ∧ ((q = 0 ∧ CrA B b vb i w' img (.slice a n c) n) ∨ (q = 13 ∧ CrD B b vb i w' img (.slice a n c) syn ⟨#[]⟩)) := by
  obtain ⟨k, E, A, rs, r1, r2, lm, st, rv, hL, h1, h2, h3, h4, h5⟩ := h
  refine (sync_c hL hB).mono ?_
  rintro e w' ⟨q, rfl, hb, ho, ⟨rfl, st', hl⟩ | ⟨rfl, _, st', hd⟩⟩
  · refine ⟨0, rfl, hb, KeepO.ofOff ho, Or.inl ⟨rfl, k, E, A, rs, _, _, lm, st', rv, hl, ?_, h2, h3, h4.off ho, h5⟩⟩
    rw [← hL.live.all]
    have hn : rs.length = n := by
      rcases h4 with ⟨h6, h7⟩ | ⟨g, off, cap, cur, h6, _⟩
      · injection h7 with _ h8 _
        rw [h6, h8]; rfl
      · injection h6 with _ h8 _
        exact h8.symm
    simp [hn]
  · exact ⟨13, rfl, hb, KeepO.ofOff ho, Or.inr ⟨rfl, k, E, rs, r1, r2, st', hd, hL.live.all.symm, h1, h2, h3, h4.off ho, hL.live.sizes⟩⟩
theorem cr_syncD (h : CrD B b vb i W img lv syn fresh) : Calls Try.prog 20 #[.pointer (some ⟨vb, 0, none⟩)] W fun e w' => e = .returned (.int .i64 13) ∧ Below W.heap.size W w' := by
  obtain ⟨k, E, rs, r1, r2, st, hD, _⟩ := h
  obtain ⟨A, img', rv, hv⟩ := hD.vlt
  exact sync_over hv
theorem cr_renewA (s : ByteArray) (h : CrA B b vb i W img lv syn) (hs : s.size ≤ 400) (hi : i ≤ 1000) (hB : B ≤ W.heap.size) : Calls Try.prog 12 #[.pointer (some ⟨vb, 0, none⟩), .string s] W fun e w' => ∃ q : Int, e = .returned (.int .i64 q) ∧ Below B W w' ∧ KeepO W w' ∧ ((q = 0 ∧ CrA B b vb (i + 1) w' s (.slice none 0 0) 0) ∨ (q = 13 ∧ CrD B b vb (i + 1) w' img lv syn s) ∨ (q ≠ 0 ∧ q ≠ 13 ∧ CrA B b vb (i + 1) w' img lv syn)) := by
  obtain ⟨k, E, A, rs, r1, r2, lm, st, rv, hL, h1, h2, h3, h4, h5⟩ := h
  refine (renew_c s hL (by omega) (by omega) hB).mono ?_
  rintro e w' ⟨q, rfl, ⟨rfl, hf, hb, ho, st', rv', hl, _, _⟩ | ⟨hb, ho, ⟨rfl, _, st', hd⟩ | ⟨hq, hq2, hf, hl⟩⟩⟩
  · exact ⟨0, rfl, hb, KeepO.ofOff ho, Or.inl ⟨rfl, _, _, _, [], [s], [], lm, st', rv', hl, rfl, Nat.zero_le _, by omega, Or.inl ⟨rfl, rfl⟩, Or.inl rfl⟩⟩
  · exact ⟨13, rfl, hb, KeepO.ofOff ho, Or.inr (Or.inl ⟨rfl, k, E, rs, r1, r2, st', hd, hL.live.all.symm, h1, by omega, by omega, h4.off ho, hL.live.sizes⟩)⟩
  · exact ⟨q, rfl, hb, KeepO.ofOff ho, Or.inr (Or.inr ⟨hq, hq2, k, E, A, rs, r1, r2, lm, st, rv, hl, h1, by omega, by omega, h4.off ho, h5⟩)⟩
theorem cr_renewD (s : ByteArray) (h : CrD B b vb i W img lv syn fresh) (hs : s.size ≤ 400) (hi : i ≤ 1000) : Calls Try.prog 12 #[.pointer (some ⟨vb, 0, none⟩), .string s] W fun e w' => e = .returned (.int .i64 13) ∧ Below W.heap.size W w' := by
  obtain ⟨k, E, rs, r1, r2, st, hD, _, _, _, hE, _⟩ := h
  obtain ⟨A, img', rv, hv⟩ := hD.vlt
  exact renew_over s hv (by decide) (by omega) (by omega)
/-- The law's own records lack the last one. -/
def CrQ (B i : Nat) (W : World) (lv : Value) (s : ByteArray) (P : World → Value → Prop) : Prop :=
  ∃ rs, RowAt B W lv rs ∧ rs.length ≤ i ∧ ∀ (W' : World) (v : Value), Below W.heap.size W W' → RowAt W.heap.size W' v (rs ++ [s]) → P W' v
theorem cr_appendA (s : ByteArray) (h : CrA B b vb i W img lv syn) (hs : s.size ≤ 400) (hi : i ≤ 1000) (hB : B ≤ W.heap.size) : Calls Try.prog 11 #[.pointer (some ⟨vb, 0, none⟩), .string s] W fun e w' => ∃ q : Int, e = .returned (.int .i64 q) ∧ Below B W w' ∧ KeepO W w' ∧
    ((q = 0 ∧ CrQ B i w' lv s (fun W2 v => CrA B b vb (i + 1) W2 img v syn)) ∨ (q = 13 ∧ s.size ≠ 0 ∧ CrQ B i w' lv s (fun W2 v => CrD B b vb (i + 1) W2 img v syn ⟨#[]⟩)) ∨ (q = 13 ∧ s.size = 0 ∧ CrD B b vb (i + 1) w' img lv syn ⟨#[]⟩) ∨ (q ≠ 0 ∧ q ≠ 13 ∧ CrA B b vb (i + 1) w' img lv syn)) := by
  obtain ⟨k, E, A, rs, r1, r2, lm, st, rv, hL, h1, h2, h3, h4, h5⟩ := h
  refine (append_c s hL (by omega) (by omega) hB).mono ?_
  rintro e w' ⟨q, rfl, hb, ho, ⟨rfl, hf, st', rv', hl, hbl⟩ | ⟨rfl, _, st', hd⟩ | ⟨hq, hq2, hf, hl⟩⟩
  · have h4' := h4.offRow ho h5
    refine ⟨0, rfl, hb, KeepO.ofRow ho hL.row, Or.inl ⟨rfl, rs, h4', h2, fun W2 v hb2 hv => ?_⟩⟩
    refine ⟨k, E, _, _, r1, _, lm, st', rv', hl.below hb2, h1, by simp; omega, by omega, hv.base (Nat.le_trans hB hb.size), ?_⟩
    cases hl9 : rowBlk rv' with
    | none =>
      cases hl2 : rowBlk v with
      | none => exact Or.inl rfl
      | some g => exact Or.inr (by simp)
    | some g =>
      right
      intro e
      have h6 := (hl.row.lt hl9).2
      have h7 := (hv.lt e).1
      omega
  · have h4' := h4.offRow ho h5
    by_cases h0 : s.size = 0
    · refine ⟨13, rfl, hb, KeepO.ofRow ho hL.row, Or.inr (Or.inr (Or.inl ⟨rfl, h0, ?_⟩))⟩
      have ht : tailS s = [] := by unfold tailS; rw [if_pos h0]
      rw [ht, List.append_nil] at hd
      exact ⟨k, E, rs, r1, r2, st', hd, hL.live.all.symm, h1, by omega, by omega, h4', hL.live.sizes⟩
    · refine ⟨13, rfl, hb, KeepO.ofRow ho hL.row, Or.inr (Or.inl ⟨rfl, h0, rs, h4', h2, fun W2 v hb2 hv => ?_⟩)⟩
      have ht : tailS s = [s] := by unfold tailS; rw [if_neg h0]
      rw [ht] at hd
      refine ⟨k, E, rs ++ [s], r1, r2 ++ [s], st', hd.below hb2, ?_, h1, by simp; omega, by omega, hv.base (Nat.le_trans hB hb.size), ?_⟩
      · rw [← List.append_assoc, ← hL.live.all]; rfl
      · intro x hx
        rw [← List.cons_append] at hx
        rcases List.mem_append.1 hx with hx | hx
        · exact hL.live.sizes x hx
        · rw [List.mem_singleton.1 hx]; omega
  · exact ⟨q, rfl, hb, KeepO.ofRow ho hL.row, Or.inr (Or.inr (Or.inr ⟨hq, hq2, k, E, A, rs, r1, r2, lm, st, rv, hl, h1, by omega, by omega, h4.offRow ho h5, h5⟩))⟩
theorem cr_appendD (s : ByteArray) (h : CrD B b vb i W img lv syn fresh) : Calls Try.prog 11 #[.pointer (some ⟨vb, 0, none⟩), .string s] W fun e w' => e = .returned (.int .i64 13) ∧ Below W.heap.size W w' := by
  obtain ⟨k, E, rs, r1, r2, st, hD, _⟩ := h
  obtain ⟨A, img', rv, hv⟩ := hD.vlt
  exact append_over s hv
theorem crn_image {rs : List ByteArray} (h : CrN B b vb i W img rs) : Calls Try.prog 16 #[.pointer (some ⟨vb, 0, none⟩)] W fun e w' => e = .returned (.string img) ∧ W = w' := by
  obtain ⟨k, E, A, st, rv, hL, _⟩ := h
  exact image_c hL.vlt
theorem CrN.below {rs : List ByteArray} (h : CrN B b vb i W img rs) (hb : Below W.heap.size W W') : CrN B b vb i W' img rs := by
  obtain ⟨k, E, A, st, rv, hL, h1⟩ := h
  exact ⟨k, E, A, st, rv, hL.below hb, h1⟩
theorem crn_records {rs : List ByteArray} (h : CrN B b vb i W img rs) (hi : i ≤ 1000) (hB : B ≤ W.heap.size) : Calls Try.prog 17 #[.pointer (some ⟨vb, 0, none⟩)] W fun e w' => ∃ a c, e = .returned (.slice a rs.length c) ∧ Below W.heap.size W w' ∧ StrsIs w' (.slice a rs.length c) rs ∧ CrA B b vb i w' img (.slice a rs.length c) rs.length := by
  obtain ⟨k, E, A, st, rv, hL, h1, h2⟩ := h
  refine (records_c hL.vlt hL.row (by omega)).mono ?_
  rintro e w' ⟨v, rfl, ho, hb⟩
  obtain ⟨a, c, rfl⟩ := (strs_owned ho : StrsIs w' v rs).len
  have hrow : RowAt W.heap.size w' (.slice a rs.length c) rs := own_row ho rfl
  refine ⟨a, c, rfl, hb, strs_owned ho, k, E, A, rs, _, [], false, st, rv, hL.below hb, rfl, h2, h1, hrow.base hB, ?_⟩
  cases hl9 : rowBlk rv with
  | none =>
    cases hl2 : rowBlk (Value.slice a rs.length c) with
    | none => exact Or.inl rfl
    | some g => exact Or.inr (by simp)
  | some g =>
    right
    intro e
    have h6 := (hL.row.lt hl9).2
    have h7 := (hrow.lt e).1
    omega
end
end Go.Proofs.Ytmpfdmjbgabcdaa
