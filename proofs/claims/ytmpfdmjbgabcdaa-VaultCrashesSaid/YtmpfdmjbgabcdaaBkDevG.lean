/-
  A bank's calls (stage 7) on a device of which only little is said.
-/
import Derived.Test.YtmpfdmjbgabcdaaBkBytes
namespace Go.Proofs.Ytmpfdmjbgabcdaa
open Go.RowKit Go.Sort
set_option linter.unusedVariables false

/-- A good device of n sectors, of unlimited power, with at most p pending writes. -/
def DevG (B b n p : Nat) (W : World) : Prop := ∃ st, Dev B W b st ∧ Good st ∧ st.lim = false ∧ st.now.length = n ∧ st.pend.length ≤ p
/-- A device of which power is gone. -/
def DevC (B b : Nat) (W : World) : Prop := ∃ st, Dev B W b st ∧ Good st ∧ st.lim = true ∧ st.left = 0
theorem DevG.below {B b n p : Nat} {W W' : World} (h : DevG B b n p W) (hb : Below W.heap.size W W') : DevG B b n p W' := by
  obtain ⟨st, hd, r⟩ := h
  exact ⟨st, hd.below hb, r⟩
theorem DevC.below {B b : Nat} {W W' : World} (h : DevC B b W) (hb : Below W.heap.size W W') : DevC B b W' := by
  obtain ⟨st, hd, r⟩ := h
  exact ⟨st, hd.below hb, r⟩
theorem DevG.base {B B' b n p : Nat} {W : World} (h : DevG B b n p W) (hB : B' ≤ B) : DevG B' b n p W := by
  obtain ⟨st, hd, r⟩ := h
  exact ⟨st, hd.base hB, r⟩
def openN (n : Nat) (fr sz : Int) : Int := if fr < 0 ∨ (n : Int) ≤ fr then 1 else if sz < 1 ∨ (n : Int) - fr < sz then 1 else 0
theorem openI_N {st : St} {n : Nat} (hl : st.lim = false) (hn : st.now.length = n) (fr sz : Int) : openI st fr sz = openN n fr sz := by
  unfold openI openN askI
  rw [hl, hn]
  simp only [Bool.false_and, Bool.false_eq_true, if_false]
  by_cases h : fr < 0 ∨ (n : Int) ≤ fr
  · rw [if_pos h, if_neg (by decide), if_pos h]
  · rw [if_neg h, if_pos rfl, if_neg h]
theorem openI_C {st : St} (hl : st.lim = true) (h0 : st.left = 0) (fr sz : Int) : openI st fr sz = 13 := by
  unfold openI askI
  rw [hl, h0]
  rfl
theorem openN_01 (n : Nat) (fr sz : Int) : openN n fr sz = 0 ∨ openN n fr sz = 1 := by
  unfold openN
  split
  · exact Or.inr rfl
  · split
    · exact Or.inr rfl
    · exact Or.inl rfl
theorem newG (k : Int) (n : Nat) (hn : sizeI k = n) (w : World) : Calls Try.prog 9 #[.int .i64 k] w fun e w' => ∃ b, e = .returned (.pointer (some ⟨b, 0, none⟩)) ∧ DevG w.heap.size b n 0 w' ∧ Below w.heap.size w w' := by
  refine (new_c k w).mono ?_
  rintro e w' ⟨b, rfl, hd, hb, _⟩
  rw [hn] at hd
  have h4 : n ≤ 4096 := by rw [← hn]; unfold sizeI; omega
  exact ⟨b, rfl, ⟨_, hd, goodNew n h4, rfl, stNew_now n, by simp [stNew]⟩, hb⟩
theorem scanG {B b n p : Nat} {W : World} (h : DevG B b n p W) (fr sz : Int) : Calls Try.prog 70 #[.pointer (some ⟨b, 0, none⟩), .int .i64 fr, .int .i64 sz] W fun e w' => ∃ u x, e = .returned (.tuple #[u, .int .i64 x, .int .i64 (openN n fr sz)]) ∧ Below W.heap.size W w' := by
  obtain ⟨st, hd, hg, hl, hn, hp⟩ := h
  have ho := openI_N hl hn fr sz
  rcases openN_01 n fr sz with h0 | h0
  · rw [h0] at ho ⊢
    obtain ⟨F, S, rfl, rfl, h1, h2, h3⟩ := open_nums hg ho
    refine (scan_ok B b st F S W hd hg h3 ho h2).mono ?_
    rintro e w' ⟨u, rfl, _, hb⟩
    exact ⟨u, _, rfl, hb⟩
  · rw [h0] at ho ⊢
    refine (scan_no B b st fr sz 1 W hd hg ho (by decide)).mono ?_
    rintro e w' ⟨rfl, hb⟩
    exact ⟨_, _, rfl, hb⟩
theorem wipeG {B b n p : Nat} {W : World} (h : DevG B b n p W) (fr sz at_ : Int) (hat : at_ ≤ 9223372036854775807) (hp : p + n ≤ 1000) (hB : B ≤ W.heap.size) : Calls Try.prog 58 #[.pointer (some ⟨b, 0, none⟩), .int .i64 fr, .int .i64 sz, .int .i64 at_] W fun e w' => e = .returned (.int .i64 (openN n fr sz)) ∧ DevG B b n (p + n) w' ∧ Below B W w' := by
  obtain ⟨st, hd, hg, hl, hn, hpp⟩ := h
  have ho := openI_N hl hn fr sz
  rcases openN_01 n fr sz with h0 | h0
  · rw [h0] at ho ⊢
    obtain ⟨F, S, rfl, rfl, h1, h2, h3⟩ := open_nums hg ho
    obtain ⟨a, ha⟩ : ∃ a : Nat, max at_ 1 = (a : Int) := ⟨(max at_ 1).toNat, by omega⟩
    refine (wipe_ok B b st F S a at_ W hd hg hl ho h2 ha hat (by omega) hB).mono ?_
    rintro e w' ⟨rfl, hd', hb, _⟩
    refine ⟨rfl, ?_, hb⟩
    by_cases haS : a ≤ S
    · obtain ⟨g1, g2, g3, g4, _⟩ := wipes_good (i := F + a) hg hl (S - a) (by omega)
      refine ⟨_, hd', g1, g2, ?_, by omega⟩
      rw [g3]
      simp
      omega
    · rw [show S - a = 0 by omega] at hd'
      exact ⟨st, hd', hg, hl, hn, by omega⟩
  · rw [h0] at ho ⊢
    refine (wipe_no B b st fr sz at_ 1 W hd hg ho (by decide)).mono ?_
    rintro e w' ⟨rfl, hb⟩
    exact ⟨rfl, ⟨st, hd.below hb, hg, hl, hn, by omega⟩, hb.mono hB⟩
/-- What Write answers of one frame's record. -/
def oneI (n : Nat) (fr sz at_ : Int) : Int := if openN n fr sz = 0 then (if at_ < 1 then 1 else if sz ≤ at_ then 11 else 0) else 1
theorem writeG {B b n p : Nat} {W : World} (h : DevG B b n p W) (fr sz at_ : Int) (s : ByteArray) (hs : s.size = 1) (hat : -9223372036854775808 ≤ at_ ∧ at_ ≤ 9223372036854775807) (hp : p + 1 ≤ 1000) (hB : B ≤ W.heap.size) : Calls Try.prog 54 #[.pointer (some ⟨b, 0, none⟩), .int .i64 fr, .int .i64 sz, .int .i64 at_, .string s] W fun e w' => ∃ x, e = .returned (.tuple #[.int .i64 x, .int .i64 (oneI n fr sz at_)]) ∧ DevG B b n (p + 1) w' ∧ Below B W w' := by
  obtain ⟨st, hd, hg, hl, hn, hpp⟩ := h
  have ho := openI_N hl hn fr sz
  unfold oneI
  rcases openN_01 n fr sz with h0 | h0
  · rw [h0] at ho ⊢
    rw [if_pos rfl]
    obtain ⟨F, S, rfl, rfl, h1, h2, h3⟩ := open_nums hg ho
    have hk : (s.size + 61) / 62 = 1 := by rw [hs]
    by_cases hok : 1 ≤ at_ ∧ at_ < S
    · obtain ⟨A, rfl⟩ : ∃ A : Nat, at_ = A := ⟨at_.toNat, by omega⟩
      rw [if_neg (by omega), if_neg (by omega)]
      refine (write_ok B b st F S A s W hd hg hl ho h2 (by omega) (by omega) (by omega) (by omega) (by omega) hB).mono ?_
      rintro e w' ⟨rfl, hd', hb, _⟩
      have hfl := framesL_length s
      obtain ⟨g1, g2, g3, g4, _⟩ := puts_good (framesL s) st (F + A) hg hl (by omega) (framesL_size s)
      exact ⟨_, rfl, ⟨_, hd', g1, g2, by omega, by omega⟩, hb⟩
    · have hw : writeI S at_ s.size = if at_ < 1 then 1 else if (S : Int) ≤ at_ then 11 else 0 := by
        unfold writeI
        rw [hs]
        by_cases h9 : at_ < 1
        · rw [if_pos h9, if_pos h9]
        · rw [if_neg h9, if_neg h9, if_neg (by omega), if_pos (by omega), if_pos (by omega)]
      have hne : (if at_ < 1 then (1 : Int) else if (S : Int) ≤ at_ then 11 else 0) ≠ 0 := by
        by_cases h9 : at_ < 1
        · rw [if_pos h9]; decide
        · rw [if_neg h9, if_pos (by omega)]; decide
      refine (write_bad B b st F S at_ _ s W hd hg ho h2 hat (by omega) hw hne).mono ?_
      rintro e w' ⟨rfl, hb⟩
      exact ⟨_, rfl, ⟨st, hd.below hb, hg, hl, hn, by omega⟩, hb.mono hB⟩
  · rw [h0] at ho ⊢
    rw [if_neg (by decide)]
    refine (write_no B b st fr sz at_ 1 s W hd hg ho (by decide)).mono ?_
    rintro e w' ⟨rfl, hb⟩
    exact ⟨_, rfl, ⟨st, hd.below hb, hg, hl, hn, by omega⟩, hb.mono hB⟩
theorem cutG {B b n p : Nat} {W : World} (h : DevG B b n p W) : Calls Try.prog 24 #[.pointer (some ⟨b, 0, none⟩), .int .i64 0] W fun e w' => e = .returned (.tuple #[]) ∧ DevC B b w' ∧ Below B W w' := by
  obtain ⟨st, hd, hg, hl, hn, hpp⟩ := h
  refine (cut_c B b st 0 W hd).mono ?_
  rintro e w' ⟨rfl, hd', hb, _⟩
  refine ⟨rfl, ⟨_, hd', good_cut hg (by decide) (by decide), ?_, ?_⟩, hb⟩
  · unfold cutSt; rw [if_neg (by rw [free_gone hl]; decide)]; rfl
  · unfold cutSt; rw [if_neg (by rw [free_gone hl]; decide)]
theorem scanC {B b : Nat} {W : World} (h : DevC B b W) (fr sz : Int) : Calls Try.prog 70 #[.pointer (some ⟨b, 0, none⟩), .int .i64 fr, .int .i64 sz] W fun e w' => e = .returned (.tuple #[.slice none 0 0, .int .i64 0, .int .i64 13]) ∧ Below W.heap.size W w' := by
  obtain ⟨st, hd, hg, hl, h0⟩ := h
  exact scan_no B b st fr sz 13 W hd hg (openI_C hl h0 fr sz) (by decide)
theorem writeC {B b : Nat} {W : World} (h : DevC B b W) (fr sz at_ : Int) (s : ByteArray) : Calls Try.prog 54 #[.pointer (some ⟨b, 0, none⟩), .int .i64 fr, .int .i64 sz, .int .i64 at_, .string s] W fun e w' => e = .returned (.tuple #[.int .i64 0, .int .i64 13]) ∧ Below W.heap.size W w' := by
  obtain ⟨st, hd, hg, hl, h0⟩ := h
  exact write_no B b st fr sz at_ 13 s W hd hg (openI_C hl h0 fr sz) (by decide)
theorem wipeC {B b : Nat} {W : World} (h : DevC B b W) (fr sz at_ : Int) : Calls Try.prog 58 #[.pointer (some ⟨b, 0, none⟩), .int .i64 fr, .int .i64 sz, .int .i64 at_] W fun e w' => e = .returned (.int .i64 13) ∧ Below W.heap.size W w' := by
  obtain ⟨st, hd, hg, hl, h0⟩ := h
  exact wipe_no B b st fr sz at_ 13 W hd hg (openI_C hl h0 fr sz) (by decide)
end Go.Proofs.Ytmpfdmjbgabcdaa
