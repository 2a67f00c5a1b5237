/-
  The reference's May and Bytes; two deeds compared.
-/
import Derived.Test.YtddobjhahohhhaaDeAsk
import Derived.Laws.StructEq
import Derived.Lib.AppendStr
import Derived.OwnWalk
namespace Go.Proofs.Ytddobjhahohhhaa
open Go.RowKit Go.Sort
set_option linter.unusedVariables false
set_option linter.unusedSimpArgs false

theorem text_eqb (a b : ByteArray) : (a.toList == b.toList) = decide (a = b) := by
  by_cases h : a = b
  · subst h; simp
  · rw [decide_eq_false h, beq_eq_false_iff_ne, ByteArray.toList_eq, ByteArray.toList_eq]
    exact fun e => h (ByteArray.ext (Array.toList_inj.1 e))
theorem text_eqp (a b : ByteArray) : a.toList = b.toList ↔ a = b := ⟨fun h => by
    rw [ByteArray.toList_eq, ByteArray.toList_eq] at h
    exact ByteArray.ext (Array.toList_inj.1 h), fun h => by rw [h]⟩
theorem de_eql (x y : De) (w : World) : (Op.equalIn 10000 23 (deV x) (deV y)).run Try.prog w = .ok (decide (x = y)) w := by
  have hS : Try.prog.underlying 23 = some (.struct (Try.prog.fieldsOf 23)) := by kernel_rfl
  have hp : Try.prog.stoodInHeld 23 = false := by kernel_rfl
  obtain ⟨k1, d1, t1, s1, n1, b1, h1⟩ := x
  obtain ⟨k2, d2, t2, s2, n2, b2, h2⟩ := y
  unfold deV
  rw [show (10000 : Nat) = 9999 + 1 from rfl, run_equalIn_agg w 9999 23 _ _ hS hp]
  simp only [Program.fieldsOf, Try.underlying23]
  go_simp
  (try simp only [De.mk.injEq])
  (try rw [text_eqb s1 s2, text_eqb n1 n2])
  by_cases e1 : k1 = k2 <;> by_cases e2 : d1 = d2 <;> by_cases e3 : t1 = t2 <;> by_cases e4 : s1 = s2 <;> by_cases e5 : n1 = n2 <;> by_cases e6 : b1 = b2 <;> by_cases e7 : h1 = h2 <;> simp [text_eqp, e1, e2, e3, e4, e5, e6, e7]
theorem de_eq (x y : De) (w : World) : (binOp .eql 23 (deV x) (deV y)).run Try.prog w = .ok (.bool (decide (x = y))) w := by
  have h := de_eql x y w
  unfold deV at h ⊢
  rw [run_eql_struct, h]
  rfl
theorem de_guard (op : BinOp) (a b : Operand) (x y : De) (w : World) : (eqGuard op 23 a b (deV x) (deV y)).run Try.prog w = .ok () w := by
  unfold deV
  exact run_eqGuard_agg w op 23 a b _ _ (by kernel_rfl)
def mayB (x : De) : Bool :=
  !((decide (x.k < 1) || decide (3 < x.k)) || (decide (x.k < 3) && (!decide (x.dt = 0) || !decide (x.ns = ⟨#[]⟩))) || (decide (x.k = 3) && x.isD) || (decide (x.k = 2) && !decide (x.sh = 0))) &&
    (decide (0 ≤ x.d) && decide (x.d < 65536) && decide (0 ≤ x.dt) && decide (x.dt < 65536) && decide ((x.s.size : Int) < 256) && decide ((x.ns.size : Int) < 256) && decide (0 ≤ x.sh) && decide (x.sh ≤ 1000000))
theorem mayB_is (x : De) : mayB x = decide (May x) := by
  obtain ⟨k, d, dt, s, ns, isD, sh⟩ := x
  rw [Bool.eq_iff_iff, decide_eq_true_eq]
  unfold mayB May
  simp only [Bool.and_eq_true, Bool.not_eq_true', Bool.or_eq_false_iff, decide_eq_true_eq, decide_eq_false_iff_not, Bool.and_eq_false_iff, Bool.not_eq_false', Int.not_lt, Bool.not_eq_false]
  constructor
  · rintro ⟨⟨⟨⟨⟨a1, a2⟩, a3⟩, a4⟩, a5⟩, ⟨⟨⟨⟨⟨⟨⟨b1, b2⟩, b3⟩, b4⟩, b5⟩, b6⟩, b7⟩, b8⟩⟩
    refine ⟨by omega, ?_, ?_, ?_, ⟨b1, b2⟩, ⟨b3, b4⟩, by omega, by omega, ⟨b7, b8⟩⟩
    · rcases a3 with h | h
      · exact Or.inl (by omega)
      · exact Or.inr h
    · rintro rfl
      rcases a4 with h | h
      · exact absurd rfl h
      · exact h
    · rintro rfl
      rcases a5 with h | h
      · exact absurd rfl h
      · exact h
  · rintro ⟨h1, h2, h3, h4, ⟨b1, b2⟩, ⟨b3, b4⟩, b5, b6, ⟨b7, b8⟩⟩
    refine ⟨⟨⟨⟨⟨by omega, by omega⟩, ?_⟩, ?_⟩, ?_⟩, ⟨⟨⟨⟨⟨⟨⟨b1, b2⟩, b3⟩, b4⟩, by omega⟩, by omega⟩, b7⟩, b8⟩⟩
    · rcases h2 with h | h
      · exact Or.inl (by omega)
      · exact Or.inr h
    · by_cases h : k = 3
      · exact Or.inr (h3 h)
      · exact Or.inl h
    · by_cases h : k = 2
      · exact Or.inr (h4 h)
      · exact Or.inl h
set_option maxHeartbeats 8000000 in
set_option maxRecDepth 100000 in
theorem refMay_c (x : De) (w : World) : Calls Try.prog 10 #[deV x] w fun e w' => e = .returned (.bool (decide (May x))) ∧ Below w.heap.size w w' := by
  rw [← mayB_is]
  obtain ⟨k, d, dt, s, ns, isD, sh⟩ := x
  unfold deV mayB
  simp only
  go_enter Try.func10, Try.ntmps10
  go_wp2
  all_goals (go_ret; refine ⟨?_, (Below.refl _ w).alloc (Nat.le_refl _) _⟩; simp_all [text_nil] <;> omega)
end Go.Proofs.Ytddobjhahohhhaa
