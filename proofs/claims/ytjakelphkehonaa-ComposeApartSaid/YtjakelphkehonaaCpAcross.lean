/-
  The contracts of compose's runeAt, across, makes, comesOf: what stands in one text where a character stands in another; what lay in memory stays.
-/
import Derived.Test.YtjakelphkehonaaProg
import Derived.Test.YtjakelphkehonaaCpRow
import Derived.Test.YtjakelphkehonaaNextG
import Derived.Test.YtjakelphkehonaaR3Pair
import Derived.WalkKit
import Derived.WalkSpells
import Derived.IntWalk
import Derived.Laws.Runes
import Derived.Laws.RangeString
import Derived.LoopTactic
namespace Go.Proofs.Ytjakelphkehonaa
open Go.RowKit
set_option linter.unusedVariables false

theorem at_round {b : ByteArray} {pos : Nat} {rest : List Int} (hp : pos < b.size) (hr : runesL (b.data.toList.drop pos) = some rest) :
    ∃ R K rest', Utf8.decode b pos = (R, K) ∧ rest = (R : Int) :: rest' ∧ 1 ≤ K ∧ pos + K ≤ b.size ∧ R ≤ 1114111 ∧ runesL (b.data.toList.drop (pos + K)) = some rest' := by
  have hz : b.data.toList.length = b.size := by simp
  have hne : b.data.toList.drop pos ≠ [] := by
    intro h
    have := congrArg List.length h
    rw [List.length_drop, List.length_nil] at this
    omega
  rw [runesL_step hne] at hr
  rcases nextL_facts (b.data.toList.drop pos) with h0 | ⟨_, hd, hR, h1, h4, hle, he⟩
  · rw [h0, if_pos rfl] at hr; cases hr
  · rw [if_neg (by omega), List.drop_drop] at hr
    obtain ⟨rest', h', rfl⟩ := Option.map_eq_some_iff.1 hr
    have hdd := Lib.decodeL_drop b pos
    rw [hd, hdd] at h1 hle hR h'
    rw [List.length_drop, hz] at hle
    have hi := isR_is hR
    exact ⟨(Utf8.decode b pos).1, (Utf8.decode b pos).2, rest', rfl, by rw [hd, hdd], h1, by omega, by omega, h'⟩
theorem at_end {b : ByteArray} {pos : Nat} {rest : List Int} (hp : ¬ pos < b.size) (hr : runesL (b.data.toList.drop pos) = some rest) : rest = [] := by
  rw [List.drop_eq_nil_of_le (by simp; omega), runesL_nil] at hr
  cases hr; rfl

set_option maxHeartbeats 1000000 in
theorem runeAt_c (b : ByteArray) (rs : List Int) (k : Nat) (hr : runesL b.data.toList = some rs) (hs : b.size ≤ 4000) (hk : k ≤ 1000) (w : World) :
    Calls Try.prog 41 #[.string b, .int .i64 k] w fun e w' => e = .returned (.int .i32 (rs.getD k 0)) ∧ Below w.heap.size w w' := by
  have HR := Lib.hid hr
  clear hr
  obtain ⟨X, hX⟩ : ∃ X, rs.getD k 0 = X := ⟨_, rfl⟩
  rw [hX]
  have H0 := Lib.hid hX
  clear hX
  go_enter Try.func41, Try.ntmps41
  go_wp2
  have hb0 : ∀ p, Below w.heap.size w (w.iter b p) := fun p => (Below.refl _ _).alloc (Nat.le_refl _) _
  go_loopw [1] (fun n w' => ∃ (pos j : Nat) (rest : List Int), w' = w.iter b pos ∧ n = .int .i64 j ∧ pos ≤ b.size ∧ j ≤ 1000 ∧ runesL (b.data.toList.drop pos) = some rest ∧ Hid (rest.getD j 0 = X)) (fun _ w' => b.size - w'.iterPos w.heap.size)
  case atStart => exact ⟨0, k, rs, rfl, by go_num, by omega, by omega, by rw [List.drop_zero]; exact HR.out, H0⟩
  case round =>
    obtain ⟨pos, j, rest, rfl, rfl, hp0, ha, hrest, HA⟩ := hrel
    have HS := Lib.hid hrest
    clear hrest
    by_cases hp : pos < b.size
    · have hnx : ∀ ty, (Instr.next (.pointer (some ⟨w.heap.size, 0, none⟩)) true ty).run Try.prog (w.iter b pos) = _ := fun ty => run_next_any w b pos ty hp
      obtain ⟨R, K, rest', hd, hrr, hK, hK', hR, hr'⟩ := at_round hp HS.out
      rw [hd] at hnx
      have HR' := Lib.hid hr'
      clear hr' hd
      by_cases h0 : j = 0
      · subst h0
        have HX := Lib.hid (show X = (R : Int) by rw [← HA.out, hrr]; rfl)
        clear hrr
        go_wp2
        go_ret
        exact ⟨by rw [HX.out]; rfl, hb0 _⟩
      · obtain ⟨i, rfl⟩ : ∃ i, j = i + 1 := ⟨j - 1, by omega⟩
        have HX := Lib.hid (show rest'.getD i 0 = X by rw [← HA.out, hrr]; rfl)
        have h0' : (((i + 1 : Nat) : Int) == 0) = false := by rw [beq_eq_false_iff_ne]; omega
        have h0'' : (((i : Int) + 1) == 0) = false := by rw [beq_eq_false_iff_ne]; omega
        clear hrr h0
        go_wp2
        go_roundw
        case rel => exact ⟨pos + K, i, rest', rfl, by go_num, by omega, by omega, HR'.out, HX⟩
        case measure => simp; omega
    · have hnx : ∀ ty, (Instr.next (.pointer (some ⟨w.heap.size, 0, none⟩)) true ty).run Try.prog (w.iter b pos) = _ := fun ty => run_next_end w b pos ty hp
      have HX := Lib.hid (show X = 0 by rw [← HA.out, at_end hp HS.out]; rfl)
      go_wp2
      go_ret
      exact ⟨by rw [HX.out]; rfl, hb0 _⟩

def acrI (l m : List Int) (r : Int) : Option Int := ((l.zip m).find? fun p => decide (p.1 = r)).map (·.2)
theorem drop_head {l rest' : List Int} {R : Int} {j : Nat} (h : R :: rest' = l.drop j) : j < l.length ∧ l.getD j 0 = R ∧ rest' = l.drop (j + 1) := by
  have hl := congrArg List.length h
  simp at hl
  have hj : j < l.length := by omega
  rw [List.drop_eq_getElem_cons hj] at h
  cases h
  exact ⟨hj, by simp [List.getD_eq_getElem?_getD, List.getElem?_eq_getElem hj], rfl⟩
def RelAc (l : List Int) (b : ByteArray) (r : Int) (w : World) (n : Value) (w' : World) : Prop :=
  ∃ (pos j : Nat), w' = w.iter b pos ∧ n = .int .i64 j ∧ pos ≤ b.size ∧ j ≤ l.length ∧ runesL (b.data.toList.drop pos) = some (l.drop j) ∧ ∀ i, i < j → l.getD i 0 ≠ r

set_option maxHeartbeats 1000000 in
theorem across_c (b c : ByteArray) (l m : List Int) (r : Int) (hr : runesL b.data.toList = some l) (hr' : runesL c.data.toList = some m) (hl : l.length = m.length) (hs : b.size ≤ 4000) (hs' : c.size ≤ 4000) (hk : l.length ≤ 900) (w : World) :
    Calls Try.prog 35 #[.string b, .int .i32 r, .string c] w fun e w' => e = .returned (.tuple #[.int .i32 ((acrI l m r).getD 0), .bool (acrI l m r).isSome]) ∧ Below w.heap.size w w' := by
  have HR := Lib.hid hr
  have HL := Lib.hid hl
  have cA := fun k hk w => runeAt_c c m k hr' hs' hk w
  obtain ⟨n, hn⟩ : ∃ n, l.length = n := ⟨_, rfl⟩
  have HN := Lib.hid hn
  rw [hn] at hk
  obtain ⟨A, hA⟩ : ∃ A, acrI l m r = A := ⟨_, rfl⟩
  have H1 := Lib.hid (show ∀ i, i < l.length → l.getD i 0 = r → (∀ j, j < i → l.getD j 0 ≠ r) → A = some (m.getD i 0) from fun i h1 h2 h3 => hA.symm.trans (zip_find1 hl h1 h2 h3))
  have H2 := Lib.hid (show (∀ j, j < l.length → l.getD j 0 ≠ r) → A = none from fun h => hA.symm.trans (zip_none1 h))
  rw [hA]
  clear hr hr' hl hA hn
  go_enter Try.func35, Try.ntmps35
  go_wp2
  have hb0 : ∀ p, Below w.heap.size w (w.iter b p) := fun p => (Below.refl _ _).alloc (Nat.le_refl _) _
  go_loopw [8] (fun n w' => RelAc l b r w n w') (fun _ w' => b.size - w'.iterPos w.heap.size)
  case atStart => exact ⟨0, 0, rfl, by go_num, by omega, by omega, by rw [List.drop_zero]; exact HR.out, fun i hi => by omega⟩
  case round =>
    obtain ⟨pos, j, rfl, rfl, hp0, hj, hrest, hno⟩ := hrel
    rw [HN.out] at hj
    have HS := Lib.hid hrest
    have HNO := Lib.hid hno
    clear hno hrest
    by_cases hp : pos < b.size
    · have hnx : ∀ ty, (Instr.next (.pointer (some ⟨w.heap.size, 0, none⟩)) true ty).run Try.prog (w.iter b pos) = _ := fun ty => run_next_any w b pos ty hp
      obtain ⟨R, K, rest', hd, hrr, hK, hK', hR, hrest'⟩ := at_round hp HS.out
      rw [hd] at hnx
      obtain ⟨hjl, hg, hre⟩ := drop_head hrr.symm
      rw [hre] at hrest'
      rw [HN.out] at hjl
      have HR' := Lib.hid hrest'
      clear hrest' hd hrr hre
      by_cases h0 : (R : Int) = r
      · have HX := Lib.hid (H1.out j (by rw [HN.out]; exact hjl) (hg.trans h0) HNO.out)
        obtain ⟨y, hy⟩ : ∃ y, m.getD j 0 = y := ⟨_, rfl⟩
        have c1 := cA j (by omega)
        rw [hy] at HX c1
        clear hy hg
        rw [h0] at hnx
        clear h0
        go_wp2_with fail
        refine (c1 _).mono ?_
        rintro e w1 ⟨rfl, hb1⟩
        have hbb := below_step (hb0 _) hb1
        clear hb1
        go_wp2
        go_ret2
        exact ⟨by rw [HX.out]; rfl, hbb⟩
      · have HX := Lib.hid (ne_next HNO.out (by rw [hg]; exact h0))
        have h0' : ((R : Int) == r) = false := by rw [beq_eq_false_iff_ne]; exact h0
        clear h0 hg
        go_wp2
        go_roundw
        case rel => exact ⟨pos + K, j + 1, rfl, by go_num, by omega, by rw [HN.out]; omega, HR'.out, HX.out⟩
        case measure => simp; omega
    · have hnx : ∀ ty, (Instr.next (.pointer (some ⟨w.heap.size, 0, none⟩)) true ty).run Try.prog (w.iter b pos) = _ := fun ty => run_next_end w b pos ty hp
      have HX := Lib.hid (H2.out (fun i hi => HNO.out i (by
        have := congrArg List.length (at_end hp HS.out)
        rw [List.length_drop, List.length_nil] at this
        omega)))
      go_wp2
      go_ret2
      exact ⟨by rw [HX.out]; rfl, hb0 _⟩
end Go.Proofs.Ytjakelphkehonaa
