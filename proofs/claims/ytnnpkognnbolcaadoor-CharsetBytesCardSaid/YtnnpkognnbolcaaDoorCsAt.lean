/-
  The contracts of a row's at and find: the character of a byte, the byte of a character; what lay in memory stays.
-/
import Derived.Test.YtnnpkognnbolcaaDoorProg
import Derived.Test.YtnnpkognnbolcaaDoorCsRows
import Derived.Test.YtnnpkognnbolcaaDoorNextG
import Derived.WalkKit
import Derived.WalkSpells
import Derived.IntWalk
import Derived.Laws.Runes
import Derived.Laws.RangeString
import Derived.LoopTactic
namespace Go.Proofs.YtnnpkognnbolcaaDoor
open Go.RowKit
set_option linter.unusedVariables false

theorem at_round {b : ByteArray} {pos : Nat} {rest : List Int} (hp : pos < b.size) (hr : runesL (b.data.toList.drop pos) = some rest) :
    ∃ R K rest', Utf8.decode b pos = (R, K) ∧ rest = (R : Int) :: rest' ∧ 1 ≤ K ∧ pos + K ≤ b.size ∧ R ≤ 1114111 ∧ runesL (b.data.toList.drop (pos + K)) = some rest' := by
  have hz : b.data.toList.length = b.size := by simp
  have hne : b.data.toList.drop pos ≠ [] := by
    intro h
    have := congrArg List.length h
    rw [List.length_drop, List.length_nil] at this
    omega
  rw [runesL_step hne] at hr
  rcases nextL_facts (b.data.toList.drop pos) with h0 | ⟨_, hd, hR, h1, h4, hle, he⟩
  · rw [h0, if_pos rfl] at hr; cases hr
  · rw [if_neg (by omega), List.drop_drop] at hr
    obtain ⟨rest', h', rfl⟩ := Option.map_eq_some_iff.1 hr
    have hdd := Lib.decodeL_drop b pos
    rw [hd, hdd] at h1 hle hR h'
    rw [List.length_drop, hz] at hle
    have hi := isR_is hR
    exact ⟨(Utf8.decode b pos).1, (Utf8.decode b pos).2, rest', rfl, by rw [hd, hdd], h1, by omega, by omega, h'⟩

set_option maxHeartbeats 1000000 in
theorem at_c (f : Int) (b : ByteArray) (rs : List Int) (x : Int) (hr : runesL b.data.toList = some rs) (hs : b.size ≤ 4000) (hf : 0 ≤ f) (hf' : f ≤ 256) (hx : 0 ≤ x) (hx' : x ≤ 255) (w : World) :
    Calls Tryd.prog 29 #[.agg #[.int .i64 f, .string b], .int .u8 x] w fun e w' => e = .returned (.tuple #[.int .i32 ((atL rs (x - f)).getD 0), .bool (atL rs (x - f)).isSome]) ∧ Below w.heap.size w w' := by
  have HR := Lib.hid hr
  clear hr
  go_enter Tryd.func29, Tryd.ntmps29
  go_wp2
  obtain ⟨W0, hW0⟩ : ∃ W0, w.alloc (.cells #[.int .i64 f, .string b] 44) = W0 := ⟨_, rfl⟩
  rw [hW0]
  have hz0 : W0.heap.size = w.heap.size + 1 := by rw [← hW0]; simp
  have hb0 : ∀ p, Below w.heap.size w (W0.iter b p) := fun p => by rw [← hW0]; exact ((Below.refl _ _).alloc (Nat.le_refl _) _).alloc (by simp) _
  clear hW0
  go_loopw [6] (fun n w' => ∃ (pos : Nat) (a : Int) (rest : List Int), w' = W0.iter b pos ∧ n = .int .i64 a ∧ pos ≤ b.size ∧ a ≤ 255 ∧ -256 - (pos : Int) ≤ a ∧ runesL (b.data.toList.drop pos) = some rest ∧ atL rest a = atL rs (x - f)) (fun _ w' => b.size - w'.iterPos W0.heap.size)
  case atStart => exact ⟨0, x - f, rs, rfl, by go_num, by omega, by omega, by omega, by rw [List.drop_zero]; exact HR.out, rfl⟩
  case round =>
    obtain ⟨pos, a, rest, rfl, rfl, hp0, ha, ha', hrest, hat⟩ := hrel
    have HA := Lib.hid hat
    have HS := Lib.hid hrest
    clear hat hrest
    by_cases hp : pos < b.size
    · have hnx : ∀ ty, (Instr.next (.pointer (some ⟨w.heap.size + 1, 0, none⟩)) true ty).run Tryd.prog (W0.iter b pos) = _ := fun ty => hz0 ▸ run_next_any W0 b pos ty hp
      obtain ⟨R, K, rest', hd, hrr, hK, hK', hR, hr'⟩ := at_round hp HS.out
      rw [hd] at hnx
      have HR' := Lib.hid hr'
      clear hr' hd
      by_cases h0 : a = 0
      · subst h0
        by_cases h46 : (R : Int) = 46
        · have HX := Lib.hid (show atL rest' (-1) = atL rs (x - f) by rw [← HA.out, hrr]; show _ = (if _ then _ else _); rw [if_neg (by omega)]; rfl)
          clear hrr
          rw [h46] at hnx
          go_wp2
          go_roundw
          case rel => exact ⟨pos + K, -1, rest', rfl, rfl, by omega, by omega, by omega, HR'.out, HX.out⟩
          case measure => simp; omega
        · have HX := Lib.hid (show atL rs (x - f) = some (R : Int) by rw [← HA.out, hrr]; show (if _ then _ else _) = _; rw [if_pos ⟨rfl, h46⟩])
          have h46' : ((R : Int) == 46) = false := by rw [beq_eq_false_iff_ne]; exact h46
          clear hrr h46
          go_wp2
          go_ret2
          exact ⟨by rw [HX.out]; rfl, hb0 _⟩
      · have HX := Lib.hid (show atL rest' (a - 1) = atL rs (x - f) by rw [← HA.out, hrr]; show _ = (if _ then _ else _); rw [if_neg (by omega)])
        have h0' : (a == 0) = false := by rw [beq_eq_false_iff_ne]; exact h0
        clear hrr h0
        go_wp2
        go_roundw
        case rel => exact ⟨pos + K, a - 1, rest', rfl, by go_num, by omega, by omega, by omega, HR'.out, HX.out⟩
        case measure => simp; omega
    · have hnx : ∀ ty, (Instr.next (.pointer (some ⟨w.heap.size + 1, 0, none⟩)) true ty).run Tryd.prog (W0.iter b pos) = _ := fun ty => hz0 ▸ run_next_end W0 b pos ty hp
      have HX := Lib.hid (show atL rs (x - f) = none by
        have h1 := HS.out
        rw [List.drop_eq_nil_of_le (by simp; omega), runesL_nil] at h1
        cases h1
        rw [← HA.out]
        rfl)
      go_wp2
      go_ret2
      exact ⟨by rw [HX.out]; rfl, hb0 _⟩

set_option maxHeartbeats 1000000 in
theorem find_c (f : Int) (b : ByteArray) (rs : List Int) (x : Int) (hr : runesL b.data.toList = some rs) (hs : b.size ≤ 4000) (hf : 0 ≤ f) (hf' : f + rs.length ≤ 256) (w : World) :
    Calls Tryd.prog 19 #[.agg #[.int .i64 f, .string b], .int .i32 x] w fun e w' => e = .returned (.tuple #[.int .u8 ((findL rs x f).getD 0), .bool (findL rs x f).isSome]) ∧ Below w.heap.size w w' := by
  have HR := Lib.hid hr
  clear hr
  go_enter Tryd.func19, Tryd.ntmps19
  go_wp2
  obtain ⟨W0, hW0⟩ : ∃ W0, w.alloc (.cells #[.int .i64 f, .string b] 44) = W0 := ⟨_, rfl⟩
  rw [hW0]
  have hz0 : W0.heap.size = w.heap.size + 1 := by rw [← hW0]; simp
  have hb0 : ∀ p, Below w.heap.size w (W0.iter b p) := fun p => by rw [← hW0]; exact ((Below.refl _ _).alloc (Nat.le_refl _) _).alloc (by simp) _
  clear hW0
  go_loopw [6] (fun n w' => ∃ (pos : Nat) (a : Int) (rest : List Int), w' = W0.iter b pos ∧ n = .int .i64 a ∧ pos ≤ b.size ∧ 0 ≤ a ∧ a + rest.length ≤ 256 ∧ runesL (b.data.toList.drop pos) = some rest ∧ findL rest x a = findL rs x f) (fun _ w' => b.size - w'.iterPos W0.heap.size)
  case atStart => exact ⟨0, f, rs, rfl, rfl, by omega, by omega, by omega, by rw [List.drop_zero]; exact HR.out, rfl⟩
  case round =>
    obtain ⟨pos, a, rest, rfl, rfl, hp0, ha, ha', hrest, hat⟩ := hrel
    have HA := Lib.hid hat
    have HS := Lib.hid hrest
    clear hat hrest
    by_cases hp : pos < b.size
    · have hnx : ∀ ty, (Instr.next (.pointer (some ⟨w.heap.size + 1, 0, none⟩)) true ty).run Tryd.prog (W0.iter b pos) = _ := fun ty => hz0 ▸ run_next_any W0 b pos ty hp
      obtain ⟨R, K, rest', hd, hrr, hK, hK', hR, hr'⟩ := at_round hp HS.out
      rw [hd] at hnx
      have HR' := Lib.hid hr'
      clear hr' hd
      rw [hrr, List.length_cons] at ha'
      have ha255 : a ≤ 255 := by omega
      have hl' : a + 1 + (rest'.length : Int) ≤ 256 := by omega
      by_cases h0 : (R : Int) = x
      · by_cases h46 : (R : Int) = 46
        · have HX := Lib.hid (show findL rest' x (a + 1) = findL rs x f by rw [← HA.out, hrr]; show _ = (if _ then _ else _); rw [if_neg (by omega)])
          clear hrr ha'
          rw [h46] at hnx h0
          subst h0
          go_wp2
          go_roundw
          case rel => exact ⟨pos + K, a + 1, rest', rfl, by go_num, by omega, by omega, hl', HR'.out, HX.out⟩
          case measure => simp; omega
        · have HX := Lib.hid (show findL rs x f = some a by rw [← HA.out, hrr]; show (if _ then _ else _) = _; rw [if_pos ⟨h0, h46⟩])
          have h46' : (x == 46) = false := by rw [beq_eq_false_iff_ne, ← h0]; exact h46
          have hwr : IntKind.u8.wrap a = a := by rw [IntKind.wrap_u8]; omega
          rw [h0] at hnx
          clear hrr h46 ha' h0
          go_wp2
          go_ret2
          exact ⟨by rw [HX.out]; rfl, hb0 _⟩
      · have HX := Lib.hid (show findL rest' x (a + 1) = findL rs x f by rw [← HA.out, hrr]; show _ = (if _ then _ else _); rw [if_neg (by omega)])
        have h0' : ((R : Int) == x) = false := by rw [beq_eq_false_iff_ne]; exact h0
        clear hrr h0 ha'
        go_wp2
        go_roundw
        case rel => exact ⟨pos + K, a + 1, rest', rfl, by go_num, by omega, by omega, hl', HR'.out, HX.out⟩
        case measure => simp; omega
    · have hnx : ∀ ty, (Instr.next (.pointer (some ⟨w.heap.size + 1, 0, none⟩)) true ty).run Tryd.prog (W0.iter b pos) = _ := fun ty => hz0 ▸ run_next_end W0 b pos ty hp
      have HX := Lib.hid (show findL rs x f = none by
        have h1 := HS.out
        rw [List.drop_eq_nil_of_le (by simp; omega), runesL_nil] at h1
        cases h1
        rw [← HA.out]
        rfl)
      go_wp2
      go_ret2
      exact ⟨by rw [HX.out]; rfl, hb0 _⟩
end Go.Proofs.YtnnpkognnbolcaaDoor
