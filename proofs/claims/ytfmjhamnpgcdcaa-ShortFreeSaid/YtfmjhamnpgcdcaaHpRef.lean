/-
  The contract of the reference's Free.
-/
import Derived.Test.YtfmjhamnpgcdcaaHpFree
namespace Go.Proofs.Ytfmjhamnpgcdcaa
open Go.RowKit Go.Sort
set_option linter.unusedVariables false

def RFreePost (l : List Int) (w : World) (e : Ending) (w' : World) : Prop := ∃ f, FreeOf l f ∧ e = .returned (.int .i64 f) ∧ w' = w
theorem mem_take {l : List Int} {k : Nat} (hk : k < l.length) (x : Int) : x ∈ l.take (k + 1) ↔ x ∈ l.take k ∨ l.getD k 0 = x := by
  rw [take_one hk, List.mem_append, List.mem_singleton]
  constructor
  · rintro (h | h)
    · exact Or.inl h
    · exact Or.inr h.symm
  · rintro (h | h)
    · exact Or.inl h
    · exact Or.inr h.symm

set_option maxHeartbeats 2000000 in
theorem rfree_c (v : Value) (l : List Int) (w : World) (hv : SliceN w v l) (hl : l.length ≤ 300) :
    Calls Try.prog 6 #[v] w (RFreePost l w) := by
  unfold RFreePost
  obtain ⟨n, hn⟩ : ∃ n, l.length = n := ⟨_, rfl⟩
  obtain ⟨a, cap, rfl⟩ := hv.len
  have HV := Lib.hid hv
  have HN := Lib.hid hn
  rw [hn] at hl ⊢
  clear hv hn
  go_enter Try.func6, Try.ntmps6
  go_wp2
  go_loop [3] (fun nv => ∃ m : Nat, 1 ≤ m ∧ m ≤ n + 1 ∧ nv = .int .i64 m ∧ ∀ x : Int, 1 ≤ x → x < m → x ∈ l) (fun nv => n + 1 - (intOf nv).toNat)
  case atStart => exact ⟨1, by omega, by omega, rfl, fun x h1 h2 => by omega⟩
  case round =>
    obtain ⟨m, hm1, hm2, rfl, hall⟩ := hrel
    have HA := Lib.hid hall
    clear hall
    by_cases hmn : m ≤ n
    · have hmz : (m : Int) ≤ (n : Int) := by omega
      go_wp2
      go_loop [4, 5] (fun fv iv => ∃ k : Nat, k ≤ n ∧ iv = .int .i64 k ∧ fv = .bool (decide ((m : Int) ∈ l.take k))) (fun _ iv => n - (intOf iv).toNat)
      case atStart => exact ⟨0, by omega, rfl, by simp⟩
      case round =>
        obtain ⟨k, hk, rfl, rfl⟩ := hrel
        by_cases hkn : k < n
        · have hkz : (k : Int) < (n : Int) := by omega
          obtain ⟨g, off, rfl, hg, c1⟩ := HV.out.at (j := k) (by rw [HN.out]; exact hkn)
          have hmt := mem_take (l := l) (k := k) (by rw [HN.out]; exact hkn) (m : Int)
          generalize l.getD k 0 = x at *
          have HT : Hid (decide ((m : Int) ∈ l.take (k + 1)) = (decide ((m : Int) ∈ l.take k) || (x == (m : Int)))) := Lib.hid (by
            rw [Bool.eq_iff_iff]
            simp only [Bool.or_eq_true, decide_eq_true_eq, beq_iff_eq]
            exact hmt)
          clear hmt
          cases ht : decide ((m : Int) ∈ l.take k) with
          | true =>
            rw [ht] at HT
            clear ht
            go_wp2
            go_round
            case rel => exact ⟨k + 1, by omega, by first | rfl | go_num, by rw [HT.out]; rfl⟩
            case measure => simp [intOf]; omega
          | false =>
            rw [ht] at HT
            clear ht
            cases hx : (x == (m : Int)) with
            | true =>
              rw [hx] at HT
              go_wp2
              go_round
              case rel => exact ⟨k + 1, by omega, by first | rfl | go_num, by rw [HT.out]; rfl⟩
              case measure => simp [intOf]; omega
            | false =>
              rw [hx] at HT
              go_wp2
              go_round
              case rel => exact ⟨k + 1, by omega, by first | rfl | go_num, by rw [HT.out]; rfl⟩
              case measure => simp [intOf]; omega
        · have hge : ¬ ((k : Int) < (n : Int)) := by omega
          have ht : l.take k = l := List.take_of_length_le (by rw [HN.out]; omega)
          rw [ht]
          cases hd : decide ((m : Int) ∈ l) with
          | true =>
            have HD := Lib.hid (of_decide_eq_true hd)
            clear hd ht
            go_wp2
            go_round
            case rel =>
              refine ⟨m + 1, by omega, by omega, by first | rfl | go_num, fun x h1 h2 => ?_⟩
              by_cases e : x = m
              · rw [e]; exact HD.out
              · exact HA.out x h1 (by omega)
            case measure => simp [intOf]; omega
          | false =>
            have HD := Lib.hid (of_decide_eq_false hd)
            clear hd ht
            go_wp2
            go_ret
            exact ⟨m, free_here (by omega) HD.out HA.out, rfl, rfl⟩
    · have hge : ¬ ((m : Int) ≤ (n : Int)) := by omega
      have he : m = n + 1 := by omega
      go_wp2
      go_ret
      refine ⟨(n : Int) + 1, ?_, rfl, rfl⟩
      have := free_past (xs := l) (fun x h1 h2 => HA.out x h1 (by rw [HN.out] at h2; omega))
      rw [HN.out] at this
      exact this
end Go.Proofs.Ytfmjhamnpgcdcaa
