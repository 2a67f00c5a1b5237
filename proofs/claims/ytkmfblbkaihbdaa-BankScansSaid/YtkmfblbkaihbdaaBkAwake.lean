/-
  The awake of stage 7's laws; BankFrames.
-/
import Derived.Test.YtkmfblbkaihbdaaBkWipes
import Derived.Test.YtkmfblbkaihbdaaBkEpoch
namespace Go.Proofs.Ytkmfblbkaihbdaa
open Go.RowKit Go.Sort
set_option linter.unusedVariables false

theorem sizeI_nat (n : Nat) (h : n ≤ 4096) : sizeI n = n := by unfold sizeI; omega
theorem openI_ok {st : St} {F S : Nat} (hgo : goneB st = false) (h1 : 1 ≤ S) (h : F + S ≤ st.now.length) : openI st F S = 0 := by
  unfold openI
  rw [if_pos (ask_ok hgo (by omega)), if_neg (by omega)]
theorem stNew_now (n : Nat) : (stNew n).now.length = n := by simp [stNew]
set_option maxHeartbeats 4000000 in
theorem awake7_c (w : World) : Calls Try.prog 10 #[] w fun e w' => e = .returned (.bool true) ∧ Below w.heap.size w w' := by
  have cN := new_c 5 w
  unfold NewPost at cN
  rw [show sizeI 5 = 5 from rfl] at cN
  have cF := fun W => frames_n 63 W (by omega)
  rw [show framesI 63 = 2 from rfl] at cF
  go_enter Try.func10, Try.ntmps10
  go_wp2_with fail
  refine cN.mono ?_
  rintro e w1 ⟨b, rfl, hd, hb, ho⟩
  have HB1 := Lib.hid hb
  have hs : ((⟨#[97, 98]⟩ : ByteArray)).size = 2 := rfl
  have cW := write_ok w.heap.size b (stNew 5) 0 5 1 ⟨#[97, 98]⟩ w1 hd (goodNew 5 (by decide)) rfl (openI_ok (free_gone rfl) (by decide) (by rw [stNew_now]; decide)) (by rw [stNew_now]; decide) (by decide) (by decide) (by decide) (by decide) (by decide) hb.size
  rw [show ((1 + (((⟨#[97, 98]⟩ : ByteArray)).size + 61) / 62 : Nat) : Int) = 2 from rfl] at cW
  clear cN hd hb ho
  go_wp2_with fail
  refine cW.mono ?_
  rintro e w2 ⟨rfl, hd2, hb2, ho2⟩
  have HB2 : Hid (Below w.heap.size w w2) := Lib.hid (HB1.out.trans hb2)
  clear cW hd2 hb2 ho2
  go_wp2_with fail
  refine (cF _).mono ?_
  rintro e w3 ⟨rfl, rfl⟩
  go_wp2
  go_ret
  exact ⟨rfl, HB2.out⟩
set_option maxHeartbeats 4000000 in
set_option maxRecDepth 100000 in
theorem frames7_walk (n : Int) (h1 : -9223372036854775808 ≤ n) (h2 : n ≤ 9223372036854775807) (w : World) : Calls Try.prog 3 #[.int .i64 n] w fun e w' => e = .returned (.bool true) ∧ Below w.heap.size w w' := by
  have cF := frames_n n w h2
  have cA := awake7_c
  unfold framesI at cF
  by_cases hn : n < 1
  · rw [if_pos hn] at cF
    go_enter Try.func3, Try.ntmps3
    go_wp2_with fail
    refine cF.mono ?_
    rintro e w1 ⟨rfl, rfl⟩
    go_wp2_with fail
    refine (cA _).mono ?_
    rintro e w2 ⟨rfl, hb⟩
    have HB := Lib.hid hb
    clear hb
    go_wp2
    go_ret
    exact ⟨rfl, HB.out⟩
  · rw [if_neg hn] at cF
    obtain ⟨k, hk⟩ : ∃ k : Nat, n = k + 1 := ⟨(n - 1).toNat, by omega⟩
    have hs : IntKind.i64.wrap (n - 1) = (k : Int) := by rw [IntKind.wrap_i64]; omega
    obtain ⟨q, hq⟩ : ∃ q : Nat, k / 62 = q := ⟨_, rfl⟩
    have hq1 : (k : Int).tdiv 62 = (q : Int) := by rw [Int.tdiv_eq_ediv_of_nonneg (by omega)]; omega
    have hq2 : (k : Int) / 62 = (q : Int) := by omega
    have hq3 : IntKind.i64.wrap (q : Int) = (q : Int) := by rw [IntKind.wrap_i64]; omega
    obtain ⟨K, hK⟩ : ∃ K : Nat, (K : Int) = (q : Int) + 1 := ⟨q + 1, by omega⟩
    have hq5 : IntKind.i64.wrap ((K : Int) - 1) = (q : Int) := by rw [IntKind.wrap_i64]; omega
    have hq6 : (1 : Int) ≤ (K : Int) := by omega
    have hq7 : (q : Int) < (K : Int) := by omega
    rw [show n - 1 = (k : Int) by omega, hq2, ← hK] at cF
    clear hK hq hk
    go_enter Try.func3, Try.ntmps3
    go_wp2_with fail
    refine cF.mono ?_
    rintro e w1 ⟨rfl, rfl⟩
    go_wp2_with fail
    refine (cA _).mono ?_
    rintro e w2 ⟨rfl, hb⟩
    have HB := Lib.hid hb
    clear hb
    go_wp2
    go_ret
    exact ⟨rfl, HB.out⟩
end Go.Proofs.Ytkmfblbkaihbdaa
