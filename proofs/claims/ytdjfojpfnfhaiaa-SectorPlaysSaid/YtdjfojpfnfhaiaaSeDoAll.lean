/-
  The reference's Do (stage 6), at whatever call.
-/
import Derived.Test.YtdjfojpfnfhaiaaSeDo4
import Derived.Test.YtdjfojpfnfhaiaaSeRNew
namespace Go.Proofs.Ytdjfojpfnfhaiaa
open Go.RowKit Go.Sort
set_option linter.unusedVariables false

section
variable {B r : Nat} {st : St} {X I N : Int} {s : ByteArray} {kv : Value} {w : World}
theorem ask_gone {i : Int} (hgo : goneB st = true) : askI st.now.length st.lim st.left i = 13 := by
  unfold askI
  unfold goneB at hgo
  rw [hgo, if_pos rfl]
theorem ask_out {i : Int} (hgo : goneB st = false) (h : i < 0 ∨ (st.now.length : Int) ≤ i) : askI st.now.length st.lim st.left i = 1 := by
  unfold askI
  unfold goneB at hgo
  rw [hgo, if_neg (by decide), if_pos h]
theorem do0_c (h : Ref B w r st) (hg : Good st) (hB : B ≤ w.heap.size) (hX0 : 0 ≤ X) (hX : X % 5 = 0) (hpl : st.pend.length ≤ 1000) :
    Calls Try.prog 15 #[.pointer (some ⟨r, 0, none⟩), .agg #[.int .u8 X, .int .i64 I, .int .i64 N, .string s, kv]] w (DoPost B r (if putI st I s = 0 then putSt st I.toNat s else st) ⟨#[]⟩ (putI st I s) w) := by
  cases hgo : goneB st
  · by_cases h1 : I < 0
    · have hq : putI st I s = 1 := by unfold putI; rw [ask_out hgo (Or.inl h1), if_neg (by decide)]
      rw [hq, if_neg (by decide)]
      exact do_arg0neg B r st X I N s kv w h hg hB hX0 hX h1 hgo
    · by_cases h2 : (st.now.length : Int) ≤ I
      · have hq : putI st I s = 1 := by unfold putI; rw [ask_out hgo (Or.inr h2), if_neg (by decide)]
        rw [hq, if_neg (by decide)]
        exact do_arg0big B r st X I N s kv w h hg hB hX0 hX (by omega) h2 hgo
      · obtain ⟨k, rfl⟩ : ∃ k : Nat, I = k := ⟨I.toNat, by omega⟩
        have hk : k < st.now.length := by omega
        by_cases hs : s.size = 64
        · have hq : putI st k s = 0 := by unfold putI; rw [ask_in hgo hk, if_pos rfl, if_pos hs]
          rw [hq, if_pos rfl]
          exact do_put B r st X N k s kv w h hg hB hX0 hX hk hs hpl hgo
        · have hq : putI st k s = 1 := by unfold putI; rw [ask_in hgo hk, if_pos rfl, if_neg hs]
          rw [hq, if_neg (by decide)]
          exact do_len B r st X N k s kv w h hg hB hX0 hX hk hs hgo
  · have hq : putI st I s = 13 := by unfold putI; rw [ask_gone hgo, if_neg (by decide)]
    rw [hq, if_neg (by decide)]
    exact do_lost0 B r st X I N s kv w h hg hB hX0 hX hgo
theorem do1_c (h : Ref B w r st) (hg : Good st) (hB : B ≤ w.heap.size) (hX0 : 0 ≤ X) (hX : X % 5 = 1) :
    Calls Try.prog 15 #[.pointer (some ⟨r, 0, none⟩), .agg #[.int .u8 X, .int .i64 I, .int .i64 N, .string s, kv]] w (DoPost B r st (if askI st.now.length st.lim st.left I = 0 then st.now.getD I.toNat ⟨#[]⟩ else ⟨#[]⟩) (askI st.now.length st.lim st.left I) w) := by
  cases hgo : goneB st
  · by_cases h1 : I < 0
    · rw [ask_out hgo (Or.inl h1), if_neg (by decide)]
      exact do_arg1neg B r st X I N s kv w h hg hB hX0 hX h1 hgo
    · by_cases h2 : (st.now.length : Int) ≤ I
      · rw [ask_out hgo (Or.inr h2), if_neg (by decide)]
        exact do_arg1big B r st X I N s kv w h hg hB hX0 hX (by omega) h2 hgo
      · obtain ⟨k, rfl⟩ : ∃ k : Nat, I = k := ⟨I.toNat, by omega⟩
        have hk : k < st.now.length := by omega
        rw [ask_in hgo hk, if_pos rfl]
        exact do_get B r st X N k s kv w h hg hB hX0 hX hk hgo
  · rw [ask_gone hgo, if_neg (by decide)]
    exact do_lost1 B r st X I N s kv w h hg hB hX0 hX hgo
theorem do2_c (h : Ref B w r st) (hg : Good st) (hB : B ≤ w.heap.size) (hX0 : 0 ≤ X) (hX : X % 5 = 2) :
    Calls Try.prog 15 #[.pointer (some ⟨r, 0, none⟩), .agg #[.int .u8 X, .int .i64 I, .int .i64 N, .string s, kv]] w (DoPost B r (if goneB st = true then st else flushSt st) ⟨#[]⟩ (if goneB st = true then 13 else 0) w) := by
  cases hgo : goneB st
  · rw [if_neg (by decide), if_neg (by decide)]
    exact do_flush B r st X I N s kv w h hg hB hX0 hX hgo
  · rw [if_pos rfl, if_pos rfl]
    exact do_lost2 B r st X I N s kv w h hg hB hX0 hX hgo
theorem do3_c (h : Ref B w r st) (hg : Good st) (hB : B ≤ w.heap.size) (hX0 : 0 ≤ X) (hX : X % 5 = 3) :
    Calls Try.prog 15 #[.pointer (some ⟨r, 0, none⟩), .agg #[.int .u8 X, .int .i64 I, .int .i64 N, .string s, kv]] w (DoPost B r (cutSt st N) ⟨#[]⟩ 0 w) := by
  cases hgo : goneB st
  · by_cases hN : 0 ≤ N
    · exact do_cutpos B r st X I N s kv w h hg hB hX0 hX hgo hN
    · exact do_cutneg B r st X I N s kv w h hg hB hX0 hX hgo (by omega)
  · rw [show cutSt st N = st by unfold cutSt; rw [hgo]; rfl]
    exact do_cutgone B r st X I N s kv w h hg hB hX0 hX hgo
end
end Go.Proofs.Ytdjfojpfnfhaiaa
