/-
  A bank (stage 7): a device behind several writes, one sector behind the other.
-/
import Derived.Test.YtmpfdmjbgabcdaaBkScan
namespace Go.Proofs.Ytmpfdmjbgabcdaa
open Go.RowKit Go.Sort
set_option linter.unusedVariables false

def putsSt : St → Nat → List ByteArray → St
  | st, _, [] => st
  | st, i, f :: fs => putsSt (putSt st i f) (i + 1) fs
theorem putsSt_snoc : ∀ (fs : List ByteArray) (st : St) (i : Nat) (f : ByteArray), putsSt st i (fs ++ [f]) = putSt (putsSt st i fs) (i + fs.length) f
  | [], st, i, f => rfl
  | g :: fs, st, i, f => by
    show putsSt (putSt st i g) (i + 1) (fs ++ [f]) = putSt (putsSt (putSt st i g) (i + 1) fs) _ f
    rw [putsSt_snoc fs, List.length_cons, show i + (fs.length + 1) = i + 1 + fs.length by omega]
theorem free_gone {st : St} (h : st.lim = false) : goneB st = false := by
  unfold goneB
  rw [h]
  rfl
theorem puts_good : ∀ (fs : List ByteArray) (st : St) (i : Nat), Good st → st.lim = false → i + fs.length ≤ st.now.length → (∀ f ∈ fs, f.size = 64) →
    Good (putsSt st i fs) ∧ (putsSt st i fs).lim = false ∧ (putsSt st i fs).now.length = st.now.length ∧ (putsSt st i fs).pend.length = st.pend.length + fs.length ∧ (putsSt st i fs).safe = st.safe
  | [], st, i, hg, hl, _, _ => ⟨hg, hl, rfl, rfl, rfl⟩
  | f :: fs, st, i, hg, hl, hi, hs => by
    simp only [List.length_cons] at hi
    have ha := ask_ok (free_gone hl) (show i < st.now.length by omega)
    have h1 := puts_good fs (putSt st i f) (i + 1) (good_put hg ha (hs f (by simp))) hl (by simp [putSt]; omega) (fun g hg => hs g (by simp [hg]))
    obtain ⟨a, b, c, d, e⟩ := h1
    refine ⟨a, b, ?_, ?_, e⟩
    · show (putsSt (putSt st i f) (i + 1) fs).now.length = _
      rw [c]; simp [putSt]
    · show (putsSt (putSt st i f) (i + 1) fs).pend.length = _
      rw [d]; simp [putSt]; omega
theorem puts_now : ∀ (fs : List ByteArray) (st : St) (i : Nat), i + fs.length ≤ st.now.length → (putsSt st i fs).now = st.now.take i ++ fs ++ st.now.drop (i + fs.length)
  | [], st, i, _ => by simp [putsSt]
  | f :: fs, st, i, hi => by
    simp only [List.length_cons] at hi
    show (putsSt (putSt st i f) (i + 1) fs).now = _
    rw [puts_now fs (putSt st i f) (i + 1) (by simp [putSt]; omega)]
    show (st.now.set i f).take (i + 1) ++ fs ++ (st.now.set i f).drop (i + 1 + fs.length) = _
    rw [List.drop_set_of_lt (by omega), List.set_eq_take_append_cons_drop, if_pos (by omega)]
    have hl : (st.now.take i).length = i := by rw [List.length_take]; omega
    rw [List.take_append, hl, List.take_of_length_le (by omega), show i + 1 - i = 1 by omega]
    simp [show i + 1 + fs.length = i + (fs.length + 1) by omega]
theorem puts_pend : ∀ (fs : List ByteArray) (st : St) (i : Nat), (putsSt st i fs).pend = st.pend ++ (List.range' i fs.length).zip fs
  | [], st, i => by simp [putsSt]
  | f :: fs, st, i => by
    show (putsSt (putSt st i f) (i + 1) fs).pend = _
    rw [puts_pend fs]
    simp [putSt, List.range'_succ]
theorem bput_at (B b : Nat) (st : St) (F A j : Nat) (sz : Int) (f : ByteArray) (W : World) (h : Dev B W b st) (hg : Good st) (hl : st.lim = false) (hp : st.pend.length ≤ 1000) (hB : B ≤ W.heap.size) (hi : F + A + j < st.now.length) (hf : f.size = 64) :
    Calls Try.prog 66 #[.agg #[.pointer (some ⟨b, 0, none⟩), .int .i64 F, .int .i64 sz], .int .i64 ((A : Int) + (j : Int)), .string f] W fun e w' => e = .returned (.int .i64 0) ∧ Dev B w' b (putSt st (F + A + j) f) ∧ Below B W w' ∧ Off devTs W w' := by
  have hq : putI st ((F + A + j : Nat) : Int) f = 0 := by
    unfold putI
    rw [if_pos (ask_ok (free_gone hl) hi), if_pos hf]
  have hfew := hg.few
  have h1 := bput_c B b st F sz ((A : Int) + (j : Int)) ((F + A + j : Nat) : Int) f W h hg hp hB (by omega) (by omega)
  unfold PutPost at h1
  rw [hq, if_pos rfl, Int.toNat_natCast] at h1
  exact h1
end Go.Proofs.Ytmpfdmjbgabcdaa
