/-
  A bank (stage 7): its small functions: Frames, noughts, left; open, has, get, put.
-/
import Derived.Test.YtmpfdmjbgabcdaaSeGood
import Derived.Test.YtmpfdmjbgabcdaaR7Head
import Derived.Test.YtmpfdmjbgabcdaaShelf
import Derived.Lib.Repeat
import Derived.Laws.ResultCell
namespace Go.Proofs.Ytmpfdmjbgabcdaa
open Go.RowKit Go.Sort
set_option linter.unusedVariables false

def framesI (n : Int) : Int := if n < 1 then 0 else (n - 1) / 62 + 1
theorem framesI_nat (n : Nat) : framesI n = ((n + 61) / 62 : Nat) := by
  unfold framesI
  split
  · have : n = 0 := by omega
    subst this; rfl
  · omega
set_option maxHeartbeats 1000000 in
theorem frames_n (n : Int) (w : World) (h : n ≤ 9223372036854775807) : Calls Try.prog 56 #[.int .i64 n] w fun e w' => e = .returned (.int .i64 (framesI n)) ∧ w = w' := by
  unfold framesI
  by_cases h1 : n < 1
  · rw [if_pos h1]
    go_enter Try.func56, Try.ntmps56
    go_wp2
    go_ret
    exact ⟨rfl, rfl⟩
  · rw [if_neg h1]
    obtain ⟨k, hk⟩ : ∃ k : Nat, n = k + 1 := ⟨(n - 1).toNat, by omega⟩
    subst hk
    have hs : IntKind.i64.wrap ((k : Int) + 1 - 1) = (k : Int) := by rw [IntKind.wrap_i64]; omega
    obtain ⟨q, hq⟩ : ∃ q : Nat, k / 62 = q := ⟨_, rfl⟩
    have hq1 : (k : Int).tdiv 62 = (q : Int) := by rw [Int.tdiv_eq_ediv_of_nonneg (by omega)]; omega
    have hq2 : (k : Int) / 62 = (q : Int) := by omega
    have hq3 : IntKind.i64.wrap (q : Int) = (q : Int) := by rw [IntKind.wrap_i64]; omega
    have hq4 : IntKind.i64.wrap ((q : Int) + 1) = (q : Int) + 1 := by rw [IntKind.wrap_i64]; omega
    rw [show (k : Int) + 1 - 1 = (k : Int) by omega, hq2]
    go_enter Try.func56, Try.ntmps56
    go_wp2
    go_ret
    exact ⟨rfl, rfl⟩
theorem repeat_0 (n : Nat) : Lib.repeatL [0] n = List.replicate n 0 := by
  induction n with
  | zero => rfl
  | succ n ih => rw [Lib.repeatL, ih]; rfl
theorem zero64_eq : (⟨(List.replicate 64 0).toArray⟩ : ByteArray) = zero64 := by
  unfold zero64
  congr 1
set_option maxHeartbeats 1000000 in
theorem noughts_c (w : World) : Calls Try.prog 72 #[] w fun e w' => e = .returned (.string zero64) ∧ Below w.heap.size w w' := by
  have hR : ∀ w1, Calls Try.prog 75 #[.string ⟨#[0]⟩, .int .i64 64] w1 fun e w' => e = .returned (.string zero64) ∧ Below w1.heap.size w1 w' := fun w1 => by
    have := Try.strings_Repeat ⟨#[0]⟩ 64 w1 (by omega) (by show 1 * 64 ≤ _; omega)
    rw [show (⟨#[0]⟩ : ByteArray).data.toList = [0] from rfl, repeat_0, zero64_eq] at this
    exact this
  go_enter Try.func72, Try.ntmps72
  go_wp2_with fail
  refine (hR _).mono ?_
  rintro e w1 ⟨rfl, hb⟩
  have HB := Lib.hid hb
  clear hb hR
  go_wp2
  go_ret
  exact ⟨rfl, HB.out⟩
theorem grown_of_belowB {w w' : World} (hb : Below w.heap.size w w') (row : Option Nat) : w.grownBy w' row := ⟨hb.os, hb.tape, hb.output, hb.size, fun k hk _ => hb.block k hk⟩
theorem or_shift (a b : Nat) (hb : b < 256) : (a * 256) ||| b = a * 256 + b := by
  have := Nat.two_pow_add_eq_or_of_lt (i := 8) (b := b) (by simpa using hb) a
  rw [show 2 ^ 8 * a = a * 256 by omega] at this
  exact this.symm
set_option maxHeartbeats 1000000 in
theorem has_c (b : Option Addr) (fr sz at_ cnt : Int) (w : World) (h : -9223372036854775808 ≤ sz - at_ ∧ sz - at_ ≤ 9223372036854775807) :
    Calls Try.prog 64 #[.agg #[.pointer b, .int .i64 fr, .int .i64 sz], .int .i64 at_, .int .i64 cnt] w fun e w' => e = .returned (.bool (decide (cnt ≤ sz - at_))) ∧ Below w.heap.size w w' := by
  have hw : IntKind.i64.wrap (sz - at_) = sz - at_ := by rw [IntKind.wrap_i64]; omega
  by_cases hc : cnt ≤ sz - at_
  · rw [decide_eq_true hc]
    go_enter Try.func64, Try.ntmps64
    go_wp2
    go_ret
    exact ⟨rfl, (Below.refl _ _).alloc (Nat.le_refl _) _⟩
  · rw [decide_eq_false hc]
    go_enter Try.func64, Try.ntmps64
    go_wp2
    go_ret
    exact ⟨rfl, (Below.refl _ _).alloc (Nat.le_refl _) _⟩
set_option maxHeartbeats 1000000 in
theorem bget_c (B b : Nat) (st : St) (fr sz at_ i : Int) (w : World) (h : Dev B w b st) (hg : Good st) (hi : fr + at_ = i) (ha : -9223372036854775808 ≤ i ∧ i ≤ 9223372036854775807) :
    Calls Try.prog 73 #[.agg #[.pointer (some ⟨b, 0, none⟩), .int .i64 fr, .int .i64 sz], .int .i64 at_] w fun e w' => e = .returned (.tuple #[.string (if askI st.now.length st.lim st.left i = 0 then st.now.getD i.toNat ⟨#[]⟩ else ⟨#[]⟩), .int .i64 (askI st.now.length st.lim st.left i)]) ∧ Below w.heap.size w w' := by
  have cG : Hid (∀ W, Below w.heap.size w W → Calls Try.prog 28 #[.pointer (some ⟨b, 0, none⟩), .int .i64 i] W (GetPost B st i W)) := Lib.hid (fun W hW => get_c B b st i W (h.below hW) hg)
  unfold GetPost at cG
  have hw : IntKind.i64.wrap (fr + at_) = i := by rw [hi, IntKind.wrap_i64]; omega
  generalize (if askI st.now.length st.lim st.left i = 0 then st.now.getD i.toNat ⟨#[]⟩ else ⟨#[]⟩) = s at *
  generalize askI st.now.length st.lim st.left i = q at *
  clear h hg hi ha
  go_enter Try.func73, Try.ntmps73
  go_wp2_with fail
  refine (cG.out _ ((Below.refl _ _).alloc (Nat.le_refl _) _)).mono ?_
  rintro e w1 ⟨rfl, rfl⟩
  go_wp2
  go_ret2
  exact ⟨rfl, (Below.refl _ _).alloc (Nat.le_refl _) _⟩
set_option maxHeartbeats 1000000 in
theorem bput_c (B b : Nat) (st : St) (fr sz at_ i : Int) (s : ByteArray) (w : World) (h : Dev B w b st) (hg : Good st) (hp : st.pend.length ≤ 1000) (hB : B ≤ w.heap.size) (hi : fr + at_ = i) (ha : -9223372036854775808 ≤ i ∧ i ≤ 9223372036854775807) :
    Calls Try.prog 66 #[.agg #[.pointer (some ⟨b, 0, none⟩), .int .i64 fr, .int .i64 sz], .int .i64 at_, .string s] w (PutPost B b st i s w) := by
  have cG : Hid (∀ W, Below w.heap.size w W → Calls Try.prog 26 #[.pointer (some ⟨b, 0, none⟩), .int .i64 i, .string s] W (PutPost B b st i s W)) := Lib.hid (fun W hW => put_c B b st i s W (h.below hW) hg hp (Nat.le_trans hB hW.size))
  unfold PutPost at cG ⊢
  have hw : IntKind.i64.wrap (fr + at_) = i := by rw [hi, IntKind.wrap_i64]; omega
  generalize (if putI st i s = 0 then putSt st i.toNat s else st) = st1 at *
  generalize putI st i s = q at *
  clear h hg hi ha
  go_enter Try.func66, Try.ntmps66
  go_wp2_with fail
  refine (cG.out _ ((Below.refl _ _).alloc (Nat.le_refl _) _)).mono ?_
  rintro e w1 ⟨rfl, hd, hb, ho⟩
  have HD := Lib.hid hd
  have HB1 : Hid (Below B w w1) := Lib.hid (((Below.refl B w).alloc hB _).trans hb)
  have HO1 : Hid (Off devTs w w1) := Lib.hid (((Off.refl _ w).alloc _).trans ho)
  clear hd hb ho
  go_wp2
  go_ret
  exact ⟨rfl, HD.out, HB1.out, HO1.out⟩
/-- What opens a bank. -/
def openI (st : St) (fr sz : Int) : Int := if askI st.now.length st.lim st.left fr = 0 then (if sz < 1 ∨ st.now.length - fr < sz then 1 else 0) else askI st.now.length st.lim st.left fr
set_option maxHeartbeats 1000000 in
theorem open_ok (B b : Nat) (st : St) (fr sz : Int) (w : World) (h : Dev B w b st) (hg : Good st) (ho : openI st fr sz = 0) :
    Calls Try.prog 63 #[.pointer (some ⟨b, 0, none⟩), .int .i64 fr, .int .i64 sz] w fun e w' => e = .returned (.tuple #[.agg #[.pointer (some ⟨b, 0, none⟩), .int .i64 fr, .int .i64 sz], .int .i64 0]) ∧ Below w.heap.size w w' := by
  have cG : Hid (∀ W, Below w.heap.size w W → Calls Try.prog 28 #[.pointer (some ⟨b, 0, none⟩), .int .i64 fr] W (GetPost B st fr W)) := Lib.hid (fun W hW => get_c B b st fr W (h.below hW) hg)
  have cS : Hid (∀ W, Below w.heap.size w W → Calls Try.prog 59 #[.pointer (some ⟨b, 0, none⟩)] W fun e w' => e = .returned (.int .i64 st.now.length) ∧ W = w') := Lib.hid (fun W hW => by
    obtain ⟨a, cap, h0⟩ := (h.below hW).nowCell
    exact size_c b _ cap a W h0)
  unfold GetPost at cG
  unfold openI at ho
  split at ho
  case isFalse hn => exact absurd ho hn
  rename_i hq
  obtain ⟨k, rfl, hk⟩ := ask_zero hq
  rw [hq, if_pos rfl] at cG
  generalize st.now.getD (k : Int).toNat ⟨#[]⟩ = s at *
  have hf := hg.few
  generalize st.now.length = n at *
  split at ho
  · cases ho
  rename_i hsz
  have h1 : ¬ sz < 1 := by omega
  have hw : IntKind.i64.wrap ((n : Int) - (k : Int)) = (n : Int) - (k : Int) := by rw [IntKind.wrap_i64]; omega
  have h2 : ¬ ((n : Int) - (k : Int) < sz) := by omega
  clear h hg ho hsz hq
  go_enter Try.func63, Try.ntmps63
  go_wp2_with fail
  refine (cG.out _ ((Below.refl _ _).alloc (Nat.le_refl _) _)).mono ?_
  rintro e w1 ⟨rfl, rfl⟩
  go_wp2_with fail
  refine (cS.out _ ((Below.refl _ _).alloc (Nat.le_refl _) _)).mono ?_
  rintro e w1 ⟨rfl, rfl⟩
  go_wp2
  (try simp only [Exit.inBlock, Exit.then])
  refine bodyPost_ret (v := .tuple #[.agg #[.pointer (some ⟨b, 0, none⟩), .int .i64 k, .int .i64 sz], .int .i64 0]) ?_ rfl ⟨rfl, ?_⟩
  · rw [results_cell_tmp rfl]
    go_simp
  · first | exact (Below.refl _ _).alloc (Nat.le_refl _) _ | exact ((Below.refl _ _).alloc (Nat.le_refl _) _).setCells (Nat.le_refl _) _ _
set_option maxHeartbeats 1000000 in
theorem open_no (B b : Nat) (st : St) (fr sz q : Int) (w : World) (h : Dev B w b st) (hg : Good st) (ho : openI st fr sz = q) (hne : q ≠ 0) :
    Calls Try.prog 63 #[.pointer (some ⟨b, 0, none⟩), .int .i64 fr, .int .i64 sz] w fun e w' => e = .returned (.tuple #[.agg #[.pointer none, .int .i64 0, .int .i64 0], .int .i64 q]) ∧ Below w.heap.size w w' := by
  have cG : Hid (∀ W, Below w.heap.size w W → Calls Try.prog 28 #[.pointer (some ⟨b, 0, none⟩), .int .i64 fr] W (GetPost B st fr W)) := Lib.hid (fun W hW => get_c B b st fr W (h.below hW) hg)
  have cS : Hid (∀ W, Below w.heap.size w W → Calls Try.prog 59 #[.pointer (some ⟨b, 0, none⟩)] W fun e w' => e = .returned (.int .i64 st.now.length) ∧ W = w') := Lib.hid (fun W hW => by
    obtain ⟨a, cap, h0⟩ := (h.below hW).nowCell
    exact size_c b _ cap a W h0)
  unfold GetPost at cG
  unfold openI at ho
  by_cases hq : askI st.now.length st.lim st.left fr = 0
  · rw [if_pos hq] at ho
    obtain ⟨k, rfl, hk⟩ := ask_zero hq
    rw [hq, if_pos rfl] at cG
    generalize st.now.getD (k : Int).toNat ⟨#[]⟩ = s at *
    have hf := hg.few
    generalize st.now.length = n at *
    split at ho
    case isFalse => exact absurd ho.symm hne
    rename_i hsz
    subst ho
    have hw : IntKind.i64.wrap ((n : Int) - (k : Int)) = (n : Int) - (k : Int) := by rw [IntKind.wrap_i64]; omega
    clear h hg hq hne
    by_cases h1 : sz < 1
    · clear hsz cS
      go_enter Try.func63, Try.ntmps63
      go_wp2_with fail
      refine (cG.out _ ((Below.refl _ _).alloc (Nat.le_refl _) _)).mono ?_
      rintro e w1 ⟨rfl, rfl⟩
      go_wp2
      (try simp only [Exit.inBlock, Exit.then])
      refine bodyPost_ret (v := .tuple #[.agg #[.pointer none, .int .i64 0, .int .i64 0], .int .i64 1]) ?_ rfl ⟨rfl, ?_⟩
      · rw [results_cell_tmp rfl]
        go_simp
      · first | exact (Below.refl _ _).alloc (Nat.le_refl _) _ | exact ((Below.refl _ _).alloc (Nat.le_refl _) _).setCells (Nat.le_refl _) _ _
    · have h2 : (n : Int) - (k : Int) < sz := by omega
      clear hsz
      go_enter Try.func63, Try.ntmps63
      go_wp2_with fail
      refine (cG.out _ ((Below.refl _ _).alloc (Nat.le_refl _) _)).mono ?_
      rintro e w1 ⟨rfl, rfl⟩
      go_wp2_with fail
      refine (cS.out _ ((Below.refl _ _).alloc (Nat.le_refl _) _)).mono ?_
      rintro e w1 ⟨rfl, rfl⟩
      go_wp2
      (try simp only [Exit.inBlock, Exit.then])
      refine bodyPost_ret (v := .tuple #[.agg #[.pointer none, .int .i64 0, .int .i64 0], .int .i64 1]) ?_ rfl ⟨rfl, ?_⟩
      · rw [results_cell_tmp rfl]
        go_simp
      · first | exact (Below.refl _ _).alloc (Nat.le_refl _) _ | exact ((Below.refl _ _).alloc (Nat.le_refl _) _).setCells (Nat.le_refl _) _ _
  · rw [if_neg hq] at ho
    rw [if_neg hq, ho] at cG
    have hne2 : (q == 0) = false := by simpa using hne
    clear h hg hq ho cS
    go_enter Try.func63, Try.ntmps63
    go_wp2_with fail
    refine (cG.out _ ((Below.refl _ _).alloc (Nat.le_refl _) _)).mono ?_
    rintro e w1 ⟨rfl, rfl⟩
    go_wp2
    (try simp only [Exit.inBlock, Exit.then])
    refine bodyPost_ret (v := .tuple #[.agg #[.pointer none, .int .i64 0, .int .i64 0], .int .i64 q]) ?_ rfl ⟨rfl, ?_⟩
    · rw [results_cell_tmp rfl]
      go_simp
    · first | exact (Below.refl _ _).alloc (Nat.le_refl _) _ | exact ((Below.refl _ _).alloc (Nat.le_refl _) _).setCells (Nat.le_refl _) _ _
end Go.Proofs.Ytmpfdmjbgabcdaa
