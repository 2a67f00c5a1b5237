/-
  A bank (stage 7): the number that a frame says; whether two lists of texts are equal.
-/
import Derived.Test.YtmpfdmjbgabcdaaBkSmall
import Derived.Test.YtmpfdmjbgabcdaaR7One
import Derived.Laws.Bits64
namespace Go.Proofs.Ytmpfdmjbgabcdaa
open Go.RowKit Go.Sort
set_option linter.unusedVariables false

theorem bits_or_i64 (a b : Nat) (ha : a < 9223372036854775808) (hb : b < 9223372036854775808) : bits .or .i64 (a : Int) (b : Int) = ((a ||| b : Nat) : Int) := by
  have hx : a ||| b < 2 ^ 63 := Nat.or_lt_two_pow (by omega) (by omega)
  have h1 : (BitVec.ofInt 64 (a : Int)).toNat = a := by
    rw [BitVec.ofInt_natCast, BitVec.toNat_ofNat]; exact Nat.mod_eq_of_lt (by omega)
  have h2 : (BitVec.ofInt 64 (b : Int)).toNat = b := by
    rw [BitVec.ofInt_natCast, BitVec.toNat_ofNat]; exact Nat.mod_eq_of_lt (by omega)
  show IntKind.i64.wrap ((BitVec.ofInt 64 (a : Int) ||| BitVec.ofInt 64 (b : Int)).toNat : Int) = _
  rw [BitVec.toNat_or, h1, h2, IntKind.wrap_i64]
  omega
set_option maxHeartbeats 1000000 in
set_option maxRecDepth 100000 in
theorem left_c (x : ByteArray) (w : World) (hs : x.size = 64) : Calls Try.prog 76 #[.string x] w fun e w' => e = .returned (.int .i64 (saysB x.data.toList)) ∧ Below w.heap.size w w' := by
  obtain ⟨K, hK⟩ : ∃ K, saysB x.data.toList = K := ⟨_, rfl⟩
  rw [hK]
  have HK := Lib.hid hK
  clear hK
  have hi0 : (0 : Int) < (x.size : Int) := by omega
  have hi1 : (1 : Int) < (x.size : Int) := by omega
  go_enter Try.func76, Try.ntmps76
  go_wp2
  go_quiet (fail)
  have hx0 : x.data.toList.getD 0 0 = x[0]'(by omega) := by
    rw [List.getD_eq_getElem?_getD, List.getElem?_eq_getElem (by rw [Array.length_toList]; show 0 < x.size; omega)]; rfl
  have hx1 : x.data.toList.getD 1 0 = x[1]'(by omega) := by
    rw [List.getD_eq_getElem?_getD, List.getElem?_eq_getElem (by rw [Array.length_toList]; show 1 < x.size; omega)]; rfl
  have hsay : saysB x.data.toList = (x[0]'(by omega)).toNat * 256 + (x[1]'(by omega)).toNat := by unfold saysB; rw [hx0, hx1]
  have hlt0 := UInt8.toNat_lt (x[0]'(by omega))
  have hlt1 := UInt8.toNat_lt (x[1]'(by omega))
  clear hx0 hx1
  generalize (x[0]'(by omega)).toNat = A at *
  generalize (x[1]'(by omega)).toNat = C at *
  obtain ⟨hw1, hw2, hw3, hw4, hK6⟩ := says_num A C hlt0 hlt1
  have hKv : K = A * 256 + C := HK.out.symm.trans hsay
  have hor : bits BinOp.or IntKind.i64 ((A : Int) * 256) (C : Int) = (K : Int) := by
    rw [hKv]
    have := bits_or_i64 (A * 256) C (by omega) (by omega)
    rw [or_shift A C hlt1] at this
    rw [← this]
    congr 1
  rw [hw1, hw2, hw3, hor]
  clear hw1 hw2 hw3 hw4 hK6 hor hlt0 hlt1 hi0 hi1 hKv hsay
  have HB0 : Hid (Below w.heap.size w (w.drewN nq)) := Lib.hid (Below.drewS (Below.refl _ _) nq)
  go_wp2
  go_ret
  exact ⟨rfl, HB0.out⟩

set_option maxHeartbeats 4000000 in
set_option maxRecDepth 100000 in
theorem equal_c (u v : Value) (la lb : List ByteArray) (w : World) (hu : StrsIs w u la) (hv : StrsIs w v lb) (hla : la.length ≤ 9223372036854775807) (hlb : lb.length ≤ 9223372036854775807) (b : Bool) (hb : b = true ↔ la = lb) :
    Calls Try.prog 79 #[u, v] w fun e w' => e = .returned (.bool b) ∧ Below w.heap.size w w' := by
  have HBF := Lib.hid hb
  obtain ⟨a1, c1, rfl⟩ := hu.len
  obtain ⟨a2, c2, rfl⟩ := hv.len
  obtain ⟨n, hn⟩ : ∃ n, la.length = n := ⟨_, rfl⟩
  obtain ⟨m, hm⟩ : ∃ m, lb.length = m := ⟨_, rfl⟩
  have HU := Lib.hid hu
  have HV := Lib.hid hv
  have HN := Lib.hid hn
  have HM := Lib.hid hm
  rw [hn] at hla ⊢
  rw [hm] at hlb ⊢
  clear hb hu hv hn hm
  by_cases hnm : n = m
  · subst hnm
    go_enter Try.func79, Try.ntmps79
    go_wp2
    go_loopw [13] (fun iv wr => ∃ i : Nat, i ≤ n ∧ iv = .int .i64 i ∧ la.take i = lb.take i ∧ Below w.heap.size w wr) (fun iv _ => n - (intOf iv).toNat)
    case atStart => exact ⟨0, by omega, rfl, rfl, Below.refl _ _⟩
    case round =>
      obtain ⟨i, hi, rfl, ht, hbw⟩ := hrel
      have HT := Lib.hid ht
      have HBW := Lib.hid hbw
      by_cases hin : i < n
      · have hiz : (i : Int) < (n : Int) := by omega
        obtain ⟨x, hx⟩ : ∃ x, la[i]? = some x := ⟨_, List.getElem?_eq_getElem (by rw [HN.out]; exact hin)⟩
        obtain ⟨y, hy⟩ : ∃ y, lb[i]? = some y := ⟨_, List.getElem?_eq_getElem (by rw [HM.out]; exact hin)⟩
        have hu9 := HU.out.kept hbw
        rw [HN.out] at hu9
        have hv9 := HV.out.kept hbw
        rw [HM.out] at hv9
        obtain ⟨g1, o1, rfl, _, k1⟩ := hu9.at hx
        obtain ⟨g2, o2, rfl, _, k2⟩ := hv9.at hy
        have d1 : wr.drew.cell? ⟨g1, o1 + i, none⟩ = some (.string x) := k1
        have d2 : wr.drew.cell? ⟨g2, o2 + i, none⟩ = some (.string y) := k2
        have HXL := Lib.hid hx
        have HYL := Lib.hid hy
        clear hu9 hv9 ht hbw hx hy
        by_cases hxy : x = y
        · subst hxy
          have HTN : Hid (la.take (i + 1) = lb.take (i + 1)) := Lib.hid (by rw [List.take_add_one, List.take_add_one, HXL.out, HYL.out, HT.out])
          go_wp2
          try (go_quiet (fail); go_wp2)
          go_roundw
          case rel => exact ⟨i + 1, by omega, by first | rfl | go_num, HTN.out, by first | exact HBW.out | exact HBW.out.drew | exact Below.drewS HBW.out _⟩
          case measure => simp [intOf]; omega
        · have hne := toList_ne hxy
          have hbf : b = false := by
            cases b
            · rfl
            · have he := HBF.out.1 rfl
              have h1 := HXL.out
              rw [he, HYL.out] at h1
              exact absurd (Option.some.inj h1).symm hxy
          subst hbf
          clear hxy
          go_wp2
          try (go_quiet (fail); go_wp2)
          go_ret
          exact ⟨rfl, by first | exact HBW.out | exact HBW.out.drew | exact Below.drewS HBW.out _⟩
      · have hge : ¬ ((i : Int) < (n : Int)) := by omega
        have hbt : b = true := HBF.out.2 (by
          have h1 := HT.out
          rwa [List.take_of_length_le (by rw [HN.out]; omega), List.take_of_length_le (by rw [HM.out]; omega)] at h1)
        subst hbt
        clear ht hbw
        go_wp2
        go_ret
        exact ⟨rfl, HBW.out⟩
  · have hbf : b = false := by
      cases b
      · rfl
      · have he := HBF.out.1 rfl
        exact absurd (by rw [← HN.out, ← HM.out, he]) hnm
    subst hbf
    have hnz : ((n : Int) == (m : Int)) = false := by rw [beq_eq_false_iff_ne]; omega
    have hnz2 : (n == m) = false := by rw [beq_eq_false_iff_ne]; exact hnm
    go_enter Try.func79, Try.ntmps79
    go_wp2
    go_ret
    exact ⟨rfl, Below.refl _ _⟩
end Go.Proofs.Ytmpfdmjbgabcdaa
