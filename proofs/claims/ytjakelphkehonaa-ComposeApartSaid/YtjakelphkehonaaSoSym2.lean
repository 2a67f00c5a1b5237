/-
  The contract of the library's symMergeCmpFunc at marks where the second part is one mark: it is put to its place in the first part.
-/
import Derived.Test.YtjakelphkehonaaSoSym1
namespace Go.Proofs.Ytjakelphkehonaa
open Go.RowKit Go.Sort
set_option linter.unusedVariables false

theorem one_left {x : Int} {A1 A2 : List Int} (h : SortedM (A1 ++ A2)) (hx : 0 < classI x) (h1 : ∀ y ∈ A1, classI y ≤ classI x) (h2 : ∀ y ∈ A2, classI x < classI y) : SwapsM classI ((A1 ++ A2) ++ [x]) (A1 ++ x :: A2) ∧ SortedM (A1 ++ x :: A2) := by
  refine ⟨?_, ?_⟩
  · have := (SwapsM.rotate (c := classI) A2 [x] (fun y hy z hz => by simp at hz; subst hz; exact wrong_yes classI ⟨hx, h2 y hy⟩)).within A1 []
    simpa using this
  · unfold SortedM at *
    rw [List.pairwise_append] at h ⊢
    refine ⟨h.1, by rw [List.pairwise_cons]; exact ⟨fun y hy => by have := h2 y hy; omega, h.2.1⟩, ?_⟩
    intro a ha b hb
    rcases List.mem_cons.1 hb with rfl | hb
    · exact h1 a ha
    · exact h.2.2 a ha b hb

def FindRelR (w : World) (g off : Nat) (L : List Int) (lo hi : Nat) (A : List Int) (x : Int) (iv jv : Value) (wr : World) : Prop :=
  ∃ i j k, iv = .int .i64 (i : Nat) ∧ jv = .int .i64 (j : Nat) ∧ lo ≤ i ∧ i ≤ j ∧ j ≤ hi ∧ (∀ t, lo + t < i → classI (A.getD t 0) ≤ classI x) ∧ (∀ t, j ≤ lo + t → lo + t < hi → classI x < classI (A.getD t 0)) ∧ wr = RW w g off L k
def MoveRelR (w : World) (g off a : Nat) (P A1 A2 T : List Int) (x : Int) (kv : Value) (wr : World) : Prop :=
  ∃ (Aa Ab : List Int) (k : Nat), A2 = Aa ++ Ab ∧ kv = .int .i64 (a + A1.length + Aa.length : Nat) ∧ wr = RW w g off (P ++ (A1 ++ (Aa ++ x :: (Ab ++ T)))) k

set_option maxHeartbeats 4000000 in
set_option maxRecDepth 100000 in
theorem sym_right (w : World) (g off cap N : Nat) (L0 : List Int) (hH : Holds encI w g off L0.toArray) (hN : L0.length = N) (hsz : N < 1000000) (P A T : List Int) (x : Int) (hA2 : 2 ≤ A.length) (hpos : 0 < classI x) (hsort : SortedM A) (hL : (P ++ (A ++ x :: T)).length = N) (a M b : Nat) (ha : P.length = a) (hM : a + A.length = M) (hb : M + 1 = b) (m : Nat) :
    Calls Try.prog 46 #[.slice (some ⟨g, off, none⟩) N cap, .int .i64 a, .int .i64 M, .int .i64 b, cmpV] (RW w g off (P ++ (A ++ x :: T)) m)
      fun e w' => e = .returned (.tuple #[]) ∧ SortPost w g off P (A ++ [x]) T w' := by
  have hlen := hL
  simp only [List.length_append, List.length_cons] at hlen
  rw [ha] at hlen
  have hbN : b ≤ N := by omega
  have HH := Lib.hid hH
  have HN := Lib.hid hN
  have HL := Lib.hid hL
  have HB := Lib.hid hM
  have HPA := Lib.hid ha
  have HP := Lib.hid hpos
  have HS := Lib.hid hsort
  obtain ⟨W0, hW0⟩ : ∃ W0, RW w g off (P ++ (A ++ x :: T)) m = W0 := ⟨_, rfl⟩
  rw [hW0]
  have HF : Hid (FindRelR w g off (P ++ (A ++ x :: T)) a M A x (.int .i64 a) (.int .i64 M) W0) := Lib.hid ⟨a, M, m, rfl, rfl, by omega, by omega, by omega, fun t ht => by omega, fun t h1 h2 => by omega, hW0.symm⟩
  obtain ⟨n, hn⟩ : ∃ n, A.length = n := ⟨_, rfl⟩
  have wm : IntKind.i64.wrap ((M : Int) - (a : Int)) = (n : Int) := by rw [IntKind.wrap_i64]; omega
  have wm1 : ((n : Int) == 1) = false := by rw [beq_eq_false_iff_ne]; omega
  have wb : IntKind.i64.wrap ((b : Int) - (M : Int)) = 1 := by rw [IntKind.wrap_i64]; omega
  have hM0 : a < M := by omega
  have hMb : M < b := by omega
  clear hH hN hL hM hpos hsort hW0 hlen ha hb hn hA2
  go_enter Try.func46, Try.ntmps46
  go_wp2
  clear wm wb wm1
  go_loopw [14, 15] (fun iv jv wr => FindRelR w g off (P ++ (A ++ x :: T)) a M A x iv jv wr) (fun iv jv _ => (intOf jv).toNat - (intOf iv).toNat)
  case atStart => exact HF.out
  case round =>
    obtain ⟨i, j, k, rfl, rfl, hi0, hij, hjb, hlo, hhi, rfl⟩ := hrel
    have HLO := Lib.hid hlo
    have HHI := Lib.hid hhi
    clear hlo hhi
    by_cases hlt : i < j
    · obtain ⟨h, hh⟩ : ∃ h, (i + j) / 2 = h := ⟨_, rfl⟩
      have hih : i ≤ h := by omega
      have hhj : h < j := by omega
      have wh : ((i : Int) + (j : Int)) / 2 = (h : Int) := by omega
      obtain ⟨d, hd⟩ : ∃ d, a + d = h := ⟨h - a, by omega⟩
      have hdB : d < A.length := by have := HB.out; omega
      obtain ⟨y, hy⟩ : ∃ y, A.getD d 0 = y := ⟨_, rfl⟩
      obtain ⟨wq, hwq⟩ : ∃ wq, RW w g off (P ++ (A ++ x :: T)) k = wq := ⟨_, rfl⟩
      rw [hwq]
      have k1 := RW_cell (m := k) (i := M) HH.out (by rw [HL.out, HN.out]) (by rw [HL.out]; omega)
      have k2 := RW_cell (m := k) (i := h) HH.out (by rw [HL.out, HN.out]) (by rw [HL.out]; omega)
      have v1 : (P ++ (A ++ x :: T)).getD M 0 = x := by
        have := getD_mid (P ++ A) T x
        rw [List.length_append, HPA.out, HB.out] at this
        rw [← List.append_assoc]; exact this
      have v2 : (P ++ (A ++ x :: T)).getD h 0 = y := by
        have := row_at P A (x :: T) d hdB
        rw [HPA.out, hd, hy] at this
        exact this
      rw [v1, hwq] at k1
      rw [v2, hwq] at k2
      obtain ⟨c1, f1⟩ := k1
      obtain ⟨c2, f2⟩ := k2
      have hC := fun w => cmp_c x y w
      obtain ⟨bx0, bx1⟩ := class_bounds x
      obtain ⟨by0, by1⟩ := class_bounds y
      have HQ : ∀ q, Hid (wq.drewN q = RW w g off (P ++ (A ++ x :: T)) (k + q)) := fun q => Lib.hid (by rw [← hwq, RW_drew])
      have ijz : (i : Int) < (j : Int) := by omega
      have p1 : (h : Int) < (N : Int) := by omega
      have p2 : (M : Int) < (N : Int) := by omega
      have wij : IntKind.i64.wrap ((i : Int) + (j : Int)) = (i : Int) + (j : Int) := by rw [IntKind.wrap_i64]; omega
      by_cases hyx : classI x < classI y
      · have hlt0 : classI x - classI y < 0 := by omega
        have HR : ∀ q, Hid (FindRelR w g off (P ++ (A ++ x :: T)) a M A x (.int .i64 i) (.int .i64 h) (RW w g off (P ++ (A ++ x :: T)) q)) := fun q =>
          Lib.hid ⟨i, h, q, rfl, rfl, by omega, by omega, by omega, HLO.out, fun t h1 h2 => by
            have := sorted_at HS.out d t (by omega) (by have := HB.out; omega)
            rw [hy] at this; omega, rfl⟩
        clear hwq v1 v2 hy hd hdB hh
        generalize classI x = cx at *
        generalize classI y = cy at *
        go_wp2_with fail
        go_quiet ((go_at_call 40; exact Calls.quiet_of_same ((hC _).mono fun _ _ h => ⟨h.1, h.2⟩)))
        go_wp2
        go_roundw
        case rel =>
          rw [(HQ _).out]
          exact (HR _).out
        case measure => simp [intOf]; omega
      · have hge0 : ¬ (classI x - classI y < 0) := by omega
        have hge1 : (0 : Int) ≤ classI x - classI y := by omega
        have hge2 : classI y ≤ classI x := by omega
        have hge3 : decide (classI x - classI y < 0) = false := decide_eq_false hge0
        have HR : ∀ q, Hid (FindRelR w g off (P ++ (A ++ x :: T)) a M A x (.int .i64 ((h + 1 : Nat) : Int)) (.int .i64 j) (RW w g off (P ++ (A ++ x :: T)) q)) := fun q =>
          Lib.hid ⟨h + 1, j, q, rfl, rfl, by omega, by omega, hjb, fun t ht => by
            have := sorted_at HS.out t d (by omega) hdB
            rw [hy] at this; omega, HHI.out, rfl⟩
        clear hwq v1 v2 hy hd hdB hh
        generalize classI x = cx at *
        generalize classI y = cy at *
        go_wp2_with fail
        go_quiet ((go_at_call 40; exact Calls.quiet_of_same ((hC _).mono fun _ _ h => ⟨h.1, h.2⟩)))
        go_wp2
        go_roundw
        case rel =>
          rw [(HQ _).out]
          exact (HR _).out
        case measure => simp [intOf]; omega
    · have hji : j = i := by omega
      subst hji
      obtain ⟨s, hs⟩ : ∃ s, a + s = j := ⟨j - a, by omega⟩
      have hsB : s ≤ A.length := by have := HB.out; omega
      obtain ⟨A1, hA1⟩ : ∃ A1, A.take s = A1 := ⟨_, rfl⟩
      obtain ⟨A2, hA2⟩ : ∃ A2, A.drop s = A2 := ⟨_, rfl⟩
      have hAA : A = A1 ++ A2 := by rw [← hA1, ← hA2, List.take_append_drop]
      have l1 : A1.length = s := by rw [← hA1, List.length_take]; omega
      have q1 : ∀ y ∈ A1, classI y ≤ classI x := fun y hy => by
        rw [← hA1] at hy
        obtain ⟨t, h1, h2, rfl⟩ := mem_take_getD hy
        exact HLO.out t (by omega)
      have q2 : ∀ y ∈ A2, classI x < classI y := fun y hy => by
        rw [← hA2] at hy
        obtain ⟨t, h1, h2, rfl⟩ := mem_drop_getD hy
        exact HHI.out t (by omega) (by have := HB.out; omega)
      have hone := one_left (x := x) (by rw [← hAA]; exact HS.out) HP.out q1 q2
      rw [← hAA] at hone
      have HONE : ∀ q, Hid (SortPost w g off P (A ++ [x]) T (RW w g off (P ++ (A1 ++ x :: (A2 ++ T))) q)) := fun q => Lib.hid ⟨A1 ++ x :: A2, q, hone.1, hone.2, by simp⟩
      have HBB := Lib.hid hAA
      have HL1 := Lib.hid l1
      have HS1 := Lib.hid hs
      have HA2 : Hid (s + A2.length = A.length) := Lib.hid (by rw [hAA, List.length_append, l1])
      obtain ⟨W1, hW1⟩ : ∃ W1, RW w g off (P ++ (A ++ x :: T)) k = W1 := ⟨_, rfl⟩
      rw [hW1]
      have HMV : Hid (MoveRelR w g off a P A1 A2 T x (.int .i64 M) W1) := Lib.hid ⟨A2, [], k, by simp, by rw [l1, Nat.add_assoc, HA2.out, HB.out], by rw [← hW1, hAA]; simp⟩
      have hjN : j ≤ N := by omega
      clear hA1 hA2 hAA l1 q1 q2 hone hW1 hsB hs
      go_wp2
      go_loopw [17] (fun kv wr => MoveRelR w g off a P A1 A2 T x kv wr) (fun kv _ => (intOf kv).toNat)
      case atStart => exact HMV.out
      case round =>
        obtain ⟨Aa, Ab, kk, hab, rfl, rfl⟩ := hrel
        have hlab := congrArg List.length hab
        rw [List.length_append] at hlab
        rw [HL1.out, HS1.out]
        rcases List.eq_nil_or_concat Aa with h0 | ⟨Ac, y, h0⟩
        · subst h0
          have HX : Hid (SortPost w g off P (A ++ [x]) T (RW w g off (P ++ (A1 ++ ([] ++ x :: (Ab ++ T)))) kk)) := Lib.hid (by
            have := (HONE kk).out
            rw [hab] at this
            simpa using this)
          rw [show j + ([] : List Int).length = j from rfl]
          clear hlab hab
          go_wp2
          (try simp only [Exit.inBlock, Exit.then])
          refine bodyPost_ret (results_none rfl _ _ _) rfl ?_
          exact ⟨rfl, HX.out⟩
        · rw [List.concat_eq_append] at h0
          subst h0
          rw [List.length_append, List.length_singleton] at hlab
          obtain ⟨u, hu⟩ : ∃ u, Ac.length = u := ⟨_, rfl⟩
          obtain ⟨z, hz⟩ : ∃ z, j + u = z := ⟨_, rfl⟩
          rw [show j + (Ac ++ [y]).length = z + 1 by rw [List.length_append, hu, List.length_singleton]; omega]
          have e1 : P ++ (A1 ++ ((Ac ++ [y]) ++ x :: (Ab ++ T))) = (P ++ (A1 ++ Ac)) ++ y :: x :: (Ab ++ T) := by simp
          have l1 : (P ++ (A1 ++ Ac)).length = z := by rw [List.length_append, List.length_append, HPA.out, HL1.out, hu, ← Nat.add_assoc, HS1.out, hz]
          have hzM : z + 1 ≤ M := by have := HA2.out; have := HB.out; have := HS1.out; omega
          have ll : ((P ++ (A1 ++ Ac)) ++ y :: x :: (Ab ++ T)).length = L0.length := by
            rw [HN.out, ← HL.out, HBB.out, hab]; simp; omega
          obtain ⟨wq, hwq⟩ : ∃ wq, RW w g off (P ++ (A1 ++ ((Ac ++ [y]) ++ x :: (Ab ++ T)))) kk = wq := ⟨_, rfl⟩
          rw [hwq]
          rw [e1] at hwq
          have k1 := RW_cell (m := kk) (i := z) HH.out ll (by rw [ll, HN.out]; omega)
          have k2 := RW_cell (m := kk) (i := z + 1) HH.out ll (by rw [ll, HN.out]; omega)
          have v1 : ((P ++ (A1 ++ Ac)) ++ y :: x :: (Ab ++ T)).getD z 0 = y := by rw [← l1]; exact getD_mid _ _ y
          have v2 : ((P ++ (A1 ++ Ac)) ++ y :: x :: (Ab ++ T)).getD (z + 1) 0 = x := by rw [← l1]; exact getD_two (P ++ (A1 ++ Ac)) [] _ y x
          rw [v1, hwq] at k1
          rw [v2, hwq] at k2
          obtain ⟨z1, hz1⟩ : ∃ z1, z + 1 = z1 := ⟨_, rfl⟩
          have HSW : Hid ((((wq).setCell ⟨g, off + z1, none⟩ (.int .i32 y)).setCell ⟨g, off + z, none⟩ (.int .i32 x)).drew = RW w g off (P ++ (A1 ++ (Ac ++ x :: ((y :: Ab) ++ T)))) (kk + 1)) := by
            refine Lib.hid ?_
            have h := RW_swap w g off ((P ++ (A1 ++ Ac)) ++ y :: x :: (Ab ++ T)) kk (z + 1) z (by rw [ll, HN.out]; omega) (by rw [ll, HN.out]; omega)
            rw [v1, v2, swpL_comm _ (show z + 1 ≠ z by omega), ← l1, swpL_next, l1, hwq, hz1] at h
            rw [h]
            congr 1
            simp
          have HR : Hid (MoveRelR w g off a P A1 A2 T x (.int .i64 z) (RW w g off (P ++ (A1 ++ (Ac ++ x :: ((y :: Ab) ++ T)))) (kk + 1))) := Lib.hid ⟨Ac, y :: Ab, kk + 1, by rw [hab]; simp, by rw [HL1.out, HS1.out, hu, hz], rfl⟩
          rw [hz1] at k2
          rw [hz1]
          obtain ⟨c1, f1⟩ := k1
          obtain ⟨c2, f2⟩ := k2
          have wz : IntKind.i64.wrap ((z1 : Int) - 1) = (z : Int) := by rw [IntKind.wrap_i64]; omega
          have hne : z ≠ z1 := by omega
          have hne' : z1 ≠ z := by omega
          have p1 : (z : Int) < (N : Int) := by omega
          have p2 : (z1 : Int) < (N : Int) := by omega
          have hjz : (j : Int) < (z1 : Int) := by omega
          have hzz : z < z1 := by omega
          clear hwq e1 l1 ll v1 v2 hlab hab hu hz hz1
          go_wp2_with fail
          go_big_region
          all_goals go_wp2
          all_goals exact ⟨by rw [HSW.out]; exact HR.out, by simp [intOf]; omega⟩
end Go.Proofs.Ytjakelphkehonaa
