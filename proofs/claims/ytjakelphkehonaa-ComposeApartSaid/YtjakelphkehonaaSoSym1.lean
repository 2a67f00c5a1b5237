/-
  The contract of the library's symMergeCmpFunc at marks where the first part is one mark: it is put to its place in the second part.
-/
import Derived.Test.YtjakelphkehonaaSoIns
namespace Go.Proofs.Ytjakelphkehonaa
open Go.RowKit Go.Sort
set_option linter.unusedVariables false

theorem sorted_at {B : List Int} (h : SortedM B) (s t : Nat) (hst : s ≤ t) (ht : t < B.length) : classI (B.getD s 0) ≤ classI (B.getD t 0) := by
  by_cases e : s = t
  · subst e; omega
  · unfold SortedM at h
    rw [List.pairwise_iff_getElem] at h
    have := h s t (by omega) ht (by omega)
    simpa [List.getD_eq_getElem?_getD, List.getElem?_eq_getElem ht, List.getElem?_eq_getElem (show s < B.length by omega)] using this
theorem getD_take {B : List Int} {i t : Nat} (h : t < i) : (B.take i).getD t 0 = B.getD t 0 := by
  simp [List.getD_eq_getElem?_getD, h]
theorem getD_drop {B : List Int} {i t : Nat} : (B.drop i).getD t 0 = B.getD (i + t) 0 := by
  simp [List.getD_eq_getElem?_getD]
theorem mem_getD {B : List Int} {y : Int} (h : y ∈ B) : ∃ t, t < B.length ∧ B.getD t 0 = y := by
  obtain ⟨t, ht, e⟩ := List.getElem_of_mem h
  exact ⟨t, ht, by simp [List.getD_eq_getElem?_getD, List.getElem?_eq_getElem ht, e]⟩
theorem mem_take_getD {B : List Int} {i : Nat} {y : Int} (h : y ∈ B.take i) : ∃ t, t < i ∧ t < B.length ∧ B.getD t 0 = y := by
  obtain ⟨t, ht, e⟩ := mem_getD h
  rw [List.length_take] at ht
  exact ⟨t, by omega, by omega, by rw [← e, getD_take (by omega)]⟩
theorem mem_drop_getD {B : List Int} {i : Nat} {y : Int} (h : y ∈ B.drop i) : ∃ t, i ≤ t ∧ t < B.length ∧ B.getD t 0 = y := by
  obtain ⟨t, ht, e⟩ := mem_getD h
  rw [List.length_drop] at ht
  exact ⟨i + t, by omega, by omega, by rw [← e, getD_drop]⟩
/-- One mark among those in order: all before it of a lower class, none behind it. -/
theorem one_in {x : Int} {B1 B2 : List Int} (h : SortedM (B1 ++ B2)) (hx : PosM (B1 ++ B2)) (h1 : ∀ y ∈ B1, classI y < classI x) (h2 : ∀ y ∈ B2, classI x ≤ classI y) : SwapsM classI (x :: (B1 ++ B2)) (B1 ++ x :: B2) ∧ SortedM (B1 ++ x :: B2) := by
  refine ⟨SwapsM.one B1 (fun y hy => wrong_yes classI ⟨hx y (by simp [hy]), h1 y hy⟩) B2, ?_⟩
  unfold SortedM at *
  rw [List.pairwise_append] at h ⊢
  refine ⟨h.1, by rw [List.pairwise_cons]; exact ⟨h2, h.2.1⟩, ?_⟩
  intro a ha b hb
  rcases List.mem_cons.1 hb with rfl | hb
  · have := h1 a ha; omega
  · exact h.2.2 a ha b hb

theorem row_at (P A T : List Int) (d : Nat) (h : d < A.length) : (P ++ (A ++ T)).getD (P.length + d) 0 = A.getD d 0 := by
  simp only [List.getD_eq_getElem?_getD]
  rw [List.getElem?_append_right (by omega), Nat.add_sub_cancel_left, List.getElem?_append_left h]
def FindRel (w : World) (g off : Nat) (L : List Int) (lo hi : Nat) (B : List Int) (x : Int) (iv jv : Value) (wr : World) : Prop :=
  ∃ i j k, iv = .int .i64 (i : Nat) ∧ jv = .int .i64 (j : Nat) ∧ lo ≤ i ∧ i ≤ j ∧ j ≤ hi ∧ (∀ t, lo + t < i → classI (B.getD t 0) < classI x) ∧ (∀ t, j ≤ lo + t → lo + t < hi → classI x ≤ classI (B.getD t 0)) ∧ wr = RW w g off L k
def MoveRel (w : World) (g off a : Nat) (P B1 R : List Int) (x : Int) (kv : Value) (wr : World) : Prop :=
  ∃ (Ba Bb : List Int) (k : Nat), B1 = Ba ++ Bb ∧ kv = .int .i64 (a + Ba.length : Nat) ∧ wr = RW w g off (P ++ (Ba ++ x :: (Bb ++ R))) k

set_option maxHeartbeats 4000000 in
set_option maxRecDepth 100000 in
theorem sym_left (w : World) (g off cap N : Nat) (L0 : List Int) (hH : Holds encI w g off L0.toArray) (hN : L0.length = N) (hsz : N < 1000000) (P B T : List Int) (x : Int) (hpos : PosM B) (hsort : SortedM B) (hL : (P ++ (x :: (B ++ T))).length = N) (a M b : Nat) (ha : P.length = a) (hM : a + 1 = M) (hb : M + B.length = b) (m : Nat) :
    Calls Try.prog 46 #[.slice (some ⟨g, off, none⟩) N cap, .int .i64 a, .int .i64 M, .int .i64 b, cmpV] (RW w g off (P ++ (x :: (B ++ T))) m)
      fun e w' => e = .returned (.tuple #[]) ∧ SortPost w g off P (x :: B) T w' := by
  have hlen := hL
  simp only [List.length_append, List.length_cons] at hlen
  rw [ha] at hlen
  have hbN : b ≤ N := by omega
  have HH := Lib.hid hH
  have HN := Lib.hid hN
  have HL := Lib.hid hL
  have HB := Lib.hid hb
  have HPA := Lib.hid ha
  have HP := Lib.hid hpos
  have HS := Lib.hid hsort
  obtain ⟨W0, hW0⟩ : ∃ W0, RW w g off (P ++ (x :: (B ++ T))) m = W0 := ⟨_, rfl⟩
  rw [hW0]
  have HF : Hid (FindRel w g off (P ++ (x :: (B ++ T))) M b B x (.int .i64 M) (.int .i64 b) W0) := Lib.hid ⟨M, b, m, rfl, rfl, by omega, by omega, by omega, fun t ht => by omega, fun t h1 h2 => by omega, hW0.symm⟩
  have wm : IntKind.i64.wrap ((M : Int) - (a : Int)) = 1 := by rw [IntKind.wrap_i64]; omega
  have hM0 : a < M := by omega
  have HMA := Lib.hid hM
  have hMb : M ≤ b := by omega
  clear hH hN hL hb hpos hsort hW0 hlen ha hM
  go_enter Try.func46, Try.ntmps46
  go_wp2
  clear wm
  go_loopw [10, 11] (fun iv jv wr => FindRel w g off (P ++ (x :: (B ++ T))) M b B x iv jv wr) (fun iv jv _ => (intOf jv).toNat - (intOf iv).toNat)
  case atStart => exact HF.out
  case round =>
    obtain ⟨i, j, k, rfl, rfl, hi0, hij, hjb, hlo, hhi, rfl⟩ := hrel
    have HLO := Lib.hid hlo
    have HHI := Lib.hid hhi
    clear hlo hhi
    by_cases hlt : i < j
    · obtain ⟨h, hh⟩ : ∃ h, (i + j) / 2 = h := ⟨_, rfl⟩
      have hih : i ≤ h := by omega
      have hhj : h < j := by omega
      have wh : ((i : Int) + (j : Int)) / 2 = (h : Int) := by omega
      obtain ⟨d, hd⟩ : ∃ d, M + d = h := ⟨h - M, by omega⟩
      have hdB : d < B.length := by have := HB.out; omega
      obtain ⟨y, hy⟩ : ∃ y, B.getD d 0 = y := ⟨_, rfl⟩
      obtain ⟨wq, hwq⟩ : ∃ wq, RW w g off (P ++ (x :: (B ++ T))) k = wq := ⟨_, rfl⟩
      rw [hwq]
      have k1 := RW_cell (m := k) (i := a) HH.out (by rw [HL.out, HN.out]) (by rw [HL.out]; omega)
      have k2 := RW_cell (m := k) (i := h) HH.out (by rw [HL.out, HN.out]) (by rw [HL.out]; omega)
      have v1 : (P ++ (x :: (B ++ T))).getD a 0 = x := by rw [← HPA.out]; exact getD_mid _ _ x
      have v2 : (P ++ (x :: (B ++ T))).getD h 0 = y := by
        have := row_at (P ++ [x]) B T d hdB
        rw [List.length_append, HPA.out, List.length_singleton, HMA.out, hd, hy] at this
        rw [← this]; simp
      rw [v1, hwq] at k1
      rw [v2, hwq] at k2
      obtain ⟨c1, f1⟩ := k1
      obtain ⟨c2, f2⟩ := k2
      have hC := fun w => cmp_c y x w
      obtain ⟨bx0, bx1⟩ := class_bounds x
      obtain ⟨by0, by1⟩ := class_bounds y
      have HQ : ∀ q, Hid (wq.drewN q = RW w g off (P ++ (x :: (B ++ T))) (k + q)) := fun q => Lib.hid (by rw [← hwq, RW_drew])
      have ijz : (i : Int) < (j : Int) := by omega
      have p1 : (h : Int) < (N : Int) := by omega
      have p2 : (a : Int) < (N : Int) := by omega
      have wij : IntKind.i64.wrap ((i : Int) + (j : Int)) = (i : Int) + (j : Int) := by rw [IntKind.wrap_i64]; omega
      by_cases hyx : classI y < classI x
      · have hlt0 : classI y - classI x < 0 := by omega
        have HR : ∀ q, Hid (FindRel w g off (P ++ (x :: (B ++ T))) M b B x (.int .i64 ((h + 1 : Nat) : Int)) (.int .i64 j) (RW w g off (P ++ (x :: (B ++ T))) q)) := fun q =>
          Lib.hid ⟨h + 1, j, q, rfl, rfl, by omega, by omega, hjb, fun t ht => by
            have := sorted_at HS.out t d (by omega) hdB
            rw [hy] at this; omega, HHI.out, rfl⟩
        clear hwq v1 v2 hy hd hdB hh
        generalize classI x = cx at *
        generalize classI y = cy at *
        go_wp2_with fail
        go_quiet ((go_at_call 40; exact Calls.quiet_of_same ((hC _).mono fun _ _ h => ⟨h.1, h.2⟩)))
        go_wp2
        go_roundw
        case rel =>
          rw [(HQ _).out]
          exact (HR _).out
        case measure => simp [intOf]; omega
      · have hge0 : ¬ (classI y - classI x < 0) := by omega
        have HR : ∀ q, Hid (FindRel w g off (P ++ (x :: (B ++ T))) M b B x (.int .i64 i) (.int .i64 h) (RW w g off (P ++ (x :: (B ++ T))) q)) := fun q =>
          Lib.hid ⟨i, h, q, rfl, rfl, by omega, by omega, by omega, HLO.out, fun t h1 h2 => by
            have := sorted_at HS.out d t (by omega) (by have := HB.out; omega)
            rw [hy] at this; omega, rfl⟩
        clear hwq v1 v2 hy hd hdB hh
        generalize classI x = cx at *
        generalize classI y = cy at *
        go_wp2_with fail
        go_quiet ((go_at_call 40; exact Calls.quiet_of_same ((hC _).mono fun _ _ h => ⟨h.1, h.2⟩)))
        go_wp2
        go_roundw
        case rel =>
          rw [(HQ _).out]
          exact (HR _).out
        case measure => simp [intOf]; omega
    · have hji : j = i := by omega
      subst hji
      obtain ⟨s, hs⟩ : ∃ s, M + s = j := ⟨j - M, by omega⟩
      have hsB : s ≤ B.length := by have := HB.out; omega
      obtain ⟨B1, hB1⟩ : ∃ B1, B.take s = B1 := ⟨_, rfl⟩
      obtain ⟨B2, hB2⟩ : ∃ B2, B.drop s = B2 := ⟨_, rfl⟩
      have hBB : B = B1 ++ B2 := by rw [← hB1, ← hB2, List.take_append_drop]
      have l1 : B1.length = s := by rw [← hB1, List.length_take]; omega
      have q1 : ∀ y ∈ B1, classI y < classI x := fun y hy => by
        rw [← hB1] at hy
        obtain ⟨t, h1, h2, rfl⟩ := mem_take_getD hy
        exact HLO.out t (by omega)
      have q2 : ∀ y ∈ B2, classI x ≤ classI y := fun y hy => by
        rw [← hB2] at hy
        obtain ⟨t, h1, h2, rfl⟩ := mem_drop_getD hy
        exact HHI.out t (by omega) (by have := HB.out; omega)
      have hone := one_in (x := x) (by rw [← hBB]; exact HS.out) (by rw [← hBB]; exact HP.out) q1 q2
      rw [← hBB] at hone
      have HONE : ∀ q, Hid (SortPost w g off P (x :: B) T (RW w g off (P ++ (B1 ++ x :: (B2 ++ T))) q)) := fun q => Lib.hid ⟨B1 ++ x :: B2, q, hone.1, hone.2, by simp⟩
      have HBB := Lib.hid hBB
      have HL1 := Lib.hid l1
      have HS1 := Lib.hid hs
      obtain ⟨W1, hW1⟩ : ∃ W1, RW w g off (P ++ (x :: (B ++ T))) k = W1 := ⟨_, rfl⟩
      rw [hW1]
      have HMV : Hid (MoveRel w g off a P B1 (B2 ++ T) x (.int .i64 a) W1) := Lib.hid ⟨[], B1, k, rfl, rfl, by rw [← hW1, hBB]; simp⟩
      have wj : IntKind.i64.wrap ((j : Int) - 1) = (j : Int) - 1 := by rw [IntKind.wrap_i64]; omega
      have hj1 : 1 ≤ j := by omega
      have hjN : j ≤ N := by omega
      clear hB1 hB2 hBB l1 q1 q2 hone hW1 hsB hs
      go_wp2
      go_loopw [13] (fun kv wr => MoveRel w g off a P B1 (B2 ++ T) x kv wr) (fun kv _ => j - (intOf kv).toNat)
      case atStart => exact HMV.out
      case round =>
        obtain ⟨Ba, Bb, kk, hab, rfl, rfl⟩ := hrel
        obtain ⟨u, hu⟩ : ∃ u, Ba.length = u := ⟨_, rfl⟩
        rw [hu]
        obtain ⟨z, hz⟩ : ∃ z, a + u = z := ⟨_, rfl⟩
        rw [hz]
        have hlab := congrArg List.length hab
        rw [List.length_append, HL1.out, hu] at hlab
        cases Bb with
        | nil =>
          have hzj : z = j - 1 := by
            have := HS1.out; have := HMA.out
            simp at hlab; omega
          have hge : ¬ ((z : Int) < (j : Int) - 1) := by omega
          have HX : Hid (SortPost w g off P (x :: B) T (RW w g off (P ++ (Ba ++ x :: ([] ++ (B2 ++ T)))) kk)) := Lib.hid (by
            have := (HONE kk).out
            rw [hab] at this
            simpa using this)
          clear hzj hlab hab hu hz
          go_wp2
          (try simp only [Exit.inBlock, Exit.then])
          refine bodyPost_ret (results_none rfl _ _ _) rfl ?_
          exact ⟨rfl, HX.out⟩
        | cons y Bb =>
          simp only [List.length_cons] at hlab
          have hzj : z < j - 1 := by
            have := HS1.out; have := HMA.out; omega
          have hzjz : (z : Int) < (j : Int) - 1 := by omega
          have e1 : P ++ (Ba ++ x :: (y :: Bb ++ (B2 ++ T))) = (P ++ Ba) ++ x :: y :: (Bb ++ (B2 ++ T)) := by simp
          have l1 : (P ++ Ba).length = z := by rw [List.length_append, HPA.out, hu, hz]
          have ll : ((P ++ Ba) ++ x :: y :: (Bb ++ (B2 ++ T))).length = L0.length := by
            rw [HN.out, ← HL.out, HBB.out, hab]; simp; omega
          obtain ⟨wq, hwq⟩ : ∃ wq, RW w g off (P ++ (Ba ++ x :: (y :: Bb ++ (B2 ++ T)))) kk = wq := ⟨_, rfl⟩
          rw [hwq]
          rw [e1] at hwq
          have k1 := RW_cell (m := kk) (i := z) HH.out ll (by rw [ll, HN.out]; omega)
          have k2 := RW_cell (m := kk) (i := z + 1) HH.out ll (by rw [ll, HN.out]; omega)
          have v1 : ((P ++ Ba) ++ x :: y :: (Bb ++ (B2 ++ T))).getD z 0 = x := by rw [← l1]; exact getD_mid _ _ x
          have v2 : ((P ++ Ba) ++ x :: y :: (Bb ++ (B2 ++ T))).getD (z + 1) 0 = y := by rw [← l1]; exact getD_two (P ++ Ba) [] _ x y
          rw [v1, hwq] at k1
          rw [v2, hwq] at k2
          obtain ⟨z1, hz1⟩ : ∃ z1, z + 1 = z1 := ⟨_, rfl⟩
          have HSW : Hid ((((wq).setCell ⟨g, off + z, none⟩ (.int .i32 y)).setCell ⟨g, off + z1, none⟩ (.int .i32 x)).drew = RW w g off (P ++ ((Ba ++ [y]) ++ x :: (Bb ++ (B2 ++ T)))) (kk + 1)) := by
            refine Lib.hid ?_
            have h := RW_swap w g off ((P ++ Ba) ++ x :: y :: (Bb ++ (B2 ++ T))) kk z (z + 1) (by rw [ll, HN.out]; omega) (by rw [ll, HN.out]; omega)
            rw [v1, v2, ← l1, swpL_next, l1, hwq, hz1] at h
            rw [h]
            congr 1
            simp
          rw [hz1] at k2
          obtain ⟨c1, f1⟩ := k1
          obtain ⟨c2, f2⟩ := k2
          have wz : IntKind.i64.wrap ((z : Int) + 1) = (z1 : Int) := by rw [IntKind.wrap_i64]; omega
          have hne : z ≠ z1 := by omega
          have hne' : z1 ≠ z := by omega
          have p1 : (z : Int) < (N : Int) := by omega
          have p2 : (z1 : Int) < (N : Int) := by omega
          have HR : Hid (MoveRel w g off a P B1 (B2 ++ T) x (.int .i64 z1) (RW w g off (P ++ ((Ba ++ [y]) ++ x :: (Bb ++ (B2 ++ T)))) (kk + 1))) := Lib.hid ⟨Ba ++ [y], Bb, kk + 1, by rw [hab]; simp, by rw [List.length_append, hu, List.length_singleton, ← Nat.add_assoc, hz, hz1], rfl⟩
          have hzz : j - z1 < j - z := by omega
          clear hwq e1 l1 ll v1 v2 hlab hab hu hz hz1
          go_wp2_with fail
          go_big_region
          all_goals go_wp2
          all_goals exact ⟨by rw [HSW.out]; exact HR.out, by simp [intOf]; omega⟩
end Go.Proofs.Ytjakelphkehonaa
