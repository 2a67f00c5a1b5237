/- Kit. -/
import Derived.Test.YtfioknaadbgjlaaGreatDoorProg
import Derived.Test.YtfioknaadbgjlaaGreatDoorEK1
import Derived.WalkKit
import Derived.WalkSpells
import Derived.IntWalk
import Derived.LoopTactic
import Derived.Lib.Hide
import Derived.Deep.QuietTactic
import Derived.Sort.WalkC
import Derived.Deep.LoopGhost
import Derived.BigQuiet
import Derived.BigRegion
import Derived.Handy
set_option maxRecDepth 100000
set_option linter.unusedVariables false
set_option linter.unusedSimpArgs false
namespace Go.Proofs.YtfioknaadbgjlaaGreatDoor.F
open Go.RowKit
def classB (r : Int) : Int := if (768 ≤ r ∧ r ≤ 772) ∨ (774 ≤ r ∧ r ≤ 776) ∨ (778 ≤ r ∧ r ≤ 780) then 230 else if r = 807 ∨ r = 808 then 202 else 0
theorem class_near : ∀ k : Nat, k < 41 → classI (768 + (k : Int)) = classB (768 + (k : Int)) := by decide +kernel
theorem class_is (r : Int) : classI r = classB r := by
  by_cases h : r < 768 ∨ 808 < r
  · rw [classI_far h]
    unfold classB
    rw [if_neg (by omega), if_neg (by omega)]
  · obtain ⟨k, hk⟩ : ∃ k : Nat, r = 768 + (k : Int) := ⟨(r - 768).toNat, by omega⟩
    rw [hk]
    exact class_near k (by omega)
set_option maxHeartbeats 1000000 in
theorem cls_c (r : Int) (w : World) : Calls Tryz.prog 100 #[.int .i32 r] w fun e w' => e = .returned (.int .i64 (classI r)) ∧ w' = w := by
  rw [class_is r]
  unfold classB
  by_cases h : (768 ≤ r ∧ r ≤ 772) ∨ (774 ≤ r ∧ r ≤ 776) ∨ (778 ≤ r ∧ r ≤ 780)
  · rw [if_pos h]
    rcases h with ⟨h1, h2⟩ | ⟨h1, h2⟩ | ⟨h1, h2⟩
    all_goals
      go_enter Tryz.func100, Tryz.ntmps100
      go_wp2
      go_ret
      exact ⟨rfl, rfl⟩
  · rw [if_neg h]
    by_cases h7 : r = 807 ∨ r = 808
    · rw [if_pos h7]
      rcases h7 with rfl | rfl
      all_goals
        clear h
        go_enter Tryz.func100, Tryz.ntmps100
        go_wp2
        go_ret
        exact ⟨rfl, rfl⟩
    · rw [if_neg h7]
      have e1 : (r == 807) = false := by rw [beq_eq_false_iff_ne]; omega
      have e2 : (r == 808) = false := by rw [beq_eq_false_iff_ne]; omega
      obtain h1 | h1 | h1 | ⟨h1, h2⟩ : r < 768 ∨ r = 773 ∨ r = 777 ∨ (780 < r ∧ ¬ (r ≤ 780)) := by omega
      all_goals
        try subst h1
        clear h h7
        go_enter Tryz.func100, Tryz.ntmps100
        go_wp2
        go_ret
        exact ⟨rfl, rfl⟩
set_option maxHeartbeats 1000000 in
theorem within_yes (r f c : Int) (h1 : f ≤ r) (h2 : r < f + c) (hf : 0 ≤ f) (hc : 0 ≤ c) (hs : f + c ≤ 100000) (w : World) :
    Calls Tryz.prog 224 #[.int .i32 r, .int .i32 f, .int .i32 c] w fun e w' => e = .returned (.bool true) ∧ w' = w := by
  have hw : IntKind.i32.wrap (f + c) = f + c := by rw [IntKind.wrap_i32]; omega
  go_enter Tryz.func224, Tryz.ntmps224
  go_wp2
  go_ret
  exact ⟨rfl, rfl⟩
set_option maxHeartbeats 1000000 in
theorem within_no (r f c : Int) (h : ¬ (f ≤ r ∧ r < f + c)) (hf : 0 ≤ f) (hc : 0 ≤ c) (hs : f + c ≤ 100000) (w : World) :
    Calls Tryz.prog 224 #[.int .i32 r, .int .i32 f, .int .i32 c] w fun e w' => e = .returned (.bool false) ∧ w' = w := by
  have hw : IntKind.i32.wrap (f + c) = f + c := by rw [IntKind.wrap_i32]; omega
  by_cases h1 : f ≤ r
  · have h2 : ¬ (r < f + c) := by omega
    clear h
    go_enter Tryz.func224, Tryz.ntmps224
    go_wp2
    go_ret
    exact ⟨rfl, rfl⟩
  · clear h
    go_enter Tryz.func224, Tryz.ntmps224
    go_wp2
    go_ret
    exact ⟨rfl, rfl⟩
end Go.Proofs.YtfioknaadbgjlaaGreatDoor.F
namespace Go.Proofs.YtfioknaadbgjlaaGreatDoor.F
open Go.RowKit Go.Sort
abbrev encSo : Int → Value := Value.int .i32
def RW (w : World) (g off : Nat) (L : List Int) (m : Nat) : World := (putRow encSo w g off L.toArray).drewN m
theorem toArray_at (L : List Int) (i : Nat) : L.toArray[i]! = L.getD i 0 := by
  by_cases h : i < L.length
  · rw [getElem!_pos _ i (by simpa using h)]
    simp [List.getD_eq_getElem?_getD, List.getElem?_eq_getElem h]
  · rw [getElem!_neg _ i (by simpa using h)]
    simp [List.getD_eq_getElem?_getD, List.getElem?_eq_none (show L.length ≤ i by omega)]
theorem RW_start {w : World} {g off : Nat} {L : List Int} (h : Holds encSo w g off L.toArray) : RW w g off L 0 = w := putRow_self encSo w g off L.toArray h
theorem RW_holds {w : World} {g off : Nat} {L0 L : List Int} {m : Nat} (hH : Holds encSo w g off L0.toArray) (hs : L.length = L0.length) : Holds encSo (RW w g off L m) g off L.toArray :=
  fun j hj => holds_putRow encSo w g off L0.toArray L.toArray hH (by simpa using hs) j hj
theorem RW_cell {w : World} {g off : Nat} {L0 L : List Int} {m i : Nat} (hH : Holds encSo w g off L0.toArray) (hs : L.length = L0.length) (hi : i < L.length) :
    (RW w g off L m).cell? ⟨g, off + i, none⟩ = some (.int .i32 (L.getD i 0)) ∧ (RW w g off L m).frozen? ⟨g, off + i, none⟩ = false := by
  have := RW_holds (m := m) hH hs i (by simpa using hi)
  rw [toArray_at] at this
  exact this
theorem RW_drew {w : World} {g off : Nat} {L : List Int} {m q : Nat} : (RW w g off L m).drewN q = RW w g off L (m + q) := by
  unfold RW; rw [World.drewN_drewN]
def swpL (L : List Int) (i j : Nat) : List Int := (L.set i (L.getD j 0)).set j (L.getD i 0)
theorem swp_list (L : List Int) (i j : Nat) : swp L.toArray i j = (swpL L i j).toArray := by
  unfold swp swpL
  rw [toArray_at, toArray_at]
  simp
theorem RW_swap (w : World) (g off : Nat) (L : List Int) (m i j : Nat) (hi : i < L.length) (hj : j < L.length) :
    (((RW w g off L m).setCell ⟨g, off + i, none⟩ (.int .i32 (L.getD j 0))).setCell ⟨g, off + j, none⟩ (.int .i32 (L.getD i 0))).drew = RW w g off (swpL L i j) (m + 1) := by
  have := swap_worldC encSo w g off L.toArray m i j (by simpa using hi) (by simpa using hj)
  rw [toArray_at, toArray_at, swp_list] at this
  exact this
theorem getD_mid (P T : List Int) (x : Int) : (P ++ x :: T).getD P.length 0 = x := by simp [List.getD_eq_getElem?_getD]
theorem set_mid (P T : List Int) (x y : Int) : (P ++ x :: T).set P.length y = P ++ y :: T := by simp
theorem getD_two (P M T : List Int) (x y : Int) : (P ++ x :: (M ++ y :: T)).getD (P.length + 1 + M.length) 0 = y := by
  have e : (P ++ x :: (M ++ y :: T)) = (P ++ x :: M) ++ y :: T := by simp
  have hl : (P ++ x :: M).length = P.length + 1 + M.length := by simp; omega
  rw [e, ← hl]; exact getD_mid _ T y
theorem swpL_at (P M T : List Int) (x y : Int) : swpL (P ++ x :: (M ++ y :: T)) P.length (P.length + 1 + M.length) = P ++ y :: (M ++ x :: T) := by
  have e : (P ++ x :: (M ++ y :: T)) = (P ++ x :: M) ++ y :: T := by simp
  have hl : (P ++ x :: M).length = P.length + 1 + M.length := by simp; omega
  have g1 : (P ++ x :: (M ++ y :: T)).getD P.length 0 = x := getD_mid P _ x
  have g2 : (P ++ x :: (M ++ y :: T)).getD (P.length + 1 + M.length) 0 = y := by rw [e, ← hl]; exact getD_mid _ T y
  unfold swpL
  rw [g1, g2, set_mid]
  have e2 : (P ++ y :: (M ++ y :: T)) = (P ++ y :: M) ++ y :: T := by simp
  have hl2 : (P ++ y :: M).length = P.length + 1 + M.length := by simp; omega
  rw [e2, ← hl2, set_mid]
  simp
theorem swpL_comm (L : List Int) {i j : Nat} (h : i ≠ j) : swpL L i j = swpL L j i := by
  unfold swpL
  rw [List.set_comm _ _ h]
theorem swpL_next (P T : List Int) (x y : Int) : swpL (P ++ x :: y :: T) P.length (P.length + 1) = P ++ y :: x :: T := swpL_at P [] T x y
theorem SwapsM.trans {c : Int → Int} {a b d : List Int} (h : SwapsM c a b) (k : SwapsM c b d) : SwapsM c a d := by
  induction h with
  | same l => exact k
  | step p t x y hw hs ih => exact .step p t x y hw (ih k)
theorem SwapsM.within {c : Int → Int} {a b : List Int} (P T : List Int) (h : SwapsM c a b) : SwapsM c (P ++ a ++ T) (P ++ b ++ T) := by
  induction h with
  | same l => exact .same _
  | step p t x y hw hs ih =>
    have e1 : P ++ (p ++ x :: y :: t) ++ T = (P ++ p) ++ x :: y :: (t ++ T) := by simp
    have e2 : P ++ (p ++ y :: x :: t) ++ T = (P ++ p) ++ y :: x :: (t ++ T) := by simp
    rw [e1]
    rw [e2] at ih
    exact .step _ _ x y hw ih
theorem SwapsM.perm {c : Int → Int} {a b : List Int} (h : SwapsM c a b) : a.Perm b := by
  induction h with
  | same l => exact List.Perm.refl _
  | step p t x y hw hs ih => exact ((List.Perm.swap y x t).append_left p).trans ih
theorem SwapsM.length {c : Int → Int} {a b : List Int} (h : SwapsM c a b) : a.length = b.length := h.perm.length_eq
theorem SwapsM.one {c : Int → Int} {x : Int} : ∀ (B : List Int), (∀ y ∈ B, wrongB c x y = true) → ∀ T, SwapsM c (x :: B ++ T) (B ++ x :: T)
  | [], _, T => .same _
  | y :: B, h, T => by
    have ih := SwapsM.one B (fun z hz => h z (by simp [hz])) T
    refine .step [] (B ++ T) x y (h y (by simp)) ?_
    have := ih.within [y] []
    simpa using this
theorem SwapsM.rotate {c : Int → Int} : ∀ (A B : List Int), (∀ x ∈ A, ∀ y ∈ B, wrongB c x y = true) → SwapsM c (A ++ B) (B ++ A)
  | [], B, _ => by simpa using SwapsM.same _
  | x :: A, B, h => by
    have ih := SwapsM.rotate A B (fun z hz => h z (by simp [hz]))
    have h1 : SwapsM c (x :: (A ++ B)) (x :: (B ++ A)) := by simpa using ih.within [x] []
    refine h1.trans ?_
    exact SwapsM.one B (h x (by simp)) A
end Go.Proofs.YtfioknaadbgjlaaGreatDoor.F
namespace Go.Proofs.YtfioknaadbgjlaaGreatDoor.F
open Go.RowKit Go.Sort
set_option maxHeartbeats 1000000 in
theorem cmp_c (x y : Int) (w : World) : Calls Tryz.prog 222 #[.int .i32 x, .int .i32 y] w fun e w' => e = .returned (.int .i64 (classI x - classI y)) ∧ w' = w := by
  have c1 := fun w => cls_c x w
  have c2 := fun w => cls_c y w
  have b1 : 0 ≤ classI x ∧ classI x ≤ 230 := by rw [class_is]; unfold classB; split <;> (try split) <;> omega
  have b2 : 0 ≤ classI y ∧ classI y ≤ 230 := by rw [class_is]; unfold classB; split <;> (try split) <;> omega
  generalize classI x = p at *
  generalize classI y = q at *
  obtain ⟨b1, b1'⟩ := b1
  obtain ⟨b2, b2'⟩ := b2
  go_enter Tryz.func222, Tryz.ntmps222
  go_wp2_with fail
  refine (c1 _).mono ?_
  rintro e w' ⟨rfl, rfl⟩
  go_wp2_with fail
  refine (c2 _).mono ?_
  rintro e w' ⟨rfl, rfl⟩
  go_wp2
  go_ret
  exact ⟨rfl, rfl⟩
def SwapRel (w : World) (g off : Nat) (P U Q V T : List Int) (iv : Value) (wr : World) : Prop :=
  ∃ (U1 U2 V1 V2 : List Int) (m : Nat), U = U1 ++ U2 ∧ V = V1 ++ V2 ∧ U1.length = V1.length ∧ iv = .int .i64 U1.length ∧ wr = RW w g off (P ++ (V1 ++ (U2 ++ (Q ++ (U1 ++ (V2 ++ T)))))) m
set_option maxHeartbeats 2000000 in
set_option maxRecDepth 100000 in
theorem swapRange_c (w : World) (g off cap N : Nat) (F : Value) (L0 : List Int) (hH : Holds encSo w g off L0.toArray) (hN : L0.length = N) (hsz : N < 1000000) (P U Q V T : List Int) (hUV : U.length = V.length) (hL : (P ++ (U ++ (Q ++ (V ++ T)))).length = N) (m : Nat) :
    Calls Tryz.prog 234 #[.slice (some ⟨g, off, none⟩) N cap, .int .i64 P.length, .int .i64 (P.length + U.length + Q.length : Nat), .int .i64 U.length, F] (RW w g off (P ++ (U ++ (Q ++ (V ++ T)))) m)
      fun e w' => e = .returned (.tuple #[]) ∧ ∃ m', w' = RW w g off (P ++ (V ++ (Q ++ (U ++ T)))) m' := by
  obtain ⟨a, ha⟩ : ∃ a, P.length = a := ⟨_, rfl⟩
  obtain ⟨n, hn⟩ : ∃ n, U.length = n := ⟨_, rfl⟩
  obtain ⟨b, hb⟩ : ∃ b, P.length + U.length + Q.length = b := ⟨_, rfl⟩
  obtain ⟨W0, hW0⟩ : ∃ W0, RW w g off (P ++ (U ++ (Q ++ (V ++ T)))) m = W0 := ⟨_, rfl⟩
  rw [hb, ha, hn, hW0]
  have HS : Hid (SwapRel w g off P U Q V T (.int .i64 0) W0) := ⟨[], U, [], V, m, rfl, rfl, rfl, rfl, by rw [← hW0]; rfl⟩
  have hlen : a + n + Q.length + n + T.length = N := by
    rw [← hL, ← ha, ← hn]
    simp only [List.length_append]
    omega
  have HBE : Hid (b = a + n + Q.length) := Lib.hid (by omega)
  have HLEN : Hid (a + n + Q.length + n + T.length = N) := Lib.hid hlen
  clear hlen
  have HH := Lib.hid hH
  have HN := Lib.hid hN
  have HA := Lib.hid ha
  have HU := Lib.hid hn
  have HV := Lib.hid (hUV.symm.trans hn)
  clear hH hN ha hn hb hL hUV hW0
  go_enter Tryz.func234, Tryz.ntmps234
  go_wp2
  go_loopw [10] (fun iv wr => SwapRel w g off P U Q V T iv wr) (fun iv _ => n - (intOf iv).toNat)
  case atStart => exact HS.out
  case round =>
    obtain ⟨U1, U2, V1, V2, m1, hU, hV, h12, rfl, rfl⟩ := hrel
    obtain ⟨i, hi⟩ : ∃ i, U1.length = i := ⟨_, rfl⟩
    have hu := congrArg List.length hU
    have hv := congrArg List.length hV
    rw [List.length_append, HU.out] at hu
    rw [List.length_append, HV.out] at hv
    rw [hi]
    by_cases hlt : i < n
    · have hltz : (i : Int) < (n : Int) := by omega
      cases U2 with
      | nil => simp at hu; omega
      | cons x U2 =>
      cases V2 with
      | nil => simp at hv; omega
      | cons y V2 =>
      have hbe := HBE.out
      have hlen := HLEN.out
      obtain ⟨wq, hwq⟩ : ∃ wq, RW w g off (P ++ (V1 ++ (x :: U2 ++ (Q ++ (U1 ++ (y :: V2 ++ T)))))) m1 = wq := ⟨_, rfl⟩
      have e1 : P ++ (V1 ++ (x :: U2 ++ (Q ++ (U1 ++ (y :: V2 ++ T))))) = (P ++ V1) ++ x :: ((U2 ++ (Q ++ U1)) ++ y :: (V2 ++ T)) := by simp only [List.append_assoc, List.cons_append]
      have l1 : (P ++ V1).length = a + i := by rw [List.length_append, HA.out, ← h12, hi]
      simp only [List.length_cons] at hu hv
      have l2 : (P ++ V1).length + 1 + (U2 ++ (Q ++ U1)).length = b + i := by
        rw [l1]; simp only [List.length_append]; omega
      have hll : ((P ++ V1) ++ x :: ((U2 ++ (Q ++ U1)) ++ y :: (V2 ++ T))).length = L0.length := by
        rw [HN.out]
        rw [List.length_append, l1]
        simp only [List.length_append, List.length_cons]
        omega
      rw [hwq]
      rw [e1] at hwq
      have k1 := RW_cell (m := m1) (i := a + i) HH.out hll (by rw [List.length_append, l1, List.length_cons]; omega)
      have k2 := RW_cell (m := m1) (i := b + i) HH.out hll (by rw [← l2]; simp only [List.length_append, List.length_cons]; omega)
      have v1 : ((P ++ V1) ++ x :: ((U2 ++ (Q ++ U1)) ++ y :: (V2 ++ T))).getD (a + i) 0 = x := by rw [← l1]; exact getD_mid _ _ x
      have v2 : ((P ++ V1) ++ x :: ((U2 ++ (Q ++ U1)) ++ y :: (V2 ++ T))).getD (b + i) 0 = y := by
        rw [← l2]; exact getD_two _ _ _ x y
      have HSW : Hid (((wq.setCell ⟨g, off + (a + i), none⟩ (.int .i32 y)).setCell ⟨g, off + (b + i), none⟩ (.int .i32 x)).drew = RW w g off (P ++ ((V1 ++ [y]) ++ (U2 ++ (Q ++ ((U1 ++ [x]) ++ (V2 ++ T)))))) (m1 + 1)) := by
        refine Lib.hid ?_
        have h := RW_swap w g off ((P ++ V1) ++ x :: ((U2 ++ (Q ++ U1)) ++ y :: (V2 ++ T))) m1 (a + i) (b + i) (by rw [hll, HN.out]; omega) (by rw [hll, HN.out]; omega)
        rw [v1, v2, ← l2, ← l1, swpL_at, l2, l1, hwq] at h
        rw [h]
        congr 1
        simp
      rw [v1, hwq] at k1
      rw [v2, hwq] at k2
      obtain ⟨p, hp⟩ : ∃ p, a + i = p := ⟨_, rfl⟩
      obtain ⟨q, hq⟩ : ∃ q, b + i = q := ⟨_, rfl⟩
      rw [hp] at k1 HSW
      rw [hq] at k2 HSW
      obtain ⟨c1, f1⟩ := k1
      obtain ⟨c2, f2⟩ := k2
      have w1 : IntKind.i64.wrap ((a : Int) + (i : Int)) = (p : Int) := by rw [IntKind.wrap_i64]; omega
      have w2 : IntKind.i64.wrap ((b : Int) + (i : Int)) = (q : Int) := by rw [IntKind.wrap_i64]; omega
      have p1 : (p : Int) < (N : Int) := by omega
      have p2 : (q : Int) < (N : Int) := by omega
      have hn6 : n < 1000000 := by omega
      have hpq : p ≠ q := by omega
      have hqp : q ≠ p := by omega
      have HI := Lib.hid hi
      have HUU := Lib.hid hU
      have HVV := Lib.hid hV
      have H12 := Lib.hid h12
      clear hu hv hU hV h12 hwq e1 l1 l2 hll v1 v2 hp hq hi hbe hlen
      go_wp2_with fail
      go_big_region
      all_goals go_wp2
      go_roundw
      case rel => exact ⟨U1 ++ [x], U2, V1 ++ [y], V2, m1 + 1, by rw [HUU.out]; simp, by rw [HVV.out]; simp, by simp [H12.out], by rw [List.length_append, HI.out, List.length_singleton]; go_num, HSW.out⟩
      case measure => simp [intOf]; omega
    · have hin : i = n := by omega
      have hU2 : U2 = [] := List.eq_nil_of_length_eq_zero (by omega)
      have hV2 : V2 = [] := List.eq_nil_of_length_eq_zero (by omega)
      subst hU2 hV2
      simp only [List.append_nil] at hU hV
      have hge : ¬ ((i : Int) < (n : Int)) := by omega
      have HX : Hid (P ++ (V1 ++ ([] ++ (Q ++ (U1 ++ ([] ++ T))))) = P ++ (V ++ (Q ++ (U ++ T)))) := Lib.hid (by rw [hU, hV]; simp)
      clear hin hu hv hi
      go_wp2
      go_end0
      exact ⟨rfl, m1, by first | rfl | rw [HX.out]⟩
end Go.Proofs.YtfioknaadbgjlaaGreatDoor.F
namespace Go.Proofs.YtfioknaadbgjlaaGreatDoor.F
open Go.RowKit Go.Sort
def RotRel (w : World) (g off N M : Nat) (G : List Int) (iv jv : Value) (wr : World) : Prop :=
  ∃ (P U V T : List Int) (k : Nat), P.length + U.length = M ∧ (P ++ (U ++ (V ++ T))).length = N ∧ 1 ≤ U.length ∧ 1 ≤ V.length ∧ iv = .int .i64 U.length ∧ jv = .int .i64 V.length ∧ P ++ (V ++ (U ++ T)) = G ∧ wr = RW w g off (P ++ (U ++ (V ++ T))) k
set_option maxHeartbeats 2000000 in
set_option maxRecDepth 100000 in
theorem rotate_c (w : World) (g off cap N : Nat) (F : Value) (L0 : List Int) (hH : Holds encSo w g off L0.toArray) (hN : L0.length = N) (hsz : N < 1000000) (P A B T : List Int) (hA : 1 ≤ A.length) (hB : 1 ≤ B.length) (hL : (P ++ (A ++ (B ++ T))).length = N) (a M b : Nat) (ha : P.length = a) (hM : a + A.length = M) (hb : M + B.length = b) (m : Nat) :
    Calls Tryz.prog 233 #[.slice (some ⟨g, off, none⟩) N cap, .int .i64 a, .int .i64 M, .int .i64 b, F] (RW w g off (P ++ (A ++ (B ++ T))) m)
      fun e w' => e = .returned (.tuple #[]) ∧ ∃ m', w' = RW w g off (P ++ (B ++ (A ++ T))) m' := by
  obtain ⟨W0, hW0⟩ : ∃ W0, RW w g off (P ++ (A ++ (B ++ T))) m = W0 := ⟨_, rfl⟩
  obtain ⟨na, hna⟩ : ∃ n, A.length = n := ⟨_, rfl⟩
  obtain ⟨nb, hnb⟩ : ∃ n, B.length = n := ⟨_, rfl⟩
  obtain ⟨G, hG⟩ : ∃ G, P ++ (B ++ (A ++ T)) = G := ⟨_, rfl⟩
  rw [hW0, hG]
  have HS : Hid (RotRel w g off N M G (.int .i64 na) (.int .i64 nb) W0) := ⟨P, A, B, T, m, by omega, hL, hA, hB, by rw [hna], by rw [hnb], hG, hW0.symm⟩
  have hlen := hL
  rw [List.length_append, List.length_append, List.length_append] at hlen
  have hb6 : b < 1000000 := by omega
  have hM6 : M < 1000000 := by omega
  have w1 : IntKind.i64.wrap ((M : Int) - (a : Int)) = (na : Int) := by rw [IntKind.wrap_i64]; omega
  have w2 : IntKind.i64.wrap ((b : Int) - (M : Int)) = (nb : Int) := by rw [IntKind.wrap_i64]; omega
  have HH := Lib.hid hH
  have HN := Lib.hid hN
  clear hH hN hL hA hB ha hM hb hW0 hG hlen hna hnb
  go_enter Tryz.func233, Tryz.ntmps233
  go_wp2
  clear w1 w2
  go_loopw [10, 11] (fun iv jv wr => RotRel w g off N M G iv jv wr) (fun iv jv _ => (intOf iv).toNat + (intOf jv).toNat)
  case atStart => exact HS.out
  case round =>
    obtain ⟨P1, U, V, T1, k, hPU, hlen, hU1, hV1, rfl, rfl, hG, rfl⟩ := hrel
    obtain ⟨i, hi⟩ : ∃ i, U.length = i := ⟨_, rfl⟩
    obtain ⟨j, hj⟩ : ∃ j, V.length = j := ⟨_, rfl⟩
    obtain ⟨p, hp⟩ : ∃ p, P1.length = p := ⟨_, rfl⟩
    have hl := hlen
    rw [List.length_append, List.length_append, List.length_append, hi, hj, hp] at hl
    rw [hi] at hU1 hPU
    rw [hj] at hV1
    rw [hp] at hPU
    rw [hi, hj]
    have wp : IntKind.i64.wrap ((M : Int) - (i : Int)) = (p : Int) := by rw [IntKind.wrap_i64]; omega
    obtain ⟨wq, hwq⟩ : ∃ wq, RW w g off (P1 ++ (U ++ (V ++ T1))) k = wq := ⟨_, rfl⟩
    rw [hwq]
    by_cases hij : i = j
    · subst hij
      have c := swapRange_c w g off cap N F L0 HH.out HN.out hsz P1 U [] V T1 (by rw [hi, hj]) hlen k
      rw [show P1 ++ (U ++ ([] ++ (V ++ T1))) = P1 ++ (U ++ (V ++ T1)) from rfl, hwq, show P1 ++ (V ++ ([] ++ (U ++ T1))) = G from hG, hp, hi, show p + i + ([] : List Int).length = M from hPU] at c
      clear hwq hG hlen hl hi hj hp hPU
      go_wp2_with fail
      refine c.mono ?_
      rintro e w' ⟨rfl, m', rfl⟩
      go_wp2
      go_end0
      exact ⟨rfl, m', rfl⟩
    · have hne : ((i : Int) == (j : Int)) = false := by rw [beq_eq_false_iff_ne]; omega
      by_cases hgt : j < i
      · have hgtz : (j : Int) < (i : Int) := by omega
        have c := swapRange_c w g off cap N F L0 HH.out HN.out hsz P1 (U.take j) (U.drop j) V T1 (by rw [List.length_take, hi, hj]; omega)
        have e1 : P1 ++ (U.take j ++ (U.drop j ++ (V ++ T1))) = P1 ++ (U ++ (V ++ T1)) := by rw [← List.append_assoc (U.take j), List.take_append_drop]
        have l1 : (U.take j).length = j := by rw [List.length_take, hi]; omega
        have l2 : (U.drop j).length = i - j := by rw [List.length_drop, hi]
        have c := c (by rw [e1]; exact hlen) k
        rw [e1, hwq, hp, l1, l2, show p + j + (i - j) = M by omega] at c
        have HX : ∀ m', Hid (RotRel w g off N M G (.int .i64 ((i - j : Nat) : Int)) (.int .i64 j) (RW w g off (P1 ++ (V ++ (U.drop j ++ (U.take j ++ T1)))) m')) := fun m' =>
          Lib.hid ⟨P1 ++ V, U.drop j, U.take j, T1, m', by rw [List.length_append, l2]; omega, by
            simp only [List.length_append, l1, l2, hp, hj]; omega, by omega, by omega, by rw [l2], by rw [l1], by
            rw [← hG, List.append_assoc, ← List.append_assoc (U.take j), List.take_append_drop], by rw [List.append_assoc]⟩
        generalize U.take j = UT at *
        generalize U.drop j = UD at *
        have wd : IntKind.i64.wrap ((i : Int) - (j : Int)) = ((i - j : Nat) : Int) := by rw [IntKind.wrap_i64]; omega
        obtain ⟨d, hd⟩ : ∃ d, i - j = d := ⟨_, rfl⟩
        have hdi : d < i := by omega
        rw [hd] at wd HX
        clear hwq hG hlen hl hi hj hp hPU e1 l1 l2 hd hij
        go_wp2_with fail
        refine c.mono ?_
        rintro e w' ⟨rfl, m', rfl⟩
        go_wp2
        go_roundw
        case rel => exact (HX m').out
        case measure => simp [intOf]; omega
      · have hgtz : ¬ ((j : Int) < (i : Int)) := by omega
        have hlt : i < j := by omega
        have c := swapRange_c w g off cap N F L0 HH.out HN.out hsz P1 U (V.take (j - i)) (V.drop (j - i)) T1 (by rw [List.length_drop, hi, hj]; omega)
        have e1 : P1 ++ (U ++ (V.take (j - i) ++ (V.drop (j - i) ++ T1))) = P1 ++ (U ++ (V ++ T1)) := by rw [← List.append_assoc (V.take (j - i)), List.take_append_drop]
        have l1 : (V.take (j - i)).length = j - i := by rw [List.length_take, hj]; omega
        have l2 : (V.drop (j - i)).length = i := by rw [List.length_drop, hj]; omega
        have c := c (by rw [e1]; exact hlen) k
        obtain ⟨q, hq⟩ : ∃ q, M + j - i = q := ⟨_, rfl⟩
        rw [e1, hwq, hp, hi, l1, show p + i + (j - i) = q by omega] at c
        have HX : ∀ m', Hid (RotRel w g off N M G (.int .i64 i) (.int .i64 ((j - i : Nat) : Int)) (RW w g off (P1 ++ (V.drop (j - i) ++ (V.take (j - i) ++ (U ++ T1)))) m')) := fun m' =>
          Lib.hid ⟨P1, V.drop (j - i), V.take (j - i), U ++ T1, m', by rw [hp, l2]; omega, by
            simp only [List.length_append, l1, l2, hp, hi]; omega, by omega, by omega, by rw [l2], by rw [l1], by
            rw [← hG, ← List.append_assoc (V.take (j - i)), List.take_append_drop], rfl⟩
        generalize V.take (j - i) = UT at *
        generalize V.drop (j - i) = UD at *
        have wd : IntKind.i64.wrap ((j : Int) - (i : Int)) = ((j - i : Nat) : Int) := by rw [IntKind.wrap_i64]; omega
        have ws : IntKind.i64.wrap ((M : Int) + (j : Int)) = (M : Int) + (j : Int) := by rw [IntKind.wrap_i64]; omega
        have wr1 : IntKind.i64.wrap ((M : Int) + (j : Int) - (i : Int)) = (q : Int) := by rw [IntKind.wrap_i64]; omega
        obtain ⟨d, hd⟩ : ∃ d, j - i = d := ⟨_, rfl⟩
        have hdi : d < j := by omega
        rw [hd] at wd HX
        clear hwq hG hlen hl hi hj hp hPU e1 l1 l2 hd hij hq
        go_wp2_with fail
        refine c.mono ?_
        rintro e w' ⟨rfl, m', rfl⟩
        go_wp2
        go_roundw
        case rel => exact (HX m').out
        case measure => simp [intOf]; omega
end Go.Proofs.YtfioknaadbgjlaaGreatDoor.F
namespace Go.Proofs.YtfioknaadbgjlaaGreatDoor.F
open Go.RowKit Go.Sort
def PosM (l : List Int) : Prop := ∀ x ∈ l, 0 < classI x
def SortedM (l : List Int) : Prop := l.Pairwise fun x y => classI x ≤ classI y
theorem class_bounds (x : Int) : 0 ≤ classI x ∧ classI x ≤ 230 := by rw [class_is]; unfold classB; split <;> (try split) <;> omega
abbrev cmpV : Value := .func (.func 222) #[] #[]
theorem sorted_put {S1 S2 : List Int} {x : Int} (h : SortedM (S1 ++ S2)) (h2 : ∀ y ∈ S2, classI x < classI y) (h1 : ∀ S0 y, S1 = S0 ++ [y] → classI y ≤ classI x) : SortedM (S1 ++ x :: S2) := by
  unfold SortedM at *
  rw [List.pairwise_append] at h ⊢
  refine ⟨h.1, ?_, ?_⟩
  · rw [List.pairwise_cons]
    exact ⟨fun y hy => by have := h2 y hy; omega, h.2.1⟩
  · intro a ha b hb
    rcases List.mem_cons.1 hb with rfl | hb
    · rcases List.eq_nil_or_concat S1 with h0 | ⟨S0, y, h0⟩
      · rw [h0] at ha; cases ha
      · rw [List.concat_eq_append] at h0
        have hy := h1 S0 y h0
        rw [h0, List.mem_append] at ha
        rcases ha with ha | ha
        · have hp := h.1
          rw [h0, List.pairwise_append] at hp
          have := hp.2.2 a ha y (by simp)
          omega
        · simp at ha; subst ha; exact hy
    · exact h.2.2 a ha b hb
def InsRel (w : World) (g off : Nat) (P A T : List Int) (iv : Value) (wr : World) : Prop :=
  ∃ (S R : List Int) (k : Nat), 1 ≤ S.length ∧ S.length + R.length = A.length ∧ iv = .int .i64 (P.length + S.length : Nat) ∧ SortedM S ∧ SwapsM classI A (S ++ R) ∧ wr = RW w g off (P ++ (S ++ (R ++ T))) k
def InsRel2 (w : World) (g off : Nat) (P A T : List Int) (x : Int) (n : Nat) (R : List Int) (jv : Value) (wr : World) : Prop :=
  ∃ (S1 S2 : List Int) (k : Nat), S1.length + S2.length = n ∧ jv = .int .i64 (P.length + S1.length : Nat) ∧ SortedM (S1 ++ S2) ∧ (∀ y ∈ S2, classI x < classI y) ∧ SwapsM classI A (S1 ++ x :: (S2 ++ R)) ∧ wr = RW w g off (P ++ (S1 ++ x :: (S2 ++ (R ++ T)))) k
set_option maxHeartbeats 1000000 in
theorem ins_none (w : World) (v : Value) (a : Nat) (F : Value) (ha : a < 1000000) :
    Calls Tryz.prog 231 #[v, .int .i64 a, .int .i64 a, F] w fun e w' => e = .returned (.tuple #[]) ∧ w' = w := by
  have w1 : IntKind.i64.wrap ((a : Int) + 1) = (a : Int) + 1 := by rw [IntKind.wrap_i64]; omega
  have h : ¬ ((a : Int) + 1 < (a : Int)) := by omega
  go_enter Tryz.func231, Tryz.ntmps231
  go_wp2
  go_rounds 1
  go_end0
  exact ⟨rfl, rfl⟩
/-- The part A of the row P A T is put in order. -/
def SortPost (w : World) (g off : Nat) (P A T : List Int) (w' : World) : Prop := ∃ M m', SwapsM classI A M ∧ SortedM M ∧ w' = RW w g off (P ++ (M ++ T)) m'
set_option maxHeartbeats 4000000 in
set_option maxRecDepth 100000 in
theorem ins_some (w : World) (g off cap N : Nat) (L0 : List Int) (hH : Holds encSo w g off L0.toArray) (hN : L0.length = N) (hsz : N < 1000000) (P A T : List Int) (hA : 1 ≤ A.length) (hpos : PosM A) (hL : (P ++ (A ++ T)).length = N) (a b : Nat) (ha : P.length = a) (hb : a + A.length = b) (m : Nat) :
    Calls Tryz.prog 231 #[.slice (some ⟨g, off, none⟩) N cap, .int .i64 a, .int .i64 b, cmpV] (RW w g off (P ++ (A ++ T)) m)
      fun e w' => e = .returned (.tuple #[]) ∧ SortPost w g off P A T w' := by
  obtain ⟨W0, hW0⟩ : ∃ W0, RW w g off (P ++ (A ++ T)) m = W0 := ⟨_, rfl⟩
  rw [hW0]
  have HS : Hid (InsRel w g off P A T (.int .i64 ((a + 1 : Nat) : Int)) W0) := by
    cases A with
    | nil => simp at hA
    | cons x R => exact Lib.hid ⟨[x], R, m, by simp, by simp; omega, by rw [ha]; simp, by unfold SortedM; simp, .same _, by rw [← hW0]; simp⟩
  have hlen := hL
  rw [List.length_append, List.length_append, ha] at hlen
  have hb6 : b < 1000000 := by omega
  have hbN : b ≤ N := by omega
  have hab : a < b := by omega
  have HH := Lib.hid hH
  have HN := Lib.hid hN
  have HPOS := Lib.hid hpos
  have HA := Lib.hid ha
  have HB := Lib.hid hb
  have HLEN := Lib.hid hlen
  clear hH hN hL hA hW0 hlen hpos ha hb
  have w1 : IntKind.i64.wrap ((a : Int) + 1) = ((a + 1 : Nat) : Int) := by rw [IntKind.wrap_i64]; omega
  go_enter Tryz.func231, Tryz.ntmps231
  go_wp2
  clear w1
  go_loopw [8] (fun iv wr => InsRel w g off P A T iv wr) (fun iv _ => b - (intOf iv).toNat)
  case atStart => exact HS.out
  case round =>
    obtain ⟨S, R, k, hS, hSR, rfl, hsort, hsw, rfl⟩ := hrel
    obtain ⟨n, hn⟩ : ∃ n, S.length = n := ⟨_, rfl⟩
    rw [HA.out, hn]
    rw [hn] at hS hSR
    obtain ⟨i, hi⟩ : ∃ i, a + n = i := ⟨_, rfl⟩
    rw [hi]
    by_cases hlt : i < b
    · have hltz : (i : Int) < (b : Int) := by omega
      cases R with
      | nil => have := HB.out; simp at hSR; omega
      | cons x R =>
      obtain ⟨W1, hW1⟩ : ∃ W1, RW w g off (P ++ (S ++ (x :: R ++ T))) k = W1 := ⟨_, rfl⟩
      rw [hW1]
      have HS2 : Hid (InsRel2 w g off P A T x n R (.int .i64 i) W1) := Lib.hid ⟨S, [], k, by simp [hn], by rw [HA.out, hn, hi], by simpa using hsort, by simp, by simpa using hsw, by rw [← hW1]; simp⟩
      simp only [List.length_cons] at hSR
      have HSR := Lib.hid hSR
      have HI := Lib.hid hi
      clear hn hsort hsw hW1 hSR hi
      go_wp2
      go_loopw [9] (fun jv wr => InsRel2 w g off P A T x n R jv wr) (fun jv _ => (intOf jv).toNat)
      case atStart => exact HS2.out
      case round =>
        obtain ⟨S1, S2, k2, h12, rfl, hsort, hgt, hsw, rfl⟩ := hrel
        have OUT : (∀ S0 y, S1 = S0 ++ [y] → classI y ≤ classI x) → ∀ q, Hid (InsRel w g off P A T (.int .i64 ((i + 1 : Nat) : Int)) (RW w g off (P ++ (S1 ++ x :: (S2 ++ (R ++ T)))) q)) := fun hst q =>
          Lib.hid ⟨S1 ++ x :: S2, R, q, by simp; omega, by simp only [List.length_append, List.length_cons]; have := HSR.out; omega, by
            simp only [List.length_append, List.length_cons]; have := HI.out; rw [HA.out, show a + (S1.length + (S2.length + 1)) = i + 1 by omega], sorted_put hsort hgt hst, by simpa using hsw, by simp⟩
        rcases List.eq_nil_or_concat S1 with h0 | ⟨S0, y, h0⟩
        · subst h0
          have HO := OUT (fun S0 y h => by simp at h)
          rw [show P.length + ([] : List Int).length = a by rw [HA.out]; rfl]
          obtain ⟨wq, hwq⟩ : ∃ wq, RW w g off (P ++ ([] ++ x :: (S2 ++ (R ++ T)))) k2 = wq := ⟨_, rfl⟩
          rw [hwq]
          have HQ : ∀ q, Hid (wq.drewN q = RW w g off (P ++ ([] ++ x :: (S2 ++ (R ++ T)))) (k2 + q)) := fun q => Lib.hid (by rw [← hwq, RW_drew])
          have hi1 : i + 1 < 1000001 := by omega
          clear h12 hsort hgt hsw OUT hwq
          go_wp2
          go_quiet (fail)
          go_wp2
          go_roundw
          case rel =>
            rw [(HQ _).out]
            have e : IntKind.i64.wrap ((i : Int) + 1) = ((i + 1 : Nat) : Int) := by rw [IntKind.wrap_i64]; omega
            exact cast (by first | rfl | rw [e] | simp [e]) (HO _).out
          case measure => simp [intOf]; omega
        · rw [List.concat_eq_append] at h0
          subst h0
          simp only [List.length_append, List.length_singleton] at h12
          obtain ⟨s, hs⟩ : ∃ s, S0.length = s := ⟨_, rfl⟩
          obtain ⟨jp, hjp⟩ : ∃ jp, a + s = jp := ⟨_, rfl⟩
          have e1 : P ++ ((S0 ++ [y]) ++ x :: (S2 ++ (R ++ T))) = (P ++ S0) ++ y :: x :: (S2 ++ (R ++ T)) := by simp
          have l1 : (P ++ S0).length = jp := by rw [List.length_append, HA.out, hs, hjp]
          have ll : ((P ++ S0) ++ y :: x :: (S2 ++ (R ++ T))).length = L0.length := by
            rw [HN.out, List.length_append, l1]
            simp only [List.length_cons, List.length_append]
            have := HLEN.out; have := HSR.out; omega
          have hll := ll
          rw [HN.out, List.length_append, l1] at hll
          simp only [List.length_cons, List.length_append] at hll
          rw [show P.length + (S0 ++ [y]).length = jp + 1 by rw [HA.out, List.length_append, hs, List.length_singleton]; omega]
          obtain ⟨wq, hwq⟩ : ∃ wq, RW w g off (P ++ ((S0 ++ [y]) ++ x :: (S2 ++ (R ++ T)))) k2 = wq := ⟨_, rfl⟩
          rw [hwq]
          have HWQ : Hid (RW w g off ((P ++ S0) ++ y :: x :: (S2 ++ (R ++ T))) k2 = wq) := Lib.hid (by rw [← hwq, e1])
          have v1 : ((P ++ S0) ++ y :: x :: (S2 ++ (R ++ T))).getD jp 0 = y := by rw [← l1]; exact getD_mid _ _ y
          have v2 : ((P ++ S0) ++ y :: x :: (S2 ++ (R ++ T))).getD (jp + 1) 0 = x := by rw [← l1]; exact getD_two (P ++ S0) [] _ y x
          have k1 := RW_cell (m := k2) (i := jp) HH.out ll (by rw [ll, HN.out]; omega)
          have k3 := RW_cell (m := k2) (i := jp + 1) HH.out ll (by rw [ll, HN.out]; omega)
          rw [v1, HWQ.out] at k1
          rw [v2, HWQ.out] at k3
          have HSW : ∀ q, Hid ((((wq.drewN q).setCell ⟨g, off + (jp + 1), none⟩ (.int .i32 y)).setCell ⟨g, off + jp, none⟩ (.int .i32 x)).drew = RW w g off (P ++ (S0 ++ x :: (y :: S2 ++ (R ++ T)))) (k2 + q + 1)) := fun q => by
            refine Lib.hid ?_
            have h := RW_swap w g off ((P ++ S0) ++ y :: x :: (S2 ++ (R ++ T))) (k2 + q) (jp + 1) jp (by rw [ll, HN.out]; omega) (by rw [ll, HN.out]; omega)
            rw [v1, v2, swpL_comm _ (show jp + 1 ≠ jp by omega), ← l1, swpL_next, l1, ← RW_drew, HWQ.out] at h
            rw [h]
            congr 1
            simp
          obtain ⟨c1, f1⟩ := k1
          obtain ⟨c2, f2⟩ := k3
          have wj : IntKind.i64.wrap (((jp + 1 : Nat) : Int) - 1) = (jp : Int) := by rw [IntKind.wrap_i64]; omega
          have wj' : IntKind.i64.wrap ((jp : Int)) = (jp : Int) := by rw [IntKind.wrap_i64]; omega
          have ja : (a : Int) < ((jp + 1 : Nat) : Int) := by omega
          have ja' : (a : Int) < (jp : Int) + 1 := by omega
          have p1 : (jp : Int) < (N : Int) := by omega
          have p2 : (jp : Int) + 1 < (N : Int) := by omega
          have p0 : (0 : Int) ≤ (jp : Int) + 1 := by omega
          have e0 : ((jp : Int) + 1).toNat = jp + 1 := by omega
          have hC := fun w => cmp_c x y w
          obtain ⟨bx0, bx1⟩ := class_bounds x
          obtain ⟨by0, by1⟩ := class_bounds y
          have HL := Lib.hid h12
          have HSO := Lib.hid hsort
          have HGT := Lib.hid hgt
          have HSWP := Lib.hid hsw
          have HS0 := Lib.hid hs
          have HJP := Lib.hid hjp
          by_cases hxy : classI x < classI y
          · have HR : ∀ q, Hid (InsRel2 w g off P A T x n R (.int .i64 jp) (RW w g off (P ++ (S0 ++ x :: (y :: S2 ++ (R ++ T)))) q)) := fun q =>
              Lib.hid ⟨S0, y :: S2, q, by simp only [List.length_cons]; omega, by rw [HA.out, hs, hjp], by simpa using hsort, by
                intro z hz
                rcases List.mem_cons.1 hz with rfl | hz
                · exact hxy
                · exact hgt z hz, by
                refine hsw.trans ?_
                have hy := HPOS.out
                have hpx : 0 < classI x := hy x (hsw.perm.mem_iff.2 (by simp))
                have := SwapsM.step (c := classI) (l := S0 ++ x :: y :: (S2 ++ R)) S0 (S2 ++ R) y x (wrong_yes classI ⟨hpx, hxy⟩) (.same _)
                simpa using this, rfl⟩
            clear OUT hsw hsort hgt hwq e1 l1 ll hll v1 v2 h12 hs hjp
            generalize classI x = cx at *
            generalize classI y = cy at *
            go_wp2_with fail
            go_quiet ((go_at_call 222; exact Calls.quiet_of_same ((hC _).mono fun _ _ h => ⟨h.1, h.2⟩)))
            have hlt0 : cx - cy < 0 := by omega
            go_wp2_with fail
            have c1' : (wq.drewN nq).cell? ⟨g, off + jp, none⟩ = some (.int .i32 y) := c1
            have c2' : (wq.drewN nq).cell? ⟨g, off + (jp + 1), none⟩ = some (.int .i32 x) := c2
            have f1' : (wq.drewN nq).frozen? ⟨g, off + jp, none⟩ = false := f1
            have f2' : (wq.drewN nq).frozen? ⟨g, off + (jp + 1), none⟩ = false := f2
            have HSN := HSW nq
            clear c1 c2 f1 f2 hC HWQ HSW
            generalize wq.drewN nq = wq2 at *
            obtain ⟨j1, hj1⟩ : ∃ j1, j1 = jp + 1 := ⟨_, rfl⟩
            rw [← hj1] at c2' f2' e0 HSN
            clear hj1
            go_big_region
            all_goals go_wp2
            exact ⟨by rw [HSN.out]; exact (HR _).out, by simp [intOf]⟩
          · have HO := OUT (fun S0' y' h => by
              have := List.append_inj' h rfl
              have : y = y' := by simpa using this.2
              subst this; omega)
            have hge0 : ¬ (classI x - classI y < 0) := by omega
            have HQ : ∀ q, Hid (wq.drewN q = RW w g off (P ++ ((S0 ++ [y]) ++ x :: (S2 ++ (R ++ T)))) (k2 + q)) := fun q => Lib.hid (by rw [← hwq, RW_drew])
            have hi1 : i + 1 < 1000001 := by omega
            clear OUT hsw hsort hgt hwq e1 l1 ll hll v1 v2 h12 hs hjp HSW
            generalize classI x = cx at *
            generalize classI y = cy at *
            go_wp2_with fail
            go_quiet ((go_at_call 222; exact Calls.quiet_of_same ((hC _).mono fun _ _ h => ⟨h.1, h.2⟩)))
            go_wp2
            go_roundw
            case rel =>
              rw [(HQ _).out]
              have e : IntKind.i64.wrap ((i : Int) + 1) = ((i + 1 : Nat) : Int) := by rw [IntKind.wrap_i64]; omega
              exact cast (by first | rfl | rw [e] | simp [e]) (HO _).out
            case measure => simp [intOf]; omega
    · have hib : i = b := by have := HB.out; omega
      have hR0 : R = [] := by
        apply List.eq_nil_of_length_eq_zero
        have := HB.out; omega
      subst hR0
      rw [List.append_nil] at hsw
      have HX : Hid (SortPost w g off P A T (RW w g off (P ++ (S ++ ([] ++ T))) k)) := Lib.hid ⟨S, k, hsw, hsort, rfl⟩
      have hge : ¬ ((i : Int) < (b : Int)) := by omega
      clear hib hSR hi hsw hsort hn
      go_wp2
      go_end0
      exact ⟨rfl, HX.out⟩
end Go.Proofs.YtfioknaadbgjlaaGreatDoor.F
namespace Go.Proofs.YtfioknaadbgjlaaGreatDoor.F
open Go.RowKit Go.Sort
theorem sorted_at {B : List Int} (h : SortedM B) (s t : Nat) (hst : s ≤ t) (ht : t < B.length) : classI (B.getD s 0) ≤ classI (B.getD t 0) := by
  by_cases e : s = t
  · subst e; omega
  · unfold SortedM at h
    rw [List.pairwise_iff_getElem] at h
    have := h s t (by omega) ht (by omega)
    simpa [List.getD_eq_getElem?_getD, List.getElem?_eq_getElem ht, List.getElem?_eq_getElem (show s < B.length by omega)] using this
theorem getD_take {B : List Int} {i t : Nat} (h : t < i) : (B.take i).getD t 0 = B.getD t 0 := by
  simp [List.getD_eq_getElem?_getD, h]
theorem getD_drop {B : List Int} {i t : Nat} : (B.drop i).getD t 0 = B.getD (i + t) 0 := by
  simp [List.getD_eq_getElem?_getD]
theorem mem_getD {B : List Int} {y : Int} (h : y ∈ B) : ∃ t, t < B.length ∧ B.getD t 0 = y := by
  obtain ⟨t, ht, e⟩ := List.getElem_of_mem h
  exact ⟨t, ht, by simp [List.getD_eq_getElem?_getD, List.getElem?_eq_getElem ht, e]⟩
theorem mem_take_getD {B : List Int} {i : Nat} {y : Int} (h : y ∈ B.take i) : ∃ t, t < i ∧ t < B.length ∧ B.getD t 0 = y := by
  obtain ⟨t, ht, e⟩ := mem_getD h
  rw [List.length_take] at ht
  exact ⟨t, by omega, by omega, by rw [← e, getD_take (by omega)]⟩
theorem mem_drop_getD {B : List Int} {i : Nat} {y : Int} (h : y ∈ B.drop i) : ∃ t, i ≤ t ∧ t < B.length ∧ B.getD t 0 = y := by
  obtain ⟨t, ht, e⟩ := mem_getD h
  rw [List.length_drop] at ht
  exact ⟨i + t, by omega, by omega, by rw [← e, getD_drop]⟩
/-- One mark among those in order: all before it of a lower class, none behind it. -/
theorem one_in {x : Int} {B1 B2 : List Int} (h : SortedM (B1 ++ B2)) (hx : PosM (B1 ++ B2)) (h1 : ∀ y ∈ B1, classI y < classI x) (h2 : ∀ y ∈ B2, classI x ≤ classI y) : SwapsM classI (x :: (B1 ++ B2)) (B1 ++ x :: B2) ∧ SortedM (B1 ++ x :: B2) := by
  refine ⟨SwapsM.one B1 (fun y hy => wrong_yes classI ⟨hx y (by simp [hy]), h1 y hy⟩) B2, ?_⟩
  unfold SortedM at *
  rw [List.pairwise_append] at h ⊢
  refine ⟨h.1, by rw [List.pairwise_cons]; exact ⟨h2, h.2.1⟩, ?_⟩
  intro a ha b hb
  rcases List.mem_cons.1 hb with rfl | hb
  · have := h1 a ha; omega
  · exact h.2.2 a ha b hb
theorem row_at (P A T : List Int) (d : Nat) (h : d < A.length) : (P ++ (A ++ T)).getD (P.length + d) 0 = A.getD d 0 := by
  simp only [List.getD_eq_getElem?_getD]
  rw [List.getElem?_append_right (by omega), Nat.add_sub_cancel_left, List.getElem?_append_left h]
def FindRel (w : World) (g off : Nat) (L : List Int) (lo hi : Nat) (B : List Int) (x : Int) (iv jv : Value) (wr : World) : Prop :=
  ∃ i j k, iv = .int .i64 (i : Nat) ∧ jv = .int .i64 (j : Nat) ∧ lo ≤ i ∧ i ≤ j ∧ j ≤ hi ∧ (∀ t, lo + t < i → classI (B.getD t 0) < classI x) ∧ (∀ t, j ≤ lo + t → lo + t < hi → classI x ≤ classI (B.getD t 0)) ∧ wr = RW w g off L k
def MoveRel (w : World) (g off a : Nat) (P B1 R : List Int) (x : Int) (kv : Value) (wr : World) : Prop :=
  ∃ (Ba Bb : List Int) (k : Nat), B1 = Ba ++ Bb ∧ kv = .int .i64 (a + Ba.length : Nat) ∧ wr = RW w g off (P ++ (Ba ++ x :: (Bb ++ R))) k
set_option maxHeartbeats 4000000 in
set_option maxRecDepth 100000 in
theorem sym_left (w : World) (g off cap N : Nat) (L0 : List Int) (hH : Holds encSo w g off L0.toArray) (hN : L0.length = N) (hsz : N < 1000000) (P B T : List Int) (x : Int) (hpos : PosM B) (hsort : SortedM B) (hL : (P ++ (x :: (B ++ T))).length = N) (a M b : Nat) (ha : P.length = a) (hM : a + 1 = M) (hb : M + B.length = b) (m : Nat) :
    Calls Tryz.prog 232 #[.slice (some ⟨g, off, none⟩) N cap, .int .i64 a, .int .i64 M, .int .i64 b, cmpV] (RW w g off (P ++ (x :: (B ++ T))) m)
      fun e w' => e = .returned (.tuple #[]) ∧ SortPost w g off P (x :: B) T w' := by
  have hlen := hL
  simp only [List.length_append, List.length_cons] at hlen
  rw [ha] at hlen
  have hbN : b ≤ N := by omega
  have HH := Lib.hid hH
  have HN := Lib.hid hN
  have HL := Lib.hid hL
  have HB := Lib.hid hb
  have HPA := Lib.hid ha
  have HP := Lib.hid hpos
  have HS := Lib.hid hsort
  obtain ⟨W0, hW0⟩ : ∃ W0, RW w g off (P ++ (x :: (B ++ T))) m = W0 := ⟨_, rfl⟩
  rw [hW0]
  have HF : Hid (FindRel w g off (P ++ (x :: (B ++ T))) M b B x (.int .i64 M) (.int .i64 b) W0) := Lib.hid ⟨M, b, m, rfl, rfl, by omega, by omega, by omega, fun t ht => by omega, fun t h1 h2 => by omega, hW0.symm⟩
  have wm : IntKind.i64.wrap ((M : Int) - (a : Int)) = 1 := by rw [IntKind.wrap_i64]; omega
  have hM0 : a < M := by omega
  have HMA := Lib.hid hM
  have hMb : M ≤ b := by omega
  clear hH hN hL hb hpos hsort hW0 hlen ha hM
  go_enter Tryz.func232, Tryz.ntmps232
  go_wp2
  clear wm
  go_loopw [10, 11] (fun iv jv wr => FindRel w g off (P ++ (x :: (B ++ T))) M b B x iv jv wr) (fun iv jv _ => (intOf jv).toNat - (intOf iv).toNat)
  case atStart => exact HF.out
  case round =>
    obtain ⟨i, j, k, rfl, rfl, hi0, hij, hjb, hlo, hhi, rfl⟩ := hrel
    have HLO := Lib.hid hlo
    have HHI := Lib.hid hhi
    clear hlo hhi
    by_cases hlt : i < j
    · obtain ⟨h, hh⟩ : ∃ h, (i + j) / 2 = h := ⟨_, rfl⟩
      have hih : i ≤ h := by omega
      have hhj : h < j := by omega
      have wh : ((i : Int) + (j : Int)) / 2 = (h : Int) := by omega
      obtain ⟨d, hd⟩ : ∃ d, M + d = h := ⟨h - M, by omega⟩
      have hdB : d < B.length := by have := HB.out; omega
      obtain ⟨y, hy⟩ : ∃ y, B.getD d 0 = y := ⟨_, rfl⟩
      obtain ⟨wq, hwq⟩ : ∃ wq, RW w g off (P ++ (x :: (B ++ T))) k = wq := ⟨_, rfl⟩
      rw [hwq]
      have k1 := RW_cell (m := k) (i := a) HH.out (by rw [HL.out, HN.out]) (by rw [HL.out]; omega)
      have k2 := RW_cell (m := k) (i := h) HH.out (by rw [HL.out, HN.out]) (by rw [HL.out]; omega)
      have v1 : (P ++ (x :: (B ++ T))).getD a 0 = x := by rw [← HPA.out]; exact getD_mid _ _ x
      have v2 : (P ++ (x :: (B ++ T))).getD h 0 = y := by
        have := row_at (P ++ [x]) B T d hdB
        rw [List.length_append, HPA.out, List.length_singleton, HMA.out, hd, hy] at this
        rw [← this]; simp
      rw [v1, hwq] at k1
      rw [v2, hwq] at k2
      obtain ⟨c1, f1⟩ := k1
      obtain ⟨c2, f2⟩ := k2
      have hC := fun w => cmp_c y x w
      obtain ⟨bx0, bx1⟩ := class_bounds x
      obtain ⟨by0, by1⟩ := class_bounds y
      have HQ : ∀ q, Hid (wq.drewN q = RW w g off (P ++ (x :: (B ++ T))) (k + q)) := fun q => Lib.hid (by rw [← hwq, RW_drew])
      have ijz : (i : Int) < (j : Int) := by omega
      have p1 : (h : Int) < (N : Int) := by omega
      have p2 : (a : Int) < (N : Int) := by omega
      have wij : IntKind.i64.wrap ((i : Int) + (j : Int)) = (i : Int) + (j : Int) := by rw [IntKind.wrap_i64]; omega
      by_cases hyx : classI y < classI x
      · have hlt0 : classI y - classI x < 0 := by omega
        have HR : ∀ q, Hid (FindRel w g off (P ++ (x :: (B ++ T))) M b B x (.int .i64 ((h + 1 : Nat) : Int)) (.int .i64 j) (RW w g off (P ++ (x :: (B ++ T))) q)) := fun q =>
          Lib.hid ⟨h + 1, j, q, rfl, rfl, by omega, by omega, hjb, fun t ht => by
            have := sorted_at HS.out t d (by omega) hdB
            rw [hy] at this; omega, HHI.out, rfl⟩
        clear hwq v1 v2 hy hd hdB hh
        generalize classI x = cx at *
        generalize classI y = cy at *
        go_wp2_with fail
        go_quiet ((go_at_call 222; exact Calls.quiet_of_same ((hC _).mono fun _ _ h => ⟨h.1, h.2⟩)))
        go_wp2
        go_roundw
        case rel =>
          rw [(HQ _).out]
          exact (HR _).out
        case measure => simp [intOf]; omega
      · have hge0 : ¬ (classI y - classI x < 0) := by omega
        have HR : ∀ q, Hid (FindRel w g off (P ++ (x :: (B ++ T))) M b B x (.int .i64 i) (.int .i64 h) (RW w g off (P ++ (x :: (B ++ T))) q)) := fun q =>
          Lib.hid ⟨i, h, q, rfl, rfl, by omega, by omega, by omega, HLO.out, fun t h1 h2 => by
            have := sorted_at HS.out d t (by omega) (by have := HB.out; omega)
            rw [hy] at this; omega, rfl⟩
        clear hwq v1 v2 hy hd hdB hh
        generalize classI x = cx at *
        generalize classI y = cy at *
        go_wp2_with fail
        go_quiet ((go_at_call 222; exact Calls.quiet_of_same ((hC _).mono fun _ _ h => ⟨h.1, h.2⟩)))
        go_wp2
        go_roundw
        case rel =>
          rw [(HQ _).out]
          exact (HR _).out
        case measure => simp [intOf]; omega
    · have hji : j = i := by omega
      subst hji
      obtain ⟨s, hs⟩ : ∃ s, M + s = j := ⟨j - M, by omega⟩
      have hsB : s ≤ B.length := by have := HB.out; omega
      obtain ⟨B1, hB1⟩ : ∃ B1, B.take s = B1 := ⟨_, rfl⟩
      obtain ⟨B2, hB2⟩ : ∃ B2, B.drop s = B2 := ⟨_, rfl⟩
      have hBB : B = B1 ++ B2 := by rw [← hB1, ← hB2, List.take_append_drop]
      have l1 : B1.length = s := by rw [← hB1, List.length_take]; omega
      have q1 : ∀ y ∈ B1, classI y < classI x := fun y hy => by
        rw [← hB1] at hy
        obtain ⟨t, h1, h2, rfl⟩ := mem_take_getD hy
        exact HLO.out t (by omega)
      have q2 : ∀ y ∈ B2, classI x ≤ classI y := fun y hy => by
        rw [← hB2] at hy
        obtain ⟨t, h1, h2, rfl⟩ := mem_drop_getD hy
        exact HHI.out t (by omega) (by have := HB.out; omega)
      have hone := one_in (x := x) (by rw [← hBB]; exact HS.out) (by rw [← hBB]; exact HP.out) q1 q2
      rw [← hBB] at hone
      have HONE : ∀ q, Hid (SortPost w g off P (x :: B) T (RW w g off (P ++ (B1 ++ x :: (B2 ++ T))) q)) := fun q => Lib.hid ⟨B1 ++ x :: B2, q, hone.1, hone.2, by simp⟩
      have HBB := Lib.hid hBB
      have HL1 := Lib.hid l1
      have HS1 := Lib.hid hs
      obtain ⟨W1, hW1⟩ : ∃ W1, RW w g off (P ++ (x :: (B ++ T))) k = W1 := ⟨_, rfl⟩
      rw [hW1]
      have HMV : Hid (MoveRel w g off a P B1 (B2 ++ T) x (.int .i64 a) W1) := Lib.hid ⟨[], B1, k, rfl, rfl, by rw [← hW1, hBB]; simp⟩
      have wj : IntKind.i64.wrap ((j : Int) - 1) = (j : Int) - 1 := by rw [IntKind.wrap_i64]; omega
      have hj1 : 1 ≤ j := by omega
      have hjN : j ≤ N := by omega
      clear hB1 hB2 hBB l1 q1 q2 hone hW1 hsB hs
      go_wp2
      go_loopw [13] (fun kv wr => MoveRel w g off a P B1 (B2 ++ T) x kv wr) (fun kv _ => j - (intOf kv).toNat)
      case atStart => exact HMV.out
      case round =>
        obtain ⟨Ba, Bb, kk, hab, rfl, rfl⟩ := hrel
        obtain ⟨u, hu⟩ : ∃ u, Ba.length = u := ⟨_, rfl⟩
        rw [hu]
        obtain ⟨z, hz⟩ : ∃ z, a + u = z := ⟨_, rfl⟩
        rw [hz]
        have hlab := congrArg List.length hab
        rw [List.length_append, HL1.out, hu] at hlab
        cases Bb with
        | nil =>
          have hzj : z = j - 1 := by
            have := HS1.out; have := HMA.out
            simp at hlab; omega
          have hge : ¬ ((z : Int) < (j : Int) - 1) := by omega
          have HX : Hid (SortPost w g off P (x :: B) T (RW w g off (P ++ (Ba ++ x :: ([] ++ (B2 ++ T)))) kk)) := Lib.hid (by
            have := (HONE kk).out
            rw [hab] at this
            simpa using this)
          clear hzj hlab hab hu hz
          go_wp2
          (try simp only [Exit.inBlock, Exit.then])
          refine bodyPost_ret (results_none rfl _ _ _) rfl ?_
          exact ⟨rfl, HX.out⟩
        | cons y Bb =>
          simp only [List.length_cons] at hlab
          have hzj : z < j - 1 := by
            have := HS1.out; have := HMA.out; omega
          have hzjz : (z : Int) < (j : Int) - 1 := by omega
          have e1 : P ++ (Ba ++ x :: (y :: Bb ++ (B2 ++ T))) = (P ++ Ba) ++ x :: y :: (Bb ++ (B2 ++ T)) := by simp
          have l1 : (P ++ Ba).length = z := by rw [List.length_append, HPA.out, hu, hz]
          have ll : ((P ++ Ba) ++ x :: y :: (Bb ++ (B2 ++ T))).length = L0.length := by
            rw [HN.out, ← HL.out, HBB.out, hab]; simp; omega
          obtain ⟨wq, hwq⟩ : ∃ wq, RW w g off (P ++ (Ba ++ x :: (y :: Bb ++ (B2 ++ T)))) kk = wq := ⟨_, rfl⟩
          rw [hwq]
          rw [e1] at hwq
          have k1 := RW_cell (m := kk) (i := z) HH.out ll (by rw [ll, HN.out]; omega)
          have k2 := RW_cell (m := kk) (i := z + 1) HH.out ll (by rw [ll, HN.out]; omega)
          have v1 : ((P ++ Ba) ++ x :: y :: (Bb ++ (B2 ++ T))).getD z 0 = x := by rw [← l1]; exact getD_mid _ _ x
          have v2 : ((P ++ Ba) ++ x :: y :: (Bb ++ (B2 ++ T))).getD (z + 1) 0 = y := by rw [← l1]; exact getD_two (P ++ Ba) [] _ x y
          rw [v1, hwq] at k1
          rw [v2, hwq] at k2
          obtain ⟨z1, hz1⟩ : ∃ z1, z + 1 = z1 := ⟨_, rfl⟩
          have HSW : Hid ((((wq).setCell ⟨g, off + z, none⟩ (.int .i32 y)).setCell ⟨g, off + z1, none⟩ (.int .i32 x)).drew = RW w g off (P ++ ((Ba ++ [y]) ++ x :: (Bb ++ (B2 ++ T)))) (kk + 1)) := by
            refine Lib.hid ?_
            have h := RW_swap w g off ((P ++ Ba) ++ x :: y :: (Bb ++ (B2 ++ T))) kk z (z + 1) (by rw [ll, HN.out]; omega) (by rw [ll, HN.out]; omega)
            rw [v1, v2, ← l1, swpL_next, l1, hwq, hz1] at h
            rw [h]
            congr 1
            simp
          rw [hz1] at k2
          obtain ⟨c1, f1⟩ := k1
          obtain ⟨c2, f2⟩ := k2
          have wz : IntKind.i64.wrap ((z : Int) + 1) = (z1 : Int) := by rw [IntKind.wrap_i64]; omega
          have hne : z ≠ z1 := by omega
          have hne' : z1 ≠ z := by omega
          have p1 : (z : Int) < (N : Int) := by omega
          have p2 : (z1 : Int) < (N : Int) := by omega
          have HR : Hid (MoveRel w g off a P B1 (B2 ++ T) x (.int .i64 z1) (RW w g off (P ++ ((Ba ++ [y]) ++ x :: (Bb ++ (B2 ++ T)))) (kk + 1))) := Lib.hid ⟨Ba ++ [y], Bb, kk + 1, by rw [hab]; simp, by rw [List.length_append, hu, List.length_singleton, ← Nat.add_assoc, hz, hz1], rfl⟩
          have hzz : j - z1 < j - z := by omega
          clear hwq e1 l1 ll v1 v2 hlab hab hu hz hz1
          go_wp2_with fail
          go_big_region
          all_goals go_wp2
          all_goals exact ⟨by rw [HSW.out]; exact HR.out, by simp [intOf]; omega⟩
end Go.Proofs.YtfioknaadbgjlaaGreatDoor.F
namespace Go.Proofs.YtfioknaadbgjlaaGreatDoor.F
open Go.RowKit Go.Sort
theorem one_left {x : Int} {A1 A2 : List Int} (h : SortedM (A1 ++ A2)) (hx : 0 < classI x) (h1 : ∀ y ∈ A1, classI y ≤ classI x) (h2 : ∀ y ∈ A2, classI x < classI y) : SwapsM classI ((A1 ++ A2) ++ [x]) (A1 ++ x :: A2) ∧ SortedM (A1 ++ x :: A2) := by
  refine ⟨?_, ?_⟩
  · have := (SwapsM.rotate (c := classI) A2 [x] (fun y hy z hz => by simp at hz; subst hz; exact wrong_yes classI ⟨hx, h2 y hy⟩)).within A1 []
    simpa using this
  · unfold SortedM at *
    rw [List.pairwise_append] at h ⊢
    refine ⟨h.1, by rw [List.pairwise_cons]; exact ⟨fun y hy => by have := h2 y hy; omega, h.2.1⟩, ?_⟩
    intro a ha b hb
    rcases List.mem_cons.1 hb with rfl | hb
    · exact h1 a ha
    · exact h.2.2 a ha b hb
def FindRelR (w : World) (g off : Nat) (L : List Int) (lo hi : Nat) (A : List Int) (x : Int) (iv jv : Value) (wr : World) : Prop :=
  ∃ i j k, iv = .int .i64 (i : Nat) ∧ jv = .int .i64 (j : Nat) ∧ lo ≤ i ∧ i ≤ j ∧ j ≤ hi ∧ (∀ t, lo + t < i → classI (A.getD t 0) ≤ classI x) ∧ (∀ t, j ≤ lo + t → lo + t < hi → classI x < classI (A.getD t 0)) ∧ wr = RW w g off L k
def MoveRelR (w : World) (g off a : Nat) (P A1 A2 T : List Int) (x : Int) (kv : Value) (wr : World) : Prop :=
  ∃ (Aa Ab : List Int) (k : Nat), A2 = Aa ++ Ab ∧ kv = .int .i64 (a + A1.length + Aa.length : Nat) ∧ wr = RW w g off (P ++ (A1 ++ (Aa ++ x :: (Ab ++ T)))) k
set_option maxHeartbeats 4000000 in
set_option maxRecDepth 100000 in
theorem sym_right (w : World) (g off cap N : Nat) (L0 : List Int) (hH : Holds encSo w g off L0.toArray) (hN : L0.length = N) (hsz : N < 1000000) (P A T : List Int) (x : Int) (hA2 : 2 ≤ A.length) (hpos : 0 < classI x) (hsort : SortedM A) (hL : (P ++ (A ++ x :: T)).length = N) (a M b : Nat) (ha : P.length = a) (hM : a + A.length = M) (hb : M + 1 = b) (m : Nat) :
    Calls Tryz.prog 232 #[.slice (some ⟨g, off, none⟩) N cap, .int .i64 a, .int .i64 M, .int .i64 b, cmpV] (RW w g off (P ++ (A ++ x :: T)) m)
      fun e w' => e = .returned (.tuple #[]) ∧ SortPost w g off P (A ++ [x]) T w' := by
  have hlen := hL
  simp only [List.length_append, List.length_cons] at hlen
  rw [ha] at hlen
  have hbN : b ≤ N := by omega
  have HH := Lib.hid hH
  have HN := Lib.hid hN
  have HL := Lib.hid hL
  have HB := Lib.hid hM
  have HPA := Lib.hid ha
  have HP := Lib.hid hpos
  have HS := Lib.hid hsort
  obtain ⟨W0, hW0⟩ : ∃ W0, RW w g off (P ++ (A ++ x :: T)) m = W0 := ⟨_, rfl⟩
  rw [hW0]
  have HF : Hid (FindRelR w g off (P ++ (A ++ x :: T)) a M A x (.int .i64 a) (.int .i64 M) W0) := Lib.hid ⟨a, M, m, rfl, rfl, by omega, by omega, by omega, fun t ht => by omega, fun t h1 h2 => by omega, hW0.symm⟩
  obtain ⟨n, hn⟩ : ∃ n, A.length = n := ⟨_, rfl⟩
  have wm : IntKind.i64.wrap ((M : Int) - (a : Int)) = (n : Int) := by rw [IntKind.wrap_i64]; omega
  have wm1 : ((n : Int) == 1) = false := by rw [beq_eq_false_iff_ne]; omega
  have wb : IntKind.i64.wrap ((b : Int) - (M : Int)) = 1 := by rw [IntKind.wrap_i64]; omega
  have hM0 : a < M := by omega
  have hMb : M < b := by omega
  clear hH hN hL hM hpos hsort hW0 hlen ha hb hn hA2
  go_enter Tryz.func232, Tryz.ntmps232
  go_wp2
  clear wm wb wm1
  go_loopw [14, 15] (fun iv jv wr => FindRelR w g off (P ++ (A ++ x :: T)) a M A x iv jv wr) (fun iv jv _ => (intOf jv).toNat - (intOf iv).toNat)
  case atStart => exact HF.out
  case round =>
    obtain ⟨i, j, k, rfl, rfl, hi0, hij, hjb, hlo, hhi, rfl⟩ := hrel
    have HLO := Lib.hid hlo
    have HHI := Lib.hid hhi
    clear hlo hhi
    by_cases hlt : i < j
    · obtain ⟨h, hh⟩ : ∃ h, (i + j) / 2 = h := ⟨_, rfl⟩
      have hih : i ≤ h := by omega
      have hhj : h < j := by omega
      have wh : ((i : Int) + (j : Int)) / 2 = (h : Int) := by omega
      obtain ⟨d, hd⟩ : ∃ d, a + d = h := ⟨h - a, by omega⟩
      have hdB : d < A.length := by have := HB.out; omega
      obtain ⟨y, hy⟩ : ∃ y, A.getD d 0 = y := ⟨_, rfl⟩
      obtain ⟨wq, hwq⟩ : ∃ wq, RW w g off (P ++ (A ++ x :: T)) k = wq := ⟨_, rfl⟩
      rw [hwq]
      have k1 := RW_cell (m := k) (i := M) HH.out (by rw [HL.out, HN.out]) (by rw [HL.out]; omega)
      have k2 := RW_cell (m := k) (i := h) HH.out (by rw [HL.out, HN.out]) (by rw [HL.out]; omega)
      have v1 : (P ++ (A ++ x :: T)).getD M 0 = x := by
        have := getD_mid (P ++ A) T x
        rw [List.length_append, HPA.out, HB.out] at this
        rw [← List.append_assoc]; exact this
      have v2 : (P ++ (A ++ x :: T)).getD h 0 = y := by
        have := row_at P A (x :: T) d hdB
        rw [HPA.out, hd, hy] at this
        exact this
      rw [v1, hwq] at k1
      rw [v2, hwq] at k2
      obtain ⟨c1, f1⟩ := k1
      obtain ⟨c2, f2⟩ := k2
      have hC := fun w => cmp_c x y w
      obtain ⟨bx0, bx1⟩ := class_bounds x
      obtain ⟨by0, by1⟩ := class_bounds y
      have HQ : ∀ q, Hid (wq.drewN q = RW w g off (P ++ (A ++ x :: T)) (k + q)) := fun q => Lib.hid (by rw [← hwq, RW_drew])
      have ijz : (i : Int) < (j : Int) := by omega
      have p1 : (h : Int) < (N : Int) := by omega
      have p2 : (M : Int) < (N : Int) := by omega
      have wij : IntKind.i64.wrap ((i : Int) + (j : Int)) = (i : Int) + (j : Int) := by rw [IntKind.wrap_i64]; omega
      by_cases hyx : classI x < classI y
      · have hlt0 : classI x - classI y < 0 := by omega
        have HR : ∀ q, Hid (FindRelR w g off (P ++ (A ++ x :: T)) a M A x (.int .i64 i) (.int .i64 h) (RW w g off (P ++ (A ++ x :: T)) q)) := fun q =>
          Lib.hid ⟨i, h, q, rfl, rfl, by omega, by omega, by omega, HLO.out, fun t h1 h2 => by
            have := sorted_at HS.out d t (by omega) (by have := HB.out; omega)
            rw [hy] at this; omega, rfl⟩
        clear hwq v1 v2 hy hd hdB hh
        generalize classI x = cx at *
        generalize classI y = cy at *
        go_wp2_with fail
        go_quiet ((go_at_call 222; exact Calls.quiet_of_same ((hC _).mono fun _ _ h => ⟨h.1, h.2⟩)))
        go_wp2
        go_roundw
        case rel =>
          rw [(HQ _).out]
          exact (HR _).out
        case measure => simp [intOf]; omega
      · have hge0 : ¬ (classI x - classI y < 0) := by omega
        have hge1 : (0 : Int) ≤ classI x - classI y := by omega
        have hge2 : classI y ≤ classI x := by omega
        have hge3 : decide (classI x - classI y < 0) = false := decide_eq_false hge0
        have HR : ∀ q, Hid (FindRelR w g off (P ++ (A ++ x :: T)) a M A x (.int .i64 ((h + 1 : Nat) : Int)) (.int .i64 j) (RW w g off (P ++ (A ++ x :: T)) q)) := fun q =>
          Lib.hid ⟨h + 1, j, q, rfl, rfl, by omega, by omega, hjb, fun t ht => by
            have := sorted_at HS.out t d (by omega) hdB
            rw [hy] at this; omega, HHI.out, rfl⟩
        clear hwq v1 v2 hy hd hdB hh
        generalize classI x = cx at *
        generalize classI y = cy at *
        go_wp2_with fail
        go_quiet ((go_at_call 222; exact Calls.quiet_of_same ((hC _).mono fun _ _ h => ⟨h.1, h.2⟩)))
        go_wp2
        go_roundw
        case rel =>
          rw [(HQ _).out]
          exact (HR _).out
        case measure => simp [intOf]; omega
    · have hji : j = i := by omega
      subst hji
      obtain ⟨s, hs⟩ : ∃ s, a + s = j := ⟨j - a, by omega⟩
      have hsB : s ≤ A.length := by have := HB.out; omega
      obtain ⟨A1, hA1⟩ : ∃ A1, A.take s = A1 := ⟨_, rfl⟩
      obtain ⟨A2, hA2⟩ : ∃ A2, A.drop s = A2 := ⟨_, rfl⟩
      have hAA : A = A1 ++ A2 := by rw [← hA1, ← hA2, List.take_append_drop]
      have l1 : A1.length = s := by rw [← hA1, List.length_take]; omega
      have q1 : ∀ y ∈ A1, classI y ≤ classI x := fun y hy => by
        rw [← hA1] at hy
        obtain ⟨t, h1, h2, rfl⟩ := mem_take_getD hy
        exact HLO.out t (by omega)
      have q2 : ∀ y ∈ A2, classI x < classI y := fun y hy => by
        rw [← hA2] at hy
        obtain ⟨t, h1, h2, rfl⟩ := mem_drop_getD hy
        exact HHI.out t (by omega) (by have := HB.out; omega)
      have hone := one_left (x := x) (by rw [← hAA]; exact HS.out) HP.out q1 q2
      rw [← hAA] at hone
      have HONE : ∀ q, Hid (SortPost w g off P (A ++ [x]) T (RW w g off (P ++ (A1 ++ x :: (A2 ++ T))) q)) := fun q => Lib.hid ⟨A1 ++ x :: A2, q, hone.1, hone.2, by simp⟩
      have HBB := Lib.hid hAA
      have HL1 := Lib.hid l1
      have HS1 := Lib.hid hs
      have HA2 : Hid (s + A2.length = A.length) := Lib.hid (by rw [hAA, List.length_append, l1])
      obtain ⟨W1, hW1⟩ : ∃ W1, RW w g off (P ++ (A ++ x :: T)) k = W1 := ⟨_, rfl⟩
      rw [hW1]
      have HMV : Hid (MoveRelR w g off a P A1 A2 T x (.int .i64 M) W1) := Lib.hid ⟨A2, [], k, by simp, by rw [l1, Nat.add_assoc, HA2.out, HB.out], by rw [← hW1, hAA]; simp⟩
      have hjN : j ≤ N := by omega
      clear hA1 hA2 hAA l1 q1 q2 hone hW1 hsB hs
      go_wp2
      go_loopw [17] (fun kv wr => MoveRelR w g off a P A1 A2 T x kv wr) (fun kv _ => (intOf kv).toNat)
      case atStart => exact HMV.out
      case round =>
        obtain ⟨Aa, Ab, kk, hab, rfl, rfl⟩ := hrel
        have hlab := congrArg List.length hab
        rw [List.length_append] at hlab
        rw [HL1.out, HS1.out]
        rcases List.eq_nil_or_concat Aa with h0 | ⟨Ac, y, h0⟩
        · subst h0
          have HX : Hid (SortPost w g off P (A ++ [x]) T (RW w g off (P ++ (A1 ++ ([] ++ x :: (Ab ++ T)))) kk)) := Lib.hid (by
            have := (HONE kk).out
            rw [hab] at this
            simpa using this)
          rw [show j + ([] : List Int).length = j from rfl]
          clear hlab hab
          go_wp2
          (try simp only [Exit.inBlock, Exit.then])
          refine bodyPost_ret (results_none rfl _ _ _) rfl ?_
          exact ⟨rfl, HX.out⟩
        · rw [List.concat_eq_append] at h0
          subst h0
          rw [List.length_append, List.length_singleton] at hlab
          obtain ⟨u, hu⟩ : ∃ u, Ac.length = u := ⟨_, rfl⟩
          obtain ⟨z, hz⟩ : ∃ z, j + u = z := ⟨_, rfl⟩
          rw [show j + (Ac ++ [y]).length = z + 1 by rw [List.length_append, hu, List.length_singleton]; omega]
          have e1 : P ++ (A1 ++ ((Ac ++ [y]) ++ x :: (Ab ++ T))) = (P ++ (A1 ++ Ac)) ++ y :: x :: (Ab ++ T) := by simp
          have l1 : (P ++ (A1 ++ Ac)).length = z := by rw [List.length_append, List.length_append, HPA.out, HL1.out, hu, ← Nat.add_assoc, HS1.out, hz]
          have hzM : z + 1 ≤ M := by have := HA2.out; have := HB.out; have := HS1.out; omega
          have ll : ((P ++ (A1 ++ Ac)) ++ y :: x :: (Ab ++ T)).length = L0.length := by
            rw [HN.out, ← HL.out, HBB.out, hab]; simp; omega
          obtain ⟨wq, hwq⟩ : ∃ wq, RW w g off (P ++ (A1 ++ ((Ac ++ [y]) ++ x :: (Ab ++ T)))) kk = wq := ⟨_, rfl⟩
          rw [hwq]
          rw [e1] at hwq
          have k1 := RW_cell (m := kk) (i := z) HH.out ll (by rw [ll, HN.out]; omega)
          have k2 := RW_cell (m := kk) (i := z + 1) HH.out ll (by rw [ll, HN.out]; omega)
          have v1 : ((P ++ (A1 ++ Ac)) ++ y :: x :: (Ab ++ T)).getD z 0 = y := by rw [← l1]; exact getD_mid _ _ y
          have v2 : ((P ++ (A1 ++ Ac)) ++ y :: x :: (Ab ++ T)).getD (z + 1) 0 = x := by rw [← l1]; exact getD_two (P ++ (A1 ++ Ac)) [] _ y x
          rw [v1, hwq] at k1
          rw [v2, hwq] at k2
          obtain ⟨z1, hz1⟩ : ∃ z1, z + 1 = z1 := ⟨_, rfl⟩
          have HSW : Hid ((((wq).setCell ⟨g, off + z1, none⟩ (.int .i32 y)).setCell ⟨g, off + z, none⟩ (.int .i32 x)).drew = RW w g off (P ++ (A1 ++ (Ac ++ x :: ((y :: Ab) ++ T)))) (kk + 1)) := by
            refine Lib.hid ?_
            have h := RW_swap w g off ((P ++ (A1 ++ Ac)) ++ y :: x :: (Ab ++ T)) kk (z + 1) z (by rw [ll, HN.out]; omega) (by rw [ll, HN.out]; omega)
            rw [v1, v2, swpL_comm _ (show z + 1 ≠ z by omega), ← l1, swpL_next, l1, hwq, hz1] at h
            rw [h]
            congr 1
            simp
          have HR : Hid (MoveRelR w g off a P A1 A2 T x (.int .i64 z) (RW w g off (P ++ (A1 ++ (Ac ++ x :: ((y :: Ab) ++ T)))) (kk + 1))) := Lib.hid ⟨Ac, y :: Ab, kk + 1, by rw [hab]; simp, by rw [HL1.out, HS1.out, hu, hz], rfl⟩
          rw [hz1] at k2
          rw [hz1]
          obtain ⟨c1, f1⟩ := k1
          obtain ⟨c2, f2⟩ := k2
          have wz : IntKind.i64.wrap ((z1 : Int) - 1) = (z : Int) := by rw [IntKind.wrap_i64]; omega
          have hne : z ≠ z1 := by omega
          have hne' : z1 ≠ z := by omega
          have p1 : (z : Int) < (N : Int) := by omega
          have p2 : (z1 : Int) < (N : Int) := by omega
          have hjz : (j : Int) < (z1 : Int) := by omega
          have hzz : z < z1 := by omega
          clear hwq e1 l1 ll v1 v2 hlab hab hu hz hz1
          go_wp2_with fail
          go_big_region
          all_goals go_wp2
          all_goals exact ⟨by rw [HSW.out]; exact HR.out, by simp [intOf]; omega⟩
end Go.Proofs.YtfioknaadbgjlaaGreatDoor.F
namespace Go.Proofs.YtfioknaadbgjlaaGreatDoor.F
open Go.RowKit Go.Sort
theorem sym_final {A1 A2 B1 B2 M1 M2 : List Int} (hpos : PosM (A1 ++ A2)) (hposB : PosM (B1 ++ B2)) (hA : SortedM (A1 ++ A2)) (hB : SortedM (B1 ++ B2))
    (h12 : ∀ x ∈ A1, ∀ y ∈ B2, classI x ≤ classI y) (h21 : ∀ x ∈ A2, ∀ y ∈ B1, classI y < classI x)
    (s1 : SwapsM classI (A1 ++ B1) M1) (o1 : SortedM M1) (s2 : SwapsM classI (A2 ++ B2) M2) (o2 : SortedM M2) :
    SwapsM classI ((A1 ++ A2) ++ (B1 ++ B2)) (M1 ++ M2) ∧ SortedM (M1 ++ M2) := by
  refine ⟨?_, ?_⟩
  · have r := (SwapsM.rotate (c := classI) A2 B1 (fun x hx y hy => wrong_yes classI ⟨hposB y (by simp [hy]), h21 x hx y hy⟩)).within A1 B2
    have r1 := s1.within [] (A2 ++ B2)
    have r2 := s2.within M1 []
    have r' : SwapsM classI ((A1 ++ A2) ++ (B1 ++ B2)) ((A1 ++ B1) ++ (A2 ++ B2)) := by simpa using r
    have r1' : SwapsM classI ((A1 ++ B1) ++ (A2 ++ B2)) (M1 ++ (A2 ++ B2)) := by simpa using r1
    have r2' : SwapsM classI (M1 ++ (A2 ++ B2)) (M1 ++ M2) := by simpa using r2
    exact (r'.trans r1').trans r2'
  · unfold SortedM at *
    rw [List.pairwise_append] at hA hB ⊢
    refine ⟨o1, o2, fun x hx y hy => ?_⟩
    have hx' := s1.perm.mem_iff.2 hx
    have hy' := s2.perm.mem_iff.2 hy
    rcases List.mem_append.1 hx' with hx' | hx' <;> rcases List.mem_append.1 hy' with hy' | hy'
    · exact hA.2.2 x hx' y hy'
    · exact h12 x hx' y hy'
    · have := h21 y hy' x hx'; omega
    · exact hB.2.2 x hx' y hy'
def LL (P A B T : List Int) : List Int := P ++ (A ++ (B ++ T))
def SymRel (w : World) (g off : Nat) (L : List Int) (a M mid b : Nat) (sv rv : Value) (wr : World) : Prop :=
  ∃ s r k : Nat, sv = .int .i64 s ∧ rv = .int .i64 r ∧ a ≤ s ∧ s ≤ r ∧ r ≤ M ∧ r ≤ mid ∧ mid + M ≤ s + b ∧
    (s ≤ a ∨ s + b ≤ mid + M ∨ classI (L.getD (s - 1) 0) ≤ classI (L.getD (mid + M - s) 0)) ∧
    (M ≤ r ∨ mid ≤ r ∨ classI (L.getD (mid + M - 1 - r) 0) < classI (L.getD r 0)) ∧ wr = RW w g off L k
/-- What the search has found: the parts that stay, and those that are changed about. -/
theorem sym_split {P A B T : List Int} {a M mid b s : Nat} (ha : P.length = a) (hM : a + A.length = M) (hb : M + B.length = b) (h1 : a ≤ s) (h2 : s ≤ M) (h3 : s ≤ mid) (h4 : mid + M ≤ s + b)
    (hA : SortedM A) (hB : SortedM B)
    (i1 : s ≤ a ∨ s + b ≤ mid + M ∨ classI ((LL P A B T).getD (s - 1) 0) ≤ classI ((LL P A B T).getD (mid + M - s) 0))
    (i2 : M ≤ s ∨ mid ≤ s ∨ classI ((LL P A B T).getD (mid + M - 1 - s) 0) < classI ((LL P A B T).getD s 0)) :
    ∃ A1 A2 B1 B2, A = A1 ++ A2 ∧ B = B1 ++ B2 ∧ a + A1.length = s ∧ s + A2.length = M ∧ s + B1.length = mid ∧ mid + M - s + B2.length = b ∧
      (∀ x ∈ A1, ∀ y ∈ B2, classI x ≤ classI y) ∧ (∀ x ∈ A2, ∀ y ∈ B1, classI y < classI x) := by
  have gA : ∀ d, d < A.length → (LL P A B T).getD (a + d) 0 = A.getD d 0 := fun d hd => by rw [← ha]; exact row_at P A (B ++ T) d hd
  have gB : ∀ d, d < B.length → (LL P A B T).getD (M + d) 0 = B.getD d 0 := fun d hd => by
    have := row_at (P ++ A) B T d hd
    rw [List.length_append, ha, hM] at this
    rw [← this]
    simp [LL]
  refine ⟨A.take (s - a), A.drop (s - a), B.take (mid - s), B.drop (mid - s), by simp, by simp, by rw [List.length_take]; omega, by rw [List.length_drop]; omega, by rw [List.length_take]; omega, by rw [List.length_drop]; omega, ?_, ?_⟩
  · intro x hx y hy
    obtain ⟨t, t1, t2, rfl⟩ := mem_take_getD hx
    obtain ⟨u, u1, u2, rfl⟩ := mem_drop_getD hy
    rcases i1 with i1 | i1 | i1
    · omega
    · omega
    · have e1 := gA (s - 1 - a) (by omega)
      have e2 := gB (mid - s) (by omega)
      rw [show a + (s - 1 - a) = s - 1 by omega] at e1
      rw [show M + (mid - s) = mid + M - s by omega] at e2
      rw [e1, e2] at i1
      have o1 := sorted_at hA t (s - 1 - a) (by omega) (by omega)
      have o2 := sorted_at hB (mid - s) u (by omega) u2
      omega
  · intro x hx y hy
    obtain ⟨t, t1, t2, rfl⟩ := mem_drop_getD hx
    obtain ⟨u, u1, u2, rfl⟩ := mem_take_getD hy
    rcases i2 with i2 | i2 | i2
    · omega
    · omega
    · have e1 := gA (s - a) (by omega)
      have e2 := gB (mid - 1 - s) (by omega)
      rw [show a + (s - a) = s by omega] at e1
      rw [show M + (mid - 1 - s) = mid + M - 1 - s by omega] at e2
      rw [e1, e2] at i2
      have o1 := sorted_at hA (s - a) t (by omega) (by omega)
      have o2 := sorted_at hB u (mid - 1 - s) (by omega) (by omega)
      omega
def SymSays (w : World) (g off cap N : Nat) (P A B T : List Int) : Prop :=
  1 ≤ A.length → 1 ≤ B.length → PosM A → PosM B → SortedM A → SortedM B → (LL P A B T).length = N → ∀ a M b m : Nat, P.length = a → a + A.length = M → M + B.length = b →
    Calls Tryz.prog 232 #[.slice (some ⟨g, off, none⟩) N cap, .int .i64 a, .int .i64 M, .int .i64 b, cmpV] (RW w g off (LL P A B T) m)
      fun e w' => e = .returned (.tuple #[]) ∧ SortPost w g off P (A ++ B) T w'
def Mid1 (w : World) (g off : Nat) (P A1 B1 A2 B2 T : List Int) (wr : World) : Prop := ∃ k, wr = RW w g off (P ++ (A1 ++ (B1 ++ (A2 ++ (B2 ++ T))))) k
def Mid2 (w : World) (g off : Nat) (P A1 B1 A2 B2 T : List Int) (wr : World) : Prop := ∃ M1 k, SwapsM classI (A1 ++ B1) M1 ∧ SortedM M1 ∧ wr = RW w g off (P ++ (M1 ++ (A2 ++ (B2 ++ T)))) k
set_option maxHeartbeats 8000000 in
set_option maxRecDepth 100000 in
theorem sym_gen (w : World) (g off cap N : Nat) (L0 : List Int) (hH : Holds encSo w g off L0.toArray) (hN : L0.length = N) (hsz : N < 1000000) (P A B T : List Int)
    (IH : ∀ P' A' B' T', A'.length + B'.length < A.length + B.length → SymSays w g off cap N P' A' B' T')
    (hA1 : 2 ≤ A.length) (hB1 : 2 ≤ B.length) (hpA : PosM A) (hpB : PosM B) (hA : SortedM A) (hB : SortedM B) (hL : (LL P A B T).length = N) (a M b m : Nat) (ha : P.length = a) (hM : a + A.length = M) (hb : M + B.length = b) :
    Calls Tryz.prog 232 #[.slice (some ⟨g, off, none⟩) N cap, .int .i64 a, .int .i64 M, .int .i64 b, cmpV] (RW w g off (LL P A B T) m)
      fun e w' => e = .returned (.tuple #[]) ∧ SortPost w g off P (A ++ B) T w' := by
  have hlen := hL
  simp only [LL, List.length_append] at hlen
  rw [ha] at hlen
  have hbN : b ≤ N := by omega
  obtain ⟨na, hna⟩ : ∃ n, A.length = n := ⟨_, rfl⟩
  obtain ⟨nb, hnb⟩ : ∃ n, B.length = n := ⟨_, rfl⟩
  have wm : IntKind.i64.wrap ((M : Int) - (a : Int)) = (na : Int) := by rw [IntKind.wrap_i64]; omega
  have wm1 : ((na : Int) == 1) = false := by rw [beq_eq_false_iff_ne]; omega
  have wb : IntKind.i64.wrap ((b : Int) - (M : Int)) = (nb : Int) := by rw [IntKind.wrap_i64]; omega
  have wb1 : ((nb : Int) == 1) = false := by rw [beq_eq_false_iff_ne]; omega
  obtain ⟨mid, hmid⟩ : ∃ mid, (a + b) / 2 = mid := ⟨_, rfl⟩
  have wab : IntKind.i64.wrap ((a : Int) + (b : Int)) = (a : Int) + (b : Int) := by rw [IntKind.wrap_i64]; omega
  have wmid : ((a : Int) + (b : Int)) / 2 = (mid : Int) := by omega
  obtain ⟨n, hn⟩ : ∃ n, mid + M = n := ⟨_, rfl⟩
  have wn : IntKind.i64.wrap ((mid : Int) + (M : Int)) = (n : Int) := by rw [IntKind.wrap_i64]; omega
  obtain ⟨p, hp⟩ : ∃ p, n - 1 = p := ⟨_, rfl⟩
  have wp : IntKind.i64.wrap ((n : Int) - 1) = (p : Int) := by rw [IntKind.wrap_i64]; omega
  have HH := Lib.hid hH
  have HN := Lib.hid hN
  have HL := Lib.hid hL
  have HLEN := Lib.hid hlen
  have HNA := Lib.hid hna
  have HNB := Lib.hid hnb
  have HPA := Lib.hid ha
  have HMA := Lib.hid hM
  have HMB := Lib.hid hb
  have HpA := Lib.hid hpA
  have HpB := Lib.hid hpB
  have HSA := Lib.hid hA
  have HSB := Lib.hid hB
  have HIH := Lib.hid IH
  have HNN := Lib.hid hn
  have HPP := Lib.hid hp
  have haM : a + 2 ≤ M := by omega
  have hMb : M + 2 ≤ b := by omega
  have hamid : a < mid := by omega
  have hmidb : mid < b := by omega
  have hm2 : 2 * mid ≤ a + b := by omega
  have hm3 : a + b ≤ 2 * mid + 1 := by omega
  obtain ⟨L, hLL⟩ : ∃ L, LL P A B T = L := ⟨_, rfl⟩
  rw [hLL] at HL ⊢
  obtain ⟨W0, hW0⟩ : ∃ W0, RW w g off L m = W0 := ⟨_, rfl⟩
  rw [hW0]
  have HLLE := Lib.hid hLL
  have HW0 := Lib.hid hW0
  clear hH hN hL hlen hna hnb ha hM hb hpA hpB hA hB IH hn hp hLL hW0 hmid
  by_cases hmm : mid < M
  obtain ⟨s0, hs0⟩ : ∃ s0, n - b = s0 := ⟨_, rfl⟩
  have hnn := HNN.out
  have ws : IntKind.i64.wrap ((n : Int) - (b : Int)) = (s0 : Int) := by rw [IntKind.wrap_i64]; omega
  have HSY : Hid (SymRel w g off L a M mid b (.int .i64 s0) (.int .i64 mid) W0) := Lib.hid ⟨s0, mid, m, rfl, rfl, by omega, by omega, by omega, by omega, by omega, Or.inr (Or.inl (by omega)), Or.inr (Or.inl (by omega)), HW0.out.symm⟩
  have hmmz : (mid : Int) < (M : Int) := by omega
  clear hs0 hnn
  go_enter Tryz.func232, Tryz.ntmps232
  rotate_left
  have hmM : M ≤ mid := by omega
  have HSY : Hid (SymRel w g off L a M mid b (.int .i64 a) (.int .i64 M) W0) := Lib.hid ⟨a, M, m, rfl, rfl, by omega, by omega, by omega, by omega, by omega, Or.inl (by omega), Or.inl (by omega), HW0.out.symm⟩
  have hmmz : ¬ ((mid : Int) < (M : Int)) := by omega
  go_enter Tryz.func232, Tryz.ntmps232
  all_goals go_wp2
  all_goals
    clear hmm hmmz
    go_loopw [20, 21] (fun sv rv wr => SymRel w g off L a M mid b sv rv wr) (fun sv rv _ => (intOf rv).toNat - (intOf sv).toNat)
    case atStart => exact HSY.out
    case round =>
      obtain ⟨s, r, k, rfl, rfl, has, hsr, hrM, hrm, hnb, hi1, hi2, rfl⟩ := hrel
      have HI1 := Lib.hid hi1
      have HI2 := Lib.hid hi2
      clear hi1 hi2
      by_cases hlt : s < r
      · obtain ⟨c, hc⟩ : ∃ c, (s + r) / 2 = c := ⟨_, rfl⟩
        have hsc : s ≤ c := by omega
        have hcr : c < r := by omega
        have wc : ((s : Int) + (r : Int)) / 2 = (c : Int) := by omega
        have hnn := HNN.out
        have hpp := HPP.out
        have hlen := HLEN.out
        obtain ⟨e, he⟩ : ∃ e, p - c = e := ⟨_, rfl⟩
        have wpc : IntKind.i64.wrap ((p : Int) - (c : Int)) = (e : Int) := by rw [IntKind.wrap_i64]; omega
        obtain ⟨x, hx⟩ : ∃ x, L.getD e 0 = x := ⟨_, rfl⟩
        obtain ⟨y, hy⟩ : ∃ y, L.getD c 0 = y := ⟨_, rfl⟩
        obtain ⟨wq, hwq⟩ : ∃ wq, RW w g off L k = wq := ⟨_, rfl⟩
        rw [hwq]
        have k1 := RW_cell (m := k) (i := e) HH.out (by rw [HL.out, HN.out]) (by rw [HL.out]; omega)
        have k2 := RW_cell (m := k) (i := c) HH.out (by rw [HL.out, HN.out]) (by rw [HL.out]; omega)
        rw [hx, hwq] at k1
        rw [hy, hwq] at k2
        obtain ⟨c1, f1⟩ := k1
        obtain ⟨c2, f2⟩ := k2
        have hC := fun w => cmp_c x y w
        obtain ⟨bx0, bx1⟩ := class_bounds x
        obtain ⟨by0, by1⟩ := class_bounds y
        have HQ : ∀ q, Hid (wq.drewN q = RW w g off L (k + q)) := fun q => Lib.hid (by rw [← hwq, RW_drew])
        have srz : (s : Int) < (r : Int) := by omega
        have p1 : (c : Int) < (N : Int) := by omega
        have p2 : (e : Int) < (N : Int) := by omega
        have wsr : IntKind.i64.wrap ((s : Int) + (r : Int)) = (s : Int) + (r : Int) := by rw [IntKind.wrap_i64]; omega
        have hpce : p - c = e := he
        by_cases hxy : classI x < classI y
        · have hlt0 : classI x - classI y < 0 := by omega
          have HR : ∀ q, Hid (SymRel w g off L a M mid b (.int .i64 s) (.int .i64 c) (RW w g off L q)) := fun q =>
            Lib.hid ⟨s, c, q, rfl, rfl, by omega, by omega, by omega, by omega, by omega, HI1.out, Or.inr (Or.inr (by
              rw [show mid + M - 1 - c = e by omega, hx, hy]; exact hxy)), rfl⟩
          clear hwq hx hy hc hnn hpp hlen he hpce
          generalize classI x = cx at *
          generalize classI y = cy at *
          go_wp2_with fail
          go_quiet ((go_at_call 222; exact Calls.quiet_of_same ((hC _).mono fun _ _ h => ⟨h.1, h.2⟩)))
          go_wp2
          go_roundw
          case rel =>
            rw [(HQ _).out]
            exact (HR _).out
          case measure => simp [intOf]; omega
        · have hge0 : ¬ (classI x - classI y < 0) := by omega
          have hge1 : (0 : Int) ≤ classI x - classI y := by omega
          have hge2 : classI y ≤ classI x := by omega
          have hge3 : decide (classI x - classI y < 0) = false := decide_eq_false hge0
          have HR : ∀ q, Hid (SymRel w g off L a M mid b (.int .i64 ((c + 1 : Nat) : Int)) (.int .i64 r) (RW w g off L q)) := fun q =>
            Lib.hid ⟨c + 1, r, q, rfl, rfl, by omega, by omega, by omega, by omega, by omega, Or.inr (Or.inr (by
              rw [show mid + M - (c + 1) = e by omega, Nat.add_sub_cancel, hx, hy]; exact hge2)), HI2.out, rfl⟩
          clear hwq hx hy hc hnn hpp hlen he hpce
          generalize classI x = cx at *
          generalize classI y = cy at *
          go_wp2_with fail
          go_quiet ((go_at_call 222; exact Calls.quiet_of_same ((hC _).mono fun _ _ h => ⟨h.1, h.2⟩)))
          go_wp2
          go_roundw
          case rel =>
            rw [(HQ _).out]
            exact (HR _).out
          case measure => simp [intOf]; omega
      · have hrs : r = s := by omega
        subst hrs
        have hnn := HNN.out
        obtain ⟨A1, A2, B1, B2, hAe, hBe, lA1, lA2, lB1, lB2, h12, h21⟩ := sym_split HPA.out HMA.out HMB.out has hrM hrm hnb HSA.out HSB.out (by rw [HLLE.out]; exact HI1.out) (by rw [HLLE.out]; exact HI2.out)
        obtain ⟨E, hE⟩ : ∃ E, mid + M - r = E := ⟨_, rfl⟩
        rw [hE] at lB2
        have wE : IntKind.i64.wrap ((n : Int) - (r : Int)) = (E : Int) := by rw [IntKind.wrap_i64]; omega
        obtain ⟨W1, hW1⟩ : ∃ W1, RW w g off L k = W1 := ⟨_, rfl⟩
        rw [hW1]
        have hLe : L = P ++ (A1 ++ (A2 ++ (B1 ++ (B2 ++ T)))) := by rw [← HLLE.out, LL, hAe, hBe]; simp
        have hlen := HL.out
        rw [hLe] at hlen
        simp only [List.length_append] at hlen
        rw [HPA.out] at hlen
        have HK1 : Hid (¬ (r < M) ∨ ¬ (M < E) → Mid1 w g off P A1 B1 A2 B2 T W1) := Lib.hid fun h => by
          refine ⟨k, ?_⟩
          rw [← hW1, hLe]
          rcases h with h | h
          · have : A2 = [] := List.eq_nil_of_length_eq_zero (by omega)
            subst this; simp
          · have : B1 = [] := List.eq_nil_of_length_eq_zero (by omega)
            subst this; simp
        have HC1 : Hid (r < M → M < E → Calls Tryz.prog 233 #[.slice (some ⟨g, off, none⟩) N cap, .int .i64 r, .int .i64 M, .int .i64 E, cmpV] W1 fun e w' => e = .returned (.tuple #[]) ∧ Mid1 w g off P A1 B1 A2 B2 T w') := Lib.hid fun h1 h2 => by
          have := rotate_c w g off cap N cmpV L0 HH.out HN.out hsz (P ++ A1) A2 B1 (B2 ++ T) (by omega) (by omega) (by simp only [List.length_append, HPA.out]; omega) r M E (by rw [List.length_append, HPA.out, lA1]) lA2 (by omega) k
          rw [show (P ++ A1) ++ (A2 ++ (B1 ++ (B2 ++ T))) = L by rw [hLe]; simp, hW1] at this
          refine this.mono ?_
          rintro e w' ⟨rfl, m', rfl⟩
          exact ⟨rfl, m', by simp⟩
        have pA : PosM (A1 ++ A2) := by rw [← hAe]; exact HpA.out
        have pB : PosM (B1 ++ B2) := by rw [← hBe]; exact HpB.out
        have sA : SortedM (A1 ++ A2) := by rw [← hAe]; exact HSA.out
        have sB : SortedM (B1 ++ B2) := by rw [← hBe]; exact HSB.out
        have sA1 : SortedM A1 := (List.pairwise_append.1 sA).1
        have sA2 : SortedM A2 := (List.pairwise_append.1 sA).2.1
        have sB1 : SortedM B1 := (List.pairwise_append.1 sB).1
        have sB2 : SortedM B2 := (List.pairwise_append.1 sB).2.1
        have lAA : A.length = A1.length + A2.length := by rw [hAe, List.length_append]
        have lBB : B.length = B1.length + B2.length := by rw [hBe, List.length_append]
        have HK2 : Hid (∀ W2, Mid1 w g off P A1 B1 A2 B2 T W2 → ¬ (a < r) ∨ ¬ (r < mid) → Mid2 w g off P A1 B1 A2 B2 T W2) := Lib.hid fun W2 hm h => by
          obtain ⟨k2, rfl⟩ := hm
          refine ⟨A1 ++ B1, k2, .same _, ?_, by simp⟩
          rcases h with h | h
          · have : A1 = [] := List.eq_nil_of_length_eq_zero (by omega)
            subst this; simpa using sB1
          · have : B1 = [] := List.eq_nil_of_length_eq_zero (by omega)
            subst this; simpa using sA1
        have HC2 : Hid (∀ W2, Mid1 w g off P A1 B1 A2 B2 T W2 → a < r → r < mid → Calls Tryz.prog 232 #[.slice (some ⟨g, off, none⟩) N cap, .int .i64 a, .int .i64 r, .int .i64 mid, cmpV] W2 fun e w' => e = .returned (.tuple #[]) ∧ Mid2 w g off P A1 B1 A2 B2 T w') := Lib.hid fun W2 hm h1 h2 => by
          obtain ⟨k2, rfl⟩ := hm
          have := HIH.out P A1 B1 (A2 ++ (B2 ++ T)) (by omega) (by omega) (by omega) (fun x hx => pA x (by simp [hx])) (fun x hx => pB x (by simp [hx])) sA1 sB1 (by simp only [LL, List.length_append, HPA.out]; omega) a r mid k2 HPA.out lA1 lB1
          refine this.mono ?_
          rintro e w' ⟨rfl, M1, m', q1, q2, rfl⟩
          exact ⟨rfl, M1, m', q1, q2, rfl⟩
        have hfin := fun M1 M2 => sym_final (M1 := M1) (M2 := M2) pA pB sA sB h12 h21
        have HK3 : Hid (∀ W3, Mid2 w g off P A1 B1 A2 B2 T W3 → ¬ (mid < E) ∨ ¬ (E < b) → SortPost w g off P (A ++ B) T W3) := Lib.hid fun W3 hm h => by
          obtain ⟨M1, k2, q1, q2, rfl⟩ := hm
          have s22 : SortedM (A2 ++ B2) := by
            rcases h with h | h
            · have : A2 = [] := List.eq_nil_of_length_eq_zero (by omega)
              rw [this]; simpa using sB2
            · have : B2 = [] := List.eq_nil_of_length_eq_zero (by omega)
              rw [this]; simpa using sA2
          have := hfin M1 (A2 ++ B2) q1 q2 (.same _) s22
          rw [← hAe, ← hBe] at this
          exact ⟨M1 ++ (A2 ++ B2), k2, this.1, this.2, by simp⟩
        have HC3 : Hid (∀ W3, Mid2 w g off P A1 B1 A2 B2 T W3 → mid < E → E < b → Calls Tryz.prog 232 #[.slice (some ⟨g, off, none⟩) N cap, .int .i64 mid, .int .i64 E, .int .i64 b, cmpV] W3 fun e w' => e = .returned (.tuple #[]) ∧ SortPost w g off P (A ++ B) T w') := Lib.hid fun W3 hm h1 h2 => by
          obtain ⟨M1, k2, q1, q2, rfl⟩ := hm
          have hl1 := q1.length
          rw [List.length_append] at hl1
          have := HIH.out (P ++ M1) A2 B2 T (by omega) (by omega) (by omega) (fun x hx => pA x (by simp [hx])) (fun x hx => pB x (by simp [hx])) sA2 sB2 (by simp only [LL, List.length_append, HPA.out]; omega) mid E b k2 (by rw [List.length_append, HPA.out]; omega) (by omega) (by omega)
          rw [show LL (P ++ M1) A2 B2 T = P ++ (M1 ++ (A2 ++ (B2 ++ T))) by simp [LL]] at this
          refine this.mono ?_
          rintro e w' ⟨rfl, M2, m', r1, r2, rfl⟩
          have hf := hfin M1 M2 q1 q2 r1 r2
          rw [← hAe, ← hBe] at hf
          exact ⟨rfl, M1 ++ M2, m', hf.1, hf.2, by simp⟩
        clear hW1 hLe hlen pA pB sA sB sA1 sA2 sB1 sB2 lAA lBB hfin hnn hAe hBe lA1 lA2 lB1 lB2 h12 h21 HIH HI1 HI2
        clear hE
        by_cases u1 : r < M
        · have u1z : (r : Int) < (M : Int) := by omega
          by_cases v1 : M < E
          · have v1z : (M : Int) < (E : Int) := by omega
            have cc := HC1.out u1 v1
            go_wp2_with fail
            refine cc.mono ?_
            rintro e W2 ⟨rfl, hm1⟩
            clear cc u1 v1 u1z v1z
            by_cases u2 : a < r
            · have u2z : (a : Int) < (r : Int) := by omega
              by_cases v2 : r < mid
              · have v2z : (r : Int) < (mid : Int) := by omega
                have cc := HC2.out W2 hm1 u2 v2
                go_wp2_with fail
                refine cc.mono ?_
                rintro e W3 ⟨rfl, hm2⟩
                clear cc u2 v2 u2z v2z
                by_cases u3 : mid < E
                · have u3z : (mid : Int) < (E : Int) := by omega
                  by_cases v3 : E < b
                  · have v3z : (E : Int) < (b : Int) := by omega
                    have cc := HC3.out W3 hm2 u3 v3
                    go_wp2_with fail
                    refine cc.mono ?_
                    rintro e W4 ⟨rfl, hm3⟩
                    clear cc u3 v3 u3z v3z
                    go_wp2
                    go_end0
                    exact ⟨rfl, hm3⟩
                  · have v3z : ¬ ((E : Int) < (b : Int)) := by omega
                    have hm3 := HK3.out W3 hm2 (Or.inr v3)
                    go_wp2
                    go_end0
                    exact ⟨rfl, hm3⟩
                · have u3z : ¬ ((mid : Int) < (E : Int)) := by omega
                  have hm3 := HK3.out W3 hm2 (Or.inl u3)
                  go_wp2
                  go_end0
                  exact ⟨rfl, hm3⟩
              · have v2z : ¬ ((r : Int) < (mid : Int)) := by omega
                have hm2 := HK2.out W2 hm1 (Or.inr v2)
                by_cases u3 : mid < E
                · have u3z : (mid : Int) < (E : Int) := by omega
                  by_cases v3 : E < b
                  · have v3z : (E : Int) < (b : Int) := by omega
                    have cc := HC3.out W2 hm2 u3 v3
                    go_wp2_with fail
                    refine cc.mono ?_
                    rintro e W4 ⟨rfl, hm3⟩
                    clear cc u3 v3 u3z v3z
                    go_wp2
                    go_end0
                    exact ⟨rfl, hm3⟩
                  · have v3z : ¬ ((E : Int) < (b : Int)) := by omega
                    have hm3 := HK3.out W2 hm2 (Or.inr v3)
                    go_wp2
                    go_end0
                    exact ⟨rfl, hm3⟩
                · have u3z : ¬ ((mid : Int) < (E : Int)) := by omega
                  have hm3 := HK3.out W2 hm2 (Or.inl u3)
                  go_wp2
                  go_end0
                  exact ⟨rfl, hm3⟩
            · have u2z : ¬ ((a : Int) < (r : Int)) := by omega
              have hm2 := HK2.out W2 hm1 (Or.inl u2)
              by_cases u3 : mid < E
              · have u3z : (mid : Int) < (E : Int) := by omega
                by_cases v3 : E < b
                · have v3z : (E : Int) < (b : Int) := by omega
                  have cc := HC3.out W2 hm2 u3 v3
                  go_wp2_with fail
                  refine cc.mono ?_
                  rintro e W4 ⟨rfl, hm3⟩
                  clear cc u3 v3 u3z v3z
                  go_wp2
                  go_end0
                  exact ⟨rfl, hm3⟩
                · have v3z : ¬ ((E : Int) < (b : Int)) := by omega
                  have hm3 := HK3.out W2 hm2 (Or.inr v3)
                  go_wp2
                  go_end0
                  exact ⟨rfl, hm3⟩
              · have u3z : ¬ ((mid : Int) < (E : Int)) := by omega
                have hm3 := HK3.out W2 hm2 (Or.inl u3)
                go_wp2
                go_end0
                exact ⟨rfl, hm3⟩
          · have v1z : ¬ ((M : Int) < (E : Int)) := by omega
            have hm1 := HK1.out (Or.inr v1)
            by_cases u2 : a < r
            · have u2z : (a : Int) < (r : Int) := by omega
              by_cases v2 : r < mid
              · have v2z : (r : Int) < (mid : Int) := by omega
                have cc := HC2.out W1 hm1 u2 v2
                go_wp2_with fail
                refine cc.mono ?_
                rintro e W3 ⟨rfl, hm2⟩
                clear cc u2 v2 u2z v2z
                by_cases u3 : mid < E
                · have u3z : (mid : Int) < (E : Int) := by omega
                  by_cases v3 : E < b
                  · have v3z : (E : Int) < (b : Int) := by omega
                    have cc := HC3.out W3 hm2 u3 v3
                    go_wp2_with fail
                    refine cc.mono ?_
                    rintro e W4 ⟨rfl, hm3⟩
                    clear cc u3 v3 u3z v3z
                    go_wp2
                    go_end0
                    exact ⟨rfl, hm3⟩
                  · have v3z : ¬ ((E : Int) < (b : Int)) := by omega
                    have hm3 := HK3.out W3 hm2 (Or.inr v3)
                    go_wp2
                    go_end0
                    exact ⟨rfl, hm3⟩
                · have u3z : ¬ ((mid : Int) < (E : Int)) := by omega
                  have hm3 := HK3.out W3 hm2 (Or.inl u3)
                  go_wp2
                  go_end0
                  exact ⟨rfl, hm3⟩
              · have v2z : ¬ ((r : Int) < (mid : Int)) := by omega
                have hm2 := HK2.out W1 hm1 (Or.inr v2)
                by_cases u3 : mid < E
                · have u3z : (mid : Int) < (E : Int) := by omega
                  by_cases v3 : E < b
                  · have v3z : (E : Int) < (b : Int) := by omega
                    have cc := HC3.out W1 hm2 u3 v3
                    go_wp2_with fail
                    refine cc.mono ?_
                    rintro e W4 ⟨rfl, hm3⟩
                    clear cc u3 v3 u3z v3z
                    go_wp2
                    go_end0
                    exact ⟨rfl, hm3⟩
                  · have v3z : ¬ ((E : Int) < (b : Int)) := by omega
                    have hm3 := HK3.out W1 hm2 (Or.inr v3)
                    go_wp2
                    go_end0
                    exact ⟨rfl, hm3⟩
                · have u3z : ¬ ((mid : Int) < (E : Int)) := by omega
                  have hm3 := HK3.out W1 hm2 (Or.inl u3)
                  go_wp2
                  go_end0
                  exact ⟨rfl, hm3⟩
            · have u2z : ¬ ((a : Int) < (r : Int)) := by omega
              have hm2 := HK2.out W1 hm1 (Or.inl u2)
              by_cases u3 : mid < E
              · have u3z : (mid : Int) < (E : Int) := by omega
                by_cases v3 : E < b
                · have v3z : (E : Int) < (b : Int) := by omega
                  have cc := HC3.out W1 hm2 u3 v3
                  go_wp2_with fail
                  refine cc.mono ?_
                  rintro e W4 ⟨rfl, hm3⟩
                  clear cc u3 v3 u3z v3z
                  go_wp2
                  go_end0
                  exact ⟨rfl, hm3⟩
                · have v3z : ¬ ((E : Int) < (b : Int)) := by omega
                  have hm3 := HK3.out W1 hm2 (Or.inr v3)
                  go_wp2
                  go_end0
                  exact ⟨rfl, hm3⟩
              · have u3z : ¬ ((mid : Int) < (E : Int)) := by omega
                have hm3 := HK3.out W1 hm2 (Or.inl u3)
                go_wp2
                go_end0
                exact ⟨rfl, hm3⟩
        · have u1z : ¬ ((r : Int) < (M : Int)) := by omega
          have hm1 := HK1.out (Or.inl u1)
          by_cases u2 : a < r
          · have u2z : (a : Int) < (r : Int) := by omega
            by_cases v2 : r < mid
            · have v2z : (r : Int) < (mid : Int) := by omega
              have cc := HC2.out W1 hm1 u2 v2
              go_wp2_with fail
              refine cc.mono ?_
              rintro e W3 ⟨rfl, hm2⟩
              clear cc u2 v2 u2z v2z
              by_cases u3 : mid < E
              · have u3z : (mid : Int) < (E : Int) := by omega
                by_cases v3 : E < b
                · have v3z : (E : Int) < (b : Int) := by omega
                  have cc := HC3.out W3 hm2 u3 v3
                  go_wp2_with fail
                  refine cc.mono ?_
                  rintro e W4 ⟨rfl, hm3⟩
                  clear cc u3 v3 u3z v3z
                  go_wp2
                  go_end0
                  exact ⟨rfl, hm3⟩
                · have v3z : ¬ ((E : Int) < (b : Int)) := by omega
                  have hm3 := HK3.out W3 hm2 (Or.inr v3)
                  go_wp2
                  go_end0
                  exact ⟨rfl, hm3⟩
              · have u3z : ¬ ((mid : Int) < (E : Int)) := by omega
                have hm3 := HK3.out W3 hm2 (Or.inl u3)
                go_wp2
                go_end0
                exact ⟨rfl, hm3⟩
            · have v2z : ¬ ((r : Int) < (mid : Int)) := by omega
              have hm2 := HK2.out W1 hm1 (Or.inr v2)
              by_cases u3 : mid < E
              · have u3z : (mid : Int) < (E : Int) := by omega
                by_cases v3 : E < b
                · have v3z : (E : Int) < (b : Int) := by omega
                  have cc := HC3.out W1 hm2 u3 v3
                  go_wp2_with fail
                  refine cc.mono ?_
                  rintro e W4 ⟨rfl, hm3⟩
                  clear cc u3 v3 u3z v3z
                  go_wp2
                  go_end0
                  exact ⟨rfl, hm3⟩
                · have v3z : ¬ ((E : Int) < (b : Int)) := by omega
                  have hm3 := HK3.out W1 hm2 (Or.inr v3)
                  go_wp2
                  go_end0
                  exact ⟨rfl, hm3⟩
              · have u3z : ¬ ((mid : Int) < (E : Int)) := by omega
                have hm3 := HK3.out W1 hm2 (Or.inl u3)
                go_wp2
                go_end0
                exact ⟨rfl, hm3⟩
          · have u2z : ¬ ((a : Int) < (r : Int)) := by omega
            have hm2 := HK2.out W1 hm1 (Or.inl u2)
            by_cases u3 : mid < E
            · have u3z : (mid : Int) < (E : Int) := by omega
              by_cases v3 : E < b
              · have v3z : (E : Int) < (b : Int) := by omega
                have cc := HC3.out W1 hm2 u3 v3
                go_wp2_with fail
                refine cc.mono ?_
                rintro e W4 ⟨rfl, hm3⟩
                clear cc u3 v3 u3z v3z
                go_wp2
                go_end0
                exact ⟨rfl, hm3⟩
              · have v3z : ¬ ((E : Int) < (b : Int)) := by omega
                have hm3 := HK3.out W1 hm2 (Or.inr v3)
                go_wp2
                go_end0
                exact ⟨rfl, hm3⟩
            · have u3z : ¬ ((mid : Int) < (E : Int)) := by omega
              have hm3 := HK3.out W1 hm2 (Or.inl u3)
              go_wp2
              go_end0
              exact ⟨rfl, hm3⟩
end Go.Proofs.YtfioknaadbgjlaaGreatDoor.F
namespace Go.Proofs.YtfioknaadbgjlaaGreatDoor.F
open Go.RowKit Go.Sort
theorem sym_c (w : World) (g off cap N : Nat) (L0 : List Int) (hH : Holds encSo w g off L0.toArray) (hN : L0.length = N) (hsz : N < 1000000) :
    ∀ (n : Nat) (P A B T : List Int), A.length + B.length ≤ n → SymSays w g off cap N P A B T := by
  intro n
  induction n with
  | zero => intro P A B T h hA; omega
  | succ n ih =>
    intro P A B T h hA hB hpA hpB hsA hsB hL a M b m ha hM hb
    by_cases h1 : A.length = 1
    · obtain ⟨x, rfl⟩ := List.length_eq_one_iff.1 h1
      have := sym_left w g off cap N L0 hH hN hsz P B T x hpB hsB hL a M b ha (by simpa using hM) hb m
      exact this
    · by_cases h2 : B.length = 1
      · obtain ⟨x, rfl⟩ := List.length_eq_one_iff.1 h2
        have := sym_right w g off cap N L0 hH hN hsz P A T x (by omega) (hpB x (by simp)) hsA hL a M b ha hM (by simpa using hb) m
        exact this
      · exact sym_gen w g off cap N L0 hH hN hsz P A B T (fun P' A' B' T' h' => ih P' A' B' T' (by omega)) (by omega) (by omega) hpA hpB hsA hsB hL a M b m ha hM hb
def RunPost (w : World) (g off : Nat) (A : List Int) (w' : World) : Prop := ∃ M m', SwapsM classI A M ∧ SortedM M ∧ w' = RW w g off M m'
theorem pos_swaps {A M : List Int} (h : SwapsM classI A M) (hp : PosM A) : PosM M := fun x hx => hp x (h.perm.mem_iff.2 hx)
set_option maxHeartbeats 2000000 in
theorem stable_none (v : Value) (w : World) : Calls Tryz.prog 229 #[v, .int .i64 0, cmpV] w fun e w' => e = .returned (.tuple #[]) ∧ w' = w := by
  have c := ins_none w v 0 cmpV (by decide)
  go_enter Tryz.func229, Tryz.ntmps229
  go_wp2
  refine wp_loop_rounds 1 ?_
  rw [rounds_succ]
  go_wp2_with fail
  refine c.mono ?_
  rintro e w' ⟨rfl, rfl⟩
  go_wp2
  refine wp_loop_rounds 1 ?_
  rw [rounds_succ]
  go_wp2
  go_end0
  exact ⟨rfl, rfl⟩
set_option maxHeartbeats 1000000 in
theorem sortStable_of (v : Option Addr) (N cap : Nat) (w : World) (Q : World → Prop) (c : Calls Tryz.prog 229 #[.slice v N cap, .int .i64 N, cmpV] w fun e w' => e = .returned (.tuple #[]) ∧ Q w') :
    Calls Tryz.prog 221 #[.slice v N cap, cmpV] w fun e w' => e = .returned (.tuple #[]) ∧ Q w' := by
  go_enter Tryz.func221, Tryz.ntmps221
  go_wp2_with fail
  refine c.mono ?_
  rintro e w' ⟨rfl, h⟩
  go_wp2
  go_end0
  exact ⟨rfl, h⟩
set_option maxHeartbeats 1000000 in
theorem orderRun_of (v : Option Addr) (N cap : Nat) (w : World) (Q : World → Prop) (c : Calls Tryz.prog 221 #[.slice v N cap, cmpV] w fun e w' => e = .returned (.tuple #[]) ∧ Q w') :
    Calls Tryz.prog 202 #[.slice v N cap] w fun e w' => e = .returned (.tuple #[]) ∧ Q w' := by
  go_enter Tryz.func202, Tryz.ntmps202
  go_wp2_with fail
  refine c.mono ?_
  rintro e w' ⟨rfl, h⟩
  go_wp2
  go_end0
  exact ⟨rfl, h⟩
theorem orderRun_none (v : Option Addr) (cap : Nat) (w : World) : Calls Tryz.prog 202 #[.slice v 0 cap] w fun e w' => e = .returned (.tuple #[]) ∧ w' = w :=
  orderRun_of v 0 cap w _ (sortStable_of v 0 cap w _ (stable_none _ w))
end Go.Proofs.YtfioknaadbgjlaaGreatDoor.F
namespace Go.Proofs.YtfioknaadbgjlaaGreatDoor.F
open Go.RowKit Go.Sort
def Cut (bs : Nat) (Ls : List (List Int)) : Prop := ∀ c ∈ Ls, c.length = bs ∧ SortedM c
theorem cut_length {bs : Nat} : ∀ {Ls : List (List Int)}, Cut bs Ls → Ls.flatten.length = bs * Ls.length
  | [], _ => by simp
  | c :: Ls, h => by
    have ih := cut_length (bs := bs) (Ls := Ls) (fun x hx => h x (by simp [hx]))
    rw [List.flatten_cons, List.length_append, ih, (h c (by simp)).1, List.length_cons, Nat.mul_add, Nat.mul_one, Nat.add_comm]
theorem Cut.snoc {bs : Nat} {Ls : List (List Int)} {c : List Int} (h : Cut bs Ls) (hc : c.length = bs) (hs : SortedM c) : Cut bs (Ls ++ [c]) := by
  intro x hx
  rcases List.mem_append.1 hx with hx | hx
  · exact h x hx
  · simp at hx; subst hx; exact ⟨hc, hs⟩
theorem sorted_nil : SortedM [] := by unfold SortedM; simp
def FirstRel (w : World) (g off : Nat) (A : List Int) (av bv : Value) (wr : World) : Prop :=
  ∃ (Ls : List (List Int)) (R : List Int) (k : Nat), av = .int .i64 (Ls.flatten.length : Nat) ∧ bv = .int .i64 (Ls.flatten.length + 20 : Nat) ∧ SwapsM classI A (Ls.flatten ++ R) ∧ Cut 20 Ls ∧ wr = RW w g off (Ls.flatten ++ R) k
def OuterRel (w : World) (g off : Nat) (A : List Int) (sv : Value) (wr : World) : Prop :=
  ∃ (bs : Nat) (Ls : List (List Int)) (last : List Int) (k : Nat), sv = .int .i64 (bs : Nat) ∧ 20 ≤ bs ∧ bs ≤ 2000000 ∧ SwapsM classI A (Ls.flatten ++ last) ∧ Cut bs Ls ∧ SortedM last ∧ last.length < bs ∧ wr = RW w g off (Ls.flatten ++ last) k
def MergeRel (w : World) (g off bs : Nat) (A : List Int) (av bv : Value) (wr : World) : Prop :=
  ∃ (Ms Ls : List (List Int)) (last : List Int) (k : Nat), av = .int .i64 (Ms.flatten.length : Nat) ∧ bv = .int .i64 (Ms.flatten.length + 2 * bs : Nat) ∧ SwapsM classI A (Ms.flatten ++ (Ls.flatten ++ last)) ∧ Cut (2 * bs) Ms ∧ Cut bs Ls ∧ SortedM last ∧ last.length < bs ∧ wr = RW w g off (Ms.flatten ++ (Ls.flatten ++ last)) k
/-- A part is put in order by insertion, wherever it stands. -/
theorem ins_in (w : World) (g off cap N : Nat) (A : List Int) (hH : Holds encSo w g off A.toArray) (hN : A.length = N) (hsz : N < 1000000) (hp : PosM A) (D R T : List Int) (hs : SwapsM classI A (D ++ (R ++ T))) (a b k : Nat) (ha : D.length = a) (hb : a + R.length = b) :
    Calls Tryz.prog 231 #[.slice (some ⟨g, off, none⟩) N cap, .int .i64 a, .int .i64 b, cmpV] (RW w g off (D ++ (R ++ T)) k)
      fun e w' => e = .returned (.tuple #[]) ∧ ∃ M m, SwapsM classI A (D ++ (M ++ T)) ∧ SortedM M ∧ M.length = R.length ∧ w' = RW w g off (D ++ (M ++ T)) m := by
  have hl := hs.length
  by_cases h0 : R.length = 0
  · have : R = [] := List.eq_nil_of_length_eq_zero h0
    subst this
    have hab : b = a := by simpa using hb.symm
    subst hab
    refine (ins_none _ _ b _ (by simp at hl; omega)).mono ?_
    rintro e w' ⟨rfl, rfl⟩
    exact ⟨rfl, [], k, hs, sorted_nil, rfl, rfl⟩
  · refine (ins_some w g off cap N A hH hN hsz D R T (by omega) (fun x hx => pos_swaps hs hp x (by simp [hx])) (by rw [← hl, hN]) a b ha hb k).mono ?_
    rintro e w' ⟨rfl, M, m, h1, h2, rfl⟩
    refine ⟨rfl, M, m, ?_, h2, h1.length.symm, rfl⟩
    have := h1.within D T
    rw [List.append_assoc, List.append_assoc] at this
    exact hs.trans this
/-- Two neighbouring parts are merged, wherever they stand. -/
theorem merge_in (w : World) (g off cap N : Nat) (A : List Int) (hH : Holds encSo w g off A.toArray) (hN : A.length = N) (hsz : N < 1000000) (hp : PosM A) (D X Y T : List Int) (hs : SwapsM classI A (D ++ (X ++ (Y ++ T)))) (hX : 1 ≤ X.length) (hY : 1 ≤ Y.length) (sX : SortedM X) (sY : SortedM Y) (a m b k : Nat) (ha : D.length = a) (hm : a + X.length = m) (hb : m + Y.length = b) :
    Calls Tryz.prog 232 #[.slice (some ⟨g, off, none⟩) N cap, .int .i64 a, .int .i64 m, .int .i64 b, cmpV] (RW w g off (D ++ (X ++ (Y ++ T))) k)
      fun e w' => e = .returned (.tuple #[]) ∧ ∃ M q, SwapsM classI A (D ++ (M ++ T)) ∧ SortedM M ∧ M.length = X.length + Y.length ∧ w' = RW w g off (D ++ (M ++ T)) q := by
  have hl := hs.length
  have hpos := pos_swaps hs hp
  refine (sym_c w g off cap N A hH hN hsz _ D X Y T (Nat.le_refl _) hX hY (fun x hx => hpos x (by simp [hx])) (fun x hx => hpos x (by simp [hx])) sX sY (by show (D ++ (X ++ (Y ++ T))).length = N; rw [← hl, hN]) a m b k ha hm hb).mono ?_
  rintro e w' ⟨rfl, M, q, h1, h2, rfl⟩
  refine ⟨rfl, M, q, ?_, h2, by rw [← h1.length, List.length_append], rfl⟩
  have := h1.within D T
  have e1 : D ++ (X ++ Y) ++ T = D ++ (X ++ (Y ++ T)) := by simp
  have e2 : D ++ M ++ T = D ++ (M ++ T) := by simp
  rw [e1, e2] at this
  exact hs.trans this
set_option maxHeartbeats 4000000 in
set_option maxRecDepth 100000 in
theorem stable_any (w : World) (g off cap N : Nat) (A : List Int) (hH : Holds encSo w g off A.toArray) (hN : A.length = N) (hsz : N < 1000000) (hp : PosM A) :
    Calls Tryz.prog 229 #[.slice (some ⟨g, off, none⟩) N cap, .int .i64 N, cmpV] w fun e w' => e = .returned (.tuple #[]) ∧ RunPost w g off A w' := by
  have HS : Hid (FirstRel w g off A (.int .i64 0) (.int .i64 20) w) := Lib.hid ⟨[], A, 0, rfl, rfl, .same _, fun c hc => (nomatch hc), (RW_start hH).symm⟩
  have HI : Hid (∀ (D R T : List Int), SwapsM classI A (D ++ (R ++ T)) → ∀ (a b k : Nat), D.length = a → a + R.length = b → Calls Tryz.prog 231 #[.slice (some ⟨g, off, none⟩) N cap, .int .i64 a, .int .i64 b, cmpV] (RW w g off (D ++ (R ++ T)) k)
      fun e w' => e = .returned (.tuple #[]) ∧ ∃ M m, SwapsM classI A (D ++ (M ++ T)) ∧ SortedM M ∧ M.length = R.length ∧ w' = RW w g off (D ++ (M ++ T)) m) := Lib.hid fun D R T hs a b k ha hb => ins_in w g off cap N A hH hN hsz hp D R T hs a b k ha hb
  have HG : Hid (∀ (D X Y T : List Int), SwapsM classI A (D ++ (X ++ (Y ++ T))) → 1 ≤ X.length → 1 ≤ Y.length → SortedM X → SortedM Y → ∀ (a m b k : Nat), D.length = a → a + X.length = m → m + Y.length = b → Calls Tryz.prog 232 #[.slice (some ⟨g, off, none⟩) N cap, .int .i64 a, .int .i64 m, .int .i64 b, cmpV] (RW w g off (D ++ (X ++ (Y ++ T))) k)
      fun e w' => e = .returned (.tuple #[]) ∧ ∃ M q, SwapsM classI A (D ++ (M ++ T)) ∧ SortedM M ∧ M.length = X.length + Y.length ∧ w' = RW w g off (D ++ (M ++ T)) q) := Lib.hid fun D X Y T hs hX hY sX sY a m b k ha hm hb => merge_in w g off cap N A hH hN hsz hp D X Y T hs hX hY sX sY a m b k ha hm hb
  have HN := Lib.hid hN
  clear hH hN hp
  go_enter Tryz.func229, Tryz.ntmps229
  go_wp2
  go_loopw [7, 8] (fun av bv wr => FirstRel w g off A av bv wr) (fun av _ _ => N - (intOf av).toNat)
  case atStart => exact HS.out
  case round =>
    obtain ⟨Ls, R, k, rfl, rfl, hs, hcut, rfl⟩ := hrel
    obtain ⟨a, ha⟩ : ∃ a, Ls.flatten.length = a := ⟨_, rfl⟩
    have hl := hs.length
    rw [HN.out, List.length_append, ha] at hl
    rw [ha]
    by_cases hb : a + 20 ≤ N
    · have hbz : ((a + 20 : Nat) : Int) ≤ (N : Int) := by omega
      have hbz' : (a : Int) + 20 ≤ (N : Int) := by omega
      have hR : R.take 20 ++ R.drop 20 = R := List.take_append_drop 20 R
      have l1 : (R.take 20).length = 20 := by rw [List.length_take]; omega
      have c := HI.out Ls.flatten (R.take 20) (R.drop 20) (by rw [hR]; exact hs) a (a + 20) k ha (by rw [l1])
      rw [hR] at c
      have HX : Hid (∀ M m, SwapsM classI A (Ls.flatten ++ (M ++ R.drop 20)) → SortedM M → M.length = (R.take 20).length → FirstRel w g off A (.int .i64 ((a + 20 : Nat) : Int)) (.int .i64 ((a + 40 : Nat) : Int)) (RW w g off (Ls.flatten ++ (M ++ R.drop 20)) m)) := Lib.hid fun M m h1 h2 h3 =>
        ⟨Ls ++ [M], R.drop 20, m, by simp only [List.flatten_append, List.length_append, List.flatten_cons, List.flatten_nil, List.append_nil]; rw [ha, h3, l1], by simp only [List.flatten_append, List.length_append, List.flatten_cons, List.flatten_nil, List.append_nil]; rw [ha, h3, l1], by simpa using h1, hcut.snoc (by rw [h3, l1]) h2, by simp⟩
      have w40 : IntKind.i64.wrap (((a + 20 : Nat) : Int) + 20) = ((a + 40 : Nat) : Int) := by rw [IntKind.wrap_i64]; omega
      have w40' : IntKind.i64.wrap ((a : Int) + 20 + 20) = ((a + 40 : Nat) : Int) := by rw [IntKind.wrap_i64]; omega
      generalize RW w g off (Ls.flatten ++ R) k = wq at c ⊢
      clear hs hcut hl hR ha l1
      go_wp2_with fail
      refine c.mono ?_
      rintro e w' ⟨rfl, M, m, h1, h2, h3, rfl⟩
      have HE := Lib.hid (HX.out M m h1 h2 h3)
      clear h1 h2 h3 c HX
      go_wp2
      go_roundw
      case rel => exact HE.out
      case measure => simp [intOf]; omega
    · have hbz : ¬ ((a : Int) + 20 ≤ (N : Int)) := by omega
      have hbz' : ¬ (((a + 20 : Nat) : Int) ≤ (N : Int)) := by omega
      have c := HI.out Ls.flatten R [] (by rw [List.append_nil]; exact hs) a N k ha (by omega)
      rw [List.append_nil] at c
      have HX : Hid (∀ M m, SwapsM classI A (Ls.flatten ++ (M ++ [])) → SortedM M → M.length = R.length → OuterRel w g off A (.int .i64 ((20 : Nat) : Int)) (RW w g off (Ls.flatten ++ (M ++ [])) m)) := Lib.hid fun M m h1 h2 h3 =>
        ⟨20, Ls, M, m, rfl, by omega, by omega, by simpa using h1, hcut, h2, by omega, by simp⟩
      generalize RW w g off (Ls.flatten ++ R) k = wq at c ⊢
      clear hs hcut hl ha hb
      go_wp2_with fail
      refine c.mono ?_
      rintro e w' ⟨rfl, M, m, h1, h2, h3, rfl⟩
      have HE := Lib.hid (HX.out M m h1 h2 h3)
      clear h1 h2 h3 c HX hbz hbz'
      go_wp2
      go_loopw [6] (fun sv wr => OuterRel w g off A sv wr) (fun sv _ => 4000000 - (intOf sv).toNat)
      case atStart => have hE := HE.out; rw [List.append_nil] at hE; exact hE
      case round =>
        obtain ⟨bs, Ls, last, k, rfl, hb20, hb2m, hs, hcut, hso, hll, rfl⟩ := hrel
        have hl := hs.length
        rw [HN.out, List.length_append, cut_length hcut] at hl
        by_cases hbn : bs < N
        · have hbz : (bs : Int) < (N : Int) := by omega
          have w2 : IntKind.i64.wrap (2 * (bs : Int)) = ((2 * bs : Nat) : Int) := by rw [IntKind.wrap_i64]; omega
          have w2' : IntKind.i64.wrap ((bs : Int) * 2) = ((2 * bs : Nat) : Int) := by rw [IntKind.wrap_i64]; omega
          have HM0 : Hid (MergeRel w g off bs A (.int .i64 0) (.int .i64 ((2 * bs : Nat) : Int)) (RW w g off (Ls.flatten ++ last) k)) := Lib.hid ⟨[], Ls, last, k, rfl, by simp, hs, fun c hc => (nomatch hc), hcut, hso, hll, rfl⟩
          generalize RW w g off (Ls.flatten ++ last) k = wq at HM0 ⊢
          clear hs hcut hso hll hl
          go_wp2
          go_loopw [7, 8] (fun av bv wr => MergeRel w g off bs A av bv wr) (fun av _ _ => N - (intOf av).toNat)
          case atStart => exact HM0.out
          case round =>
            obtain ⟨Ms, Ls2, last2, k2, rfl, rfl, hs, hcM, hcut, hso, hll, rfl⟩ := hrel
            obtain ⟨a, ha⟩ : ∃ a, Ms.flatten.length = a := ⟨_, rfl⟩
            have hl := hs.length
            rw [HN.out, List.length_append, List.length_append, cut_length hcut, ha] at hl
            rw [ha]
            have wab : IntKind.i64.wrap ((a : Int) + (bs : Int)) = ((a + bs : Nat) : Int) := by rw [IntKind.wrap_i64]; omega
            by_cases hb : a + 2 * bs ≤ N
            · have hbz1 : ((a + 2 * bs : Nat) : Int) ≤ (N : Int) := by omega
              have hbz2 : (a : Int) + 2 * (bs : Int) ≤ (N : Int) := by omega
              rcases Ls2 with _ | ⟨c1, _ | ⟨c2, Ls3⟩⟩
              · exfalso; simp at hl; omega
              · exfalso; simp at hl; omega
              ·
                have e : Ms.flatten ++ ((c1 :: c2 :: Ls3).flatten ++ last2) = Ms.flatten ++ (c1 ++ (c2 ++ (Ls3.flatten ++ last2))) := by simp
                obtain ⟨lc1, sc1⟩ := hcut c1 (by simp)
                obtain ⟨lc2, sc2⟩ := hcut c2 (by simp)
                rw [e] at hs ⊢
                have c := HG.out Ms.flatten c1 c2 (Ls3.flatten ++ last2) hs (by omega) (by omega) sc1 sc2 a (a + bs) (a + 2 * bs) k2 ha (by omega) (by omega)
                have HX : Hid (∀ M q, SwapsM classI A (Ms.flatten ++ (M ++ (Ls3.flatten ++ last2))) → SortedM M → M.length = c1.length + c2.length → MergeRel w g off bs A (.int .i64 ((a + 2 * bs : Nat) : Int)) (.int .i64 ((a + 4 * bs : Nat) : Int)) (RW w g off (Ms.flatten ++ (M ++ (Ls3.flatten ++ last2))) q)) := Lib.hid fun M q h1 h2 h3 =>
                  ⟨Ms ++ [M], Ls3, last2, q, by simp only [List.flatten_append, List.length_append, List.flatten_cons, List.flatten_nil, List.append_nil]; rw [ha, show M.length = 2 * bs by omega], by simp only [List.flatten_append, List.length_append, List.flatten_cons, List.flatten_nil, List.append_nil]; rw [ha, show M.length = 2 * bs by omega, show a + 2 * bs + 2 * bs = a + 4 * bs by omega], by simpa using h1, hcM.snoc (by omega) h2, fun x hx => hcut x (by simp [hx]), hso, hll, by simp⟩
                have w4 : IntKind.i64.wrap (((a + 2 * bs : Nat) : Int) + ((2 * bs : Nat) : Int)) = ((a + 4 * bs : Nat) : Int) := by rw [IntKind.wrap_i64]; omega
                have w4' : IntKind.i64.wrap ((a : Int) + 2 * (bs : Int) + 2 * (bs : Int)) = ((a + 4 * bs : Nat) : Int) := by rw [IntKind.wrap_i64]; omega
                generalize RW w g off (Ms.flatten ++ (c1 ++ (c2 ++ (Ls3.flatten ++ last2)))) k2 = wq2 at c ⊢
                clear hs hcut hcM hso hll hl ha e lc1 sc1 lc2 sc2
                go_wp2_with fail
                refine c.mono ?_
                rintro e w' ⟨rfl, M, q, h1, h2, h3, rfl⟩
                have HE2 := Lib.hid (HX.out M q h1 h2 h3)
                clear h1 h2 h3 c HX
                go_wp2
                go_roundw
                case rel => exact HE2.out
                case measure => simp [intOf]; omega
            · have hbz1 : ¬ (((a + 2 * bs : Nat) : Int) ≤ (N : Int)) := by omega
              have hbz2 : ¬ ((a : Int) + 2 * (bs : Int) ≤ (N : Int)) := by omega
              rcases Ls2 with _ | ⟨c1, _ | ⟨c2, Ls3⟩⟩
              ·
                have hlN : a + last2.length = N := by simpa using hl.symm
                have hm : ¬ (((a + bs : Nat) : Int) < (N : Int)) := by omega
                have hm' : ¬ ((a : Int) + (bs : Int) < (N : Int)) := by omega
                have HX : Hid (OuterRel w g off A (.int .i64 ((2 * bs : Nat) : Int)) (RW w g off (Ms.flatten ++ (([] : List (List Int)).flatten ++ last2)) k2)) := Lib.hid ⟨2 * bs, Ms, last2, k2, rfl, by omega, by omega, by simpa using hs, hcM, hso, by omega, by simp⟩
                generalize RW w g off (Ms.flatten ++ (([] : List (List Int)).flatten ++ last2)) k2 = wq2 at HX ⊢
                clear hs hcut hcM hso hll hl ha hlN hb
                go_wp2
                go_roundw
                case rel => exact HX.out
                case measure => simp [intOf]; omega
              ·
                obtain ⟨lc1, sc1⟩ := hcut c1 (by simp)
                have hlN : a + bs + last2.length = N := by simp at hl; omega
                by_cases h0 : last2.length = 0
                · have hl0 : last2 = [] := List.eq_nil_of_length_eq_zero h0
                  subst hl0
                  have hm : ¬ (((a + bs : Nat) : Int) < (N : Int)) := by simp at hlN; omega
                  have hm' : ¬ ((a : Int) + (bs : Int) < (N : Int)) := by omega
                  have HX : Hid (OuterRel w g off A (.int .i64 ((2 * bs : Nat) : Int)) (RW w g off (Ms.flatten ++ ([c1].flatten ++ [])) k2)) := Lib.hid ⟨2 * bs, Ms, c1, k2, rfl, by omega, by omega, by simpa using hs, hcM, sc1, by omega, by simp⟩
                  generalize RW w g off (Ms.flatten ++ ([c1].flatten ++ [])) k2 = wq2 at HX ⊢
                  clear hs hcut hcM hso hll hl ha hlN hb h0 lc1 sc1
                  go_wp2
                  go_roundw
                  case rel => exact HX.out
                  case measure => simp [intOf]; omega
                · have hm : ((a + bs : Nat) : Int) < (N : Int) := by omega
                  have hm' : (a : Int) + (bs : Int) < (N : Int) := by omega
                  have e : Ms.flatten ++ ([c1].flatten ++ last2) = Ms.flatten ++ (c1 ++ (last2 ++ [])) := by simp
                  rw [e] at hs ⊢
                  have c := HG.out Ms.flatten c1 last2 [] hs (by omega) (by omega) sc1 hso a (a + bs) N k2 ha (by omega) (by omega)
                  have HX : Hid (∀ M q, SwapsM classI A (Ms.flatten ++ (M ++ [])) → SortedM M → M.length = c1.length + last2.length → OuterRel w g off A (.int .i64 ((2 * bs : Nat) : Int)) (RW w g off (Ms.flatten ++ (M ++ [])) q)) := Lib.hid fun M q h1 h2 h3 =>
                    ⟨2 * bs, Ms, M, q, rfl, by omega, by omega, by simpa using h1, hcM, h2, by omega, by simp⟩
                  generalize RW w g off (Ms.flatten ++ (c1 ++ (last2 ++ []))) k2 = wq2 at c ⊢
                  clear hs hcut hcM hso hll hl ha e lc1 sc1 hlN hb h0
                  go_wp2_with fail
                  refine c.mono ?_
                  rintro e w' ⟨rfl, M, q, h1, h2, h3, rfl⟩
                  have HE2 := Lib.hid (HX.out M q h1 h2 h3)
                  clear h1 h2 h3 c HX
                  rw [List.append_nil] at HE2
                  go_wp2
                  go_roundw
                  case rel => exact HE2.out
                  case measure => simp [intOf]; omega
              · exfalso
                simp only [List.length_cons] at hl
                have : bs * (Ls3.length + 1 + 1) = bs * Ls3.length + bs + bs := by rw [Nat.mul_add, Nat.mul_add, Nat.mul_one]
                omega
        · have hge : ¬ ((bs : Int) < (N : Int)) := by omega
          have HX : Hid (RunPost w g off A (RW w g off (Ls.flatten ++ last) k)) := Lib.hid (by
            match Ls, hs, hcut, hl with
            | [], hs, hcut, hl => exact ⟨last, k, by simpa using hs, hso, by simp⟩
            | c1 :: Ls3, hs, hcut, hl =>
              obtain ⟨lc1, sc1⟩ := hcut c1 (by simp)
              simp only [List.length_cons] at hl
              have hm : bs * (Ls3.length + 1) = bs * Ls3.length + bs := by rw [Nat.mul_add, Nat.mul_one]
              have hL0 : last = [] := List.eq_nil_of_length_eq_zero (by omega)
              have hL3 : Ls3 = [] := by
                cases Ls3 with
                | nil => rfl
                | cons c2 Ls4 =>
                  simp only [List.length_cons] at hm hl
                  have : bs * (Ls4.length + 1) = bs * Ls4.length + bs := by rw [Nat.mul_add, Nat.mul_one]
                  omega
              subst hL0 hL3
              exact ⟨c1, k, by simpa using hs, sc1, by simp⟩)
          generalize RW w g off (Ls.flatten ++ last) k = wq at HX ⊢
          clear hs hcut hso hll hl
          go_wp2
          go_end0
          exact ⟨rfl, HX.out⟩
theorem orderRun_c (w : World) (g off cap N : Nat) (A : List Int) (hH : Holds encSo w g off A.toArray) (hN : A.length = N) (h2 : N < 1000000) (hp : PosM A) :
    Calls Tryz.prog 202 #[.slice (some ⟨g, off, none⟩) N cap] w fun e w' => e = .returned (.tuple #[]) ∧ RunPost w g off A w' :=
  orderRun_of _ N cap w _ (sortStable_of _ N cap w _ (stable_any w g off cap N A hH hN h2 hp))
end Go.Proofs.YtfioknaadbgjlaaGreatDoor.F
