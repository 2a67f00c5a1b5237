/-
  A row of characters in a block: the world in which it holds a list ('RW'); two of its cells changed about.
-/
import Derived.Test.YtjakelphkehonaaBubble
import Derived.Sort.WalkC
import Derived.WalkKit
import Derived.Lib.Hide
namespace Go.Proofs.Ytjakelphkehonaa
open Go.RowKit Go.Sort
set_option linter.unusedVariables false

abbrev encI : Int → Value := Value.int .i32
def RW (w : World) (g off : Nat) (L : List Int) (m : Nat) : World := (putRow encI w g off L.toArray).drewN m
theorem toArray_at (L : List Int) (i : Nat) : L.toArray[i]! = L.getD i 0 := by
  by_cases h : i < L.length
  · rw [getElem!_pos _ i (by simpa using h)]
    simp [List.getD_eq_getElem?_getD, List.getElem?_eq_getElem h]
  · rw [getElem!_neg _ i (by simpa using h)]
    simp [List.getD_eq_getElem?_getD, List.getElem?_eq_none (show L.length ≤ i by omega)]
theorem RW_start {w : World} {g off : Nat} {L : List Int} (h : Holds encI w g off L.toArray) : RW w g off L 0 = w := putRow_self encI w g off L.toArray h
theorem RW_holds {w : World} {g off : Nat} {L0 L : List Int} {m : Nat} (hH : Holds encI w g off L0.toArray) (hs : L.length = L0.length) : Holds encI (RW w g off L m) g off L.toArray :=
  fun j hj => holds_putRow encI w g off L0.toArray L.toArray hH (by simpa using hs) j hj
theorem RW_cell {w : World} {g off : Nat} {L0 L : List Int} {m i : Nat} (hH : Holds encI w g off L0.toArray) (hs : L.length = L0.length) (hi : i < L.length) :
    (RW w g off L m).cell? ⟨g, off + i, none⟩ = some (.int .i32 (L.getD i 0)) ∧ (RW w g off L m).frozen? ⟨g, off + i, none⟩ = false := by
  have := RW_holds (m := m) hH hs i (by simpa using hi)
  rw [toArray_at] at this
  exact this
theorem RW_drew {w : World} {g off : Nat} {L : List Int} {m q : Nat} : (RW w g off L m).drewN q = RW w g off L (m + q) := by
  unfold RW; rw [World.drewN_drewN]
theorem RW_again {w : World} {g off : Nat} {L M : List Int} {m n : Nat} (h : M.length = L.length) : RW (RW w g off L m) g off M n = RW w g off M (m + n) := by
  unfold RW
  have h1 := putRow_putRow encI w g off L.toArray M.toArray (by simpa using h)
  have h2 : putRow encI ((putRow encI w g off L.toArray).drewN m) g off M.toArray = (putRow encI (putRow encI w g off L.toArray) g off M.toArray).drewN m := by
    induction m with
    | zero => rfl
    | succ m ih =>
      show putRow encI ((putRow encI w g off L.toArray).drewN m).drew g off M.toArray = _
      rw [← putRow_drew, ih]; rfl
  rw [h2, h1, World.drewN_drewN]

def swpL (L : List Int) (i j : Nat) : List Int := (L.set i (L.getD j 0)).set j (L.getD i 0)
theorem swpL_length (L : List Int) (i j : Nat) : (swpL L i j).length = L.length := by simp [swpL]
theorem swp_list (L : List Int) (i j : Nat) : swp L.toArray i j = (swpL L i j).toArray := by
  unfold swp swpL
  rw [toArray_at, toArray_at]
  simp
theorem RW_swap (w : World) (g off : Nat) (L : List Int) (m i j : Nat) (hi : i < L.length) (hj : j < L.length) :
    (((RW w g off L m).setCell ⟨g, off + i, none⟩ (.int .i32 (L.getD j 0))).setCell ⟨g, off + j, none⟩ (.int .i32 (L.getD i 0))).drew = RW w g off (swpL L i j) (m + 1) := by
  have := swap_worldC encI w g off L.toArray m i j (by simpa using hi) (by simpa using hj)
  rw [toArray_at, toArray_at, swp_list] at this
  exact this
theorem getD_mid (P T : List Int) (x : Int) : (P ++ x :: T).getD P.length 0 = x := by simp [List.getD_eq_getElem?_getD]
theorem set_mid (P T : List Int) (x y : Int) : (P ++ x :: T).set P.length y = P ++ y :: T := by simp
theorem getD_two (P M T : List Int) (x y : Int) : (P ++ x :: (M ++ y :: T)).getD (P.length + 1 + M.length) 0 = y := by
  have e : (P ++ x :: (M ++ y :: T)) = (P ++ x :: M) ++ y :: T := by simp
  have hl : (P ++ x :: M).length = P.length + 1 + M.length := by simp; omega
  rw [e, ← hl]; exact getD_mid _ T y
theorem swpL_at (P M T : List Int) (x y : Int) : swpL (P ++ x :: (M ++ y :: T)) P.length (P.length + 1 + M.length) = P ++ y :: (M ++ x :: T) := by
  have e : (P ++ x :: (M ++ y :: T)) = (P ++ x :: M) ++ y :: T := by simp
  have hl : (P ++ x :: M).length = P.length + 1 + M.length := by simp; omega
  have g1 : (P ++ x :: (M ++ y :: T)).getD P.length 0 = x := getD_mid P _ x
  have g2 : (P ++ x :: (M ++ y :: T)).getD (P.length + 1 + M.length) 0 = y := by rw [e, ← hl]; exact getD_mid _ T y
  unfold swpL
  rw [g1, g2, set_mid]
  have e2 : (P ++ y :: (M ++ y :: T)) = (P ++ y :: M) ++ y :: T := by simp
  have hl2 : (P ++ y :: M).length = P.length + 1 + M.length := by simp; omega
  rw [e2, ← hl2, set_mid]
  simp
theorem swpL_comm (L : List Int) {i j : Nat} (h : i ≠ j) : swpL L i j = swpL L j i := by
  unfold swpL
  rw [List.set_comm _ _ h]
theorem swpL_next (P T : List Int) (x y : Int) : swpL (P ++ x :: y :: T) P.length (P.length + 1) = P ++ y :: x :: T := swpL_at P [] T x y

theorem SwapsM.trans {c : Int → Int} {a b d : List Int} (h : SwapsM c a b) (k : SwapsM c b d) : SwapsM c a d := by
  induction h with
  | same l => exact k
  | step p t x y hw hs ih => exact .step p t x y hw (ih k)
theorem SwapsM.within {c : Int → Int} {a b : List Int} (P T : List Int) (h : SwapsM c a b) : SwapsM c (P ++ a ++ T) (P ++ b ++ T) := by
  induction h with
  | same l => exact .same _
  | step p t x y hw hs ih =>
    have e1 : P ++ (p ++ x :: y :: t) ++ T = (P ++ p) ++ x :: y :: (t ++ T) := by simp
    have e2 : P ++ (p ++ y :: x :: t) ++ T = (P ++ p) ++ y :: x :: (t ++ T) := by simp
    rw [e1]
    rw [e2] at ih
    exact .step _ _ x y hw ih
theorem SwapsM.perm {c : Int → Int} {a b : List Int} (h : SwapsM c a b) : a.Perm b := by
  induction h with
  | same l => exact List.Perm.refl _
  | step p t x y hw hs ih => exact ((List.Perm.swap y x t).append_left p).trans ih
theorem SwapsM.length {c : Int → Int} {a b : List Int} (h : SwapsM c a b) : a.length = b.length := h.perm.length_eq
theorem SwapsM.one {c : Int → Int} {x : Int} : ∀ (B : List Int), (∀ y ∈ B, wrongB c x y = true) → ∀ T, SwapsM c (x :: B ++ T) (B ++ x :: T)
  | [], _, T => .same _
  | y :: B, h, T => by
    have ih := SwapsM.one B (fun z hz => h z (by simp [hz])) T
    refine .step [] (B ++ T) x y (h y (by simp)) ?_
    have := ih.within [y] []
    simpa using this
theorem SwapsM.rotate {c : Int → Int} : ∀ (A B : List Int), (∀ x ∈ A, ∀ y ∈ B, wrongB c x y = true) → SwapsM c (A ++ B) (B ++ A)
  | [], B, _ => by simpa using SwapsM.same _
  | x :: A, B, h => by
    have ih := SwapsM.rotate A B (fun z hz => h z (by simp [hz]))
    have h1 : SwapsM c (x :: (A ++ B)) (x :: (B ++ A)) := by simpa using ih.within [x] []
    refine h1.trans ?_
    exact SwapsM.one B (h x (by simp)) A
end Go.Proofs.Ytjakelphkehonaa
