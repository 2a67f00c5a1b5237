/- Kit. -/
import Derived.Test.YtfioknaadbgjlaaGreatDoorEKC
import Derived.OwnWalk
import Derived.Test.YtfioknaadbgjlaaGreatDoorEKA
import Derived.Test.YtfioknaadbgjlaaGreatDoorEKB
import Derived.Laws.IdiomStrings
import Derived.OpenShut
import Derived.Test.YtfioknaadbgjlaaGreatDoorEL3
import Derived.Test.YtfioknaadbgjlaaGreatDoorEL2
set_option maxRecDepth 100000
set_option linter.unusedVariables false
set_option linter.unusedSimpArgs false
namespace Go.Proofs.YtfioknaadbgjlaaGreatDoor.F
open Go.RowKit Go.Sort
end Go.Proofs.YtfioknaadbgjlaaGreatDoor.F
namespace Go.Proofs.YtfioknaadbgjlaaGreatDoor.F
open Go.RowKit Go.Sort
end Go.Proofs.YtfioknaadbgjlaaGreatDoor.F
namespace Go.Proofs.YtfioknaadbgjlaaGreatDoor.F
open Go.RowKit Go.Sort
end Go.Proofs.YtfioknaadbgjlaaGreatDoor.F
namespace Go.Proofs.YtfioknaadbgjlaaGreatDoor.F
open Go.RowKit Go.Lib Go.Sort
/-! ### put together -/
theorem ascii_pair {b r : Int} (hb : b < 128) (h : 0 < pairI b r) : 0 < classI r := by
  have hm : ∀ n : Nat, n < 13 → 0 < classI (markN n) := by decide +kernel
  rcases pair_kinds h with h1 | h1 | h1
  · cases hp : pairT b r with
    | some x =>
      obtain ⟨n, hn, hr, _⟩ := pairT_spec hp
      rw [← hr]; exact hm n hn
    | none =>
      unfold pairI at h
      rw [hp] at h
      simp only at h
      rw [if_neg (by omega), if_neg (by omega)] at h
      omega
  · omega
  · omega
theorem step_low (A : List Int) {x : Int} (hx : x < 768) : togStep A x = A ++ [x] := by
  unfold togStep
  cases hb : lastBase A with
  | none => rfl
  | some q =>
    obtain ⟨p, b, ms⟩ := q
    simp only
    rw [if_neg]
    rintro ⟨_, h⟩
    rcases pair_kinds h with h1 | h1 | h1 <;> omega
theorem fix_low {A : List Int} (h : FixT A) : ∀ E : List Int, (∀ x ∈ E, x < 768) → FixT (A ++ E) := by
  refine snoc_ind (fun _ => by simpa using h) fun E r ih hE => ?_
  rw [← List.append_assoc]
  exact fix_snoc (ih (fun x hx => hE x (by simp [hx]))) (step_low _ (hE r (by simp)))
theorem base_front (A : List Int) : ∀ {X p : List Int} {b : Int} {ms : List Int}, lastBase X = some (p, b, ms) → lastBase (A ++ X) = some (A ++ p, b, ms) := by
  intro X p b ms h
  obtain ⟨rfl, hb, hms⟩ := lastBase_some h
  rw [← List.append_assoc]
  exact lastBase_at (A ++ p) hb hms
theorem step_front (A : List Int) {X : List Int} (hX : lastBase X ≠ none) (r : Int) : togStep (A ++ X) r = A ++ togStep X r := by
  cases hb : lastBase X with
  | none => exact absurd hb hX
  | some q =>
    obtain ⟨p, b, ms⟩ := q
    unfold togStep
    rw [base_front A hb, hb]
    simp only
    split
    · rw [List.append_assoc]
    · rw [List.append_assoc]
/-- What ends in a character of ASCII, or holds none. -/
def EndOK (A : List Int) : Prop := A = [] ∨ ∃ B x, A = B ++ [x] ∧ x < 128 ∧ classI x = 0
theorem fix_seg {A : List Int} (hA : FixT A) (he : EndOK A) : ∀ T : List Int, FixT T → (∀ r t, T = r :: t → classI r = 0) → FixT (A ++ T) ∧ T.foldl togStep A = A ++ T := by
  refine snoc_ind (fun _ _ => ⟨by simpa using hA, by simp⟩) fun T r ih hT hc => ?_
  have hF := fix_front hT
  have hst : togStep T r = T ++ [r] := by
    have h1 := hT
    unfold FixT at h1 hF
    rw [togI_snoc, hF] at h1
    exact h1
  have key : togStep (A ++ T) r = A ++ (T ++ [r]) := by
    cases T with
    | nil =>
      rw [List.append_nil]
      have hr := hc r [] rfl
      unfold togStep
      rcases he with rfl | ⟨B, x, rfl, hx, hcx⟩
      · rfl
      · rw [lastBase_at B hcx (fun y hy => by cases hy)]
        simp only
        rw [if_neg]
        · rfl
        · rintro ⟨_, h⟩
          have := ascii_pair hx h
          omega
    | cons t0 T =>
      have h0 := hc t0 (T ++ [r]) rfl
      rw [step_front A (fun h => ?_) r, hst]
      have := lastBase_none h t0 (by simp)
      omega
  have ihh := ih hF (fun q t h => hc q (t ++ [r]) (by rw [h]; rfl))
  refine ⟨?_, by rw [List.foldl_append, ihh.2]; exact key⟩
  rw [← List.append_assoc]
  exact fix_snoc ihh.1 (by rw [key, List.append_assoc])
/-- The first of what is put together. -/
theorem tog_first : ∀ s : List Int, (∀ r t, s = r :: t → classI r = 0) → ∀ r t, togI s = r :: t → classI r = 0 := by
  refine snoc_ind (fun _ r t h => by cases h) fun s x ih hs r t h => ?_
  rw [togI_snoc] at h
  have hfirst : ∀ r t, togI s = r :: t → classI r = 0 := by
    intro r t h9
    refine ih (fun q u h8 => hs q (u ++ [x]) (by rw [h8]; rfl)) r t h9
  unfold togStep at h
  cases hb : lastBase (togI s) with
  | none =>
    rw [hb] at h
    simp only at h
    cases ht : togI s with
    | nil =>
      rw [ht] at h
      have e : x = r := by simpa using (List.cons.inj h).1
      have hs0 : s = [] := by
        cases s with
        | nil => rfl
        | cons q u =>
          exfalso
          have h7 : ∀ l out : List Int, out ≠ [] → l.foldl togStep out ≠ [] := by
            intro l
            induction l with
            | nil => intro out h; exact h
            | cons c l ihl =>
              intro out h
              refine ihl _ ?_
              unfold togStep
              split
              · simp
              · split <;> simp
          exact h7 u (togStep [] q) (by unfold togStep; split <;> simp [lastBase] at *) ht
      rw [← e]
      exact hs x [] (by rw [hs0]; rfl)
    | cons q u =>
      rw [ht] at h
      have e : q = r := (List.cons.inj h).1
      rw [← e]
      exact hfirst q u ht
  | some pq =>
    obtain ⟨p, b, ms⟩ := pq
    rw [hb] at h
    simp only at h
    obtain ⟨ho, hb0, _⟩ := lastBase_some hb
    split at h
    · rename_i hc
      cases p with
      | nil =>
        have e : pairI b x = r := (List.cons.inj h).1
        rw [← e]
        exact class_made hc.2
      | cons q u =>
        have e : q = r := (List.cons.inj h).1
        rw [← e]
        exact hfirst q (u ++ b :: ms) (by rw [ho]; rfl)
    · rw [ho] at h
      cases p with
      | nil =>
        have e : b = r := (List.cons.inj h).1
        rw [← e]; exact hb0
      | cons q u =>
        have e : q = r := (List.cons.inj h).1
        rw [← e]
        exact hfirst q (u ++ b :: ms) (by rw [ho]; rfl)
theorem escC_low (l : List UInt8) : ∀ x ∈ escC l, x < 128 := fun x hx => by
  unfold escC at hx
  obtain ⟨y, hy, rfl⟩ := List.mem_map.1 hx
  have := escs_small l y hy
  omega
theorem hex_class : ∀ n : Nat, n < 256 → classI ((hexL.getD (n % 16) 0).toNat : Int) = 0 := by decide +kernel
theorem escC_end : ∀ l : List UInt8, l ≠ [] → ∃ B x, escC l = B ++ [x] ∧ x < 128 ∧ classI x = 0 ∧ x ≠ 46 ∧ x ≠ 32
  | [], h => absurd rfl h
  | [y], _ => by
    have hd : ∀ n : Nat, n < 256 → ((hexL.getD (n % 16) 0).toNat : Int) < 128 ∧ ((hexL.getD (n % 16) 0).toNat : Int) ≠ 46 ∧ ((hexL.getD (n % 16) 0).toNat : Int) ≠ 32 := by decide +kernel
    have h1 := hd y.toNat y.toNat_lt
    refine ⟨[37, ((hexL.getD (y.toNat / 16) 0).toNat : Int)], ((hexL.getD (y.toNat % 16) 0).toNat : Int), ?_, h1.1, hex_class y.toNat y.toNat_lt, h1.2⟩
    rw [escC_cons]; rfl
  | y :: z :: l, _ => by
    obtain ⟨B, x, h1, h2⟩ := escC_end (z :: l) (by simp)
    refine ⟨37 :: ((hexL.getD (y.toNat / 16) 0).toNat : Int) :: ((hexL.getD (y.toNat % 16) 0).toNat : Int) :: B, x, ?_, h2⟩
    rw [escC_cons, h1]; rfl
theorem presC_fix_reg : ∀ (n : Nat) (l : List UInt8) (op A : List Int), FixT A → EndOK A → (∀ r t, op = r :: t → classI r = 0) → FixT (A ++ presC 8 true n l op) := by
  have hseg : ∀ op A : List Int, FixT A → EndOK A → (∀ r t, op = r :: t → classI r = 0) → FixT (A ++ joinT (decide ((8 : Int) = 8)) true op) := fun op A hA he hc =>
    (fix_seg hA he (togI op) (tog_twice op) (tog_first op hc)).1
  intro n
  induction n with
  | zero => intro l op A hA he hc; exact hseg op A hA he hc
  | succ n ih =>
    intro l op A hA he hc
    simp only [presC]
    split
    · exact hseg op A hA he hc
    · rename_i hne
      have hr := pieceL_range (enc := 8) (by decide) hne
      split
      · rename_i hh
        have htk : l.take (pieceL 8 l).2 ≠ [] := by
          intro h9
          have := congrArg List.length h9
          rw [List.length_take, List.length_nil] at this
          omega
        obtain ⟨B, x, hB, hx, hcx, _⟩ := escC_end _ htk
        rw [← List.append_assoc, ← List.append_assoc]
        refine ih _ [] _ (fix_low (hseg op A hA he hc) _ (fun y hy => by have := escC_low _ y hy; omega)) (Or.inr ⟨A ++ joinT (decide ((8 : Int) = 8)) true op ++ B, x, ?_, hx, hcx⟩) (fun r t h => by cases h)
        rw [hB]
        simp only [List.append_assoc]
      · rename_i hh
        refine ih _ _ A hA he (fun r t h => ?_)
        cases op with
        | nil =>
          have e : (pieceL 8 l).1 = r := by simpa using (List.cons.inj h).1
          rw [← e]
          have h0 := not_hidden (by simpa using hh)
          have h1 : hideB true true (decide (l.length = (pieceL 8 l).2)) true (pieceL 8 l).1 = false := by simpa using hh
          unfold hideB at h1
          simp only [Bool.or_eq_false_iff, Bool.true_and, decide_eq_false_iff_not] at h1
          have := classI_nn (pieceL 8 l).1
          omega
        | cons q u =>
          have e : q = r := (List.cons.inj h).1
          rw [← e]
          exact hc q u rfl
/-! ### the last one -/
def LastOK (l : List Int) : Prop := ∃ B x, l = B ++ [x] ∧ x ≠ 46 ∧ x ≠ 32
theorem LastOK.front {l : List Int} (h : LastOK l) (A : List Int) : LastOK (A ++ l) := by
  obtain ⟨B, x, rfl, h1⟩ := h
  exact ⟨A ++ B, x, by rw [List.append_assoc], h1⟩
theorem tog_last {op : List Int} {r : Int} (h : r ≠ 46 ∧ r ≠ 32) : LastOK (togI (op ++ [r])) := by
  rw [togI_snoc]
  unfold togStep
  cases hb : lastBase (togI op) with
  | none => exact ⟨_, r, rfl, h⟩
  | some q =>
    obtain ⟨p, b, ms⟩ := q
    obtain ⟨_, _, hms⟩ := lastBase_some hb
    simp only
    split
    · rename_i hc
      have hk := pair_kinds hc.2
      rcases List.eq_nil_or_concat ms with hm | ⟨m, z, hm⟩
      · rw [hm]
        refine ⟨p, pairI b r, rfl, ?_⟩
        constructor <;> omega
      · rw [List.concat_eq_append] at hm
        rw [hm]
        have hz := hms z (by rw [hm]; simp)
        have hz2 := mark_near hz
        refine ⟨p ++ pairI b r :: m, z, by simp, ?_⟩
        constructor <;> omega
    · exact ⟨_, r, rfl, h⟩
theorem last_presC {enc : Int} (h0 : 0 ≤ enc) (good : Bool) : ∀ (n : Nat) (l : List UInt8) (op : List Int), l.length ≤ n → l ≠ [] → LastOK (presC enc good n l op)
  | 0, l, op, hl, hne => absurd (List.eq_nil_of_length_eq_zero (by omega)) hne
  | n + 1, l, op, hl, hne => by
    have hr := pieceL_range h0 hne
    have hd : (l.drop (pieceL enc l).2).length ≤ n := by rw [List.length_drop]; omega
    have hend : ∀ (m : Nat) (o : List Int), presC enc good m [] o = joinT (decide (enc = 8)) good o := fun m o => by cases m <;> simp [presC]
    simp only [presC]
    rw [if_neg hne]
    by_cases hlast : l.drop (pieceL enc l).2 = []
    · have hK : l.length = (pieceL enc l).2 := by
        have := congrArg List.length hlast
        rw [List.length_drop, List.length_nil] at this
        omega
      rw [hlast, hend, hend]
      split
      · have htk : l.take (pieceL enc l).2 ≠ [] := by
          rw [List.take_of_length_le (by omega)]; exact hne
        obtain ⟨B, x, hB, _, _, hx⟩ := escC_end _ htk
        have hj0 : joinT (decide (enc = 8)) good [] = [] := by
          unfold joinT
          split <;> rfl
        rw [hj0, List.append_nil]
        exact LastOK.front ⟨B, x, hB, hx⟩ _
      · rename_i hh
        have h1 : hideB (decide (enc = 8)) good (decide (l.length = (pieceL enc l).2)) (decide (op = [])) (pieceL enc l).1 = false := by simpa using hh
        rw [decide_eq_true hK] at h1
        unfold hideB at h1
        simp only [Bool.or_eq_false_iff, Bool.true_and, decide_eq_false_iff_not] at h1
        have hx : (pieceL enc l).1 ≠ 46 ∧ (pieceL enc l).1 ≠ 32 := by
          have h2 := h1.1.1.2
          exact ⟨fun e => h2 (Or.inl e), fun e => h2 (Or.inr e)⟩
        unfold joinT
        split
        · exact tog_last hx
        · exact ⟨op, _, rfl, hx⟩
    · split
      · exact LastOK.front (LastOK.front (last_presC h0 good n _ [] hd hlast) _) _
      · exact last_presC h0 good n _ _ hd hlast
end Go.Proofs.YtfioknaadbgjlaaGreatDoor.F
namespace Go.Proofs.YtfioknaadbgjlaaGreatDoor.F
open Go.RowKit Go.Lib Go.Sort
def chars (l : List UInt8) : List Int := l.map fun c => (c.toNat : Int)
end Go.Proofs.YtfioknaadbgjlaaGreatDoor.F
namespace Go.Proofs.YtfioknaadbgjlaaGreatDoor.F
open Go.RowKit Go.Sort
end Go.Proofs.YtfioknaadbgjlaaGreatDoor.F
namespace Go.Proofs.YtfioknaadbgjlaaGreatDoor.F
open Go.RowKit Go.Sort
end Go.Proofs.YtfioknaadbgjlaaGreatDoor.F
namespace Go.Proofs.YtfioknaadbgjlaaGreatDoor.F
open Go.RowKit Go.Sort
end Go.Proofs.YtfioknaadbgjlaaGreatDoor.F
namespace Go.Proofs.YtfioknaadbgjlaaGreatDoor.F
open Go.RowKit Go.Sort
end Go.Proofs.YtfioknaadbgjlaaGreatDoor.F
namespace Go.Proofs.YtfioknaadbgjlaaGreatDoor.F
open Go.RowKit Go.Sort
end Go.Proofs.YtfioknaadbgjlaaGreatDoor.F
namespace Go.Proofs.YtfioknaadbgjlaaGreatDoor.F
open Go.RowKit Go.Sort
end Go.Proofs.YtfioknaadbgjlaaGreatDoor.F
namespace Go.Proofs.YtfioknaadbgjlaaGreatDoor.F
open Go.RowKit
end Go.Proofs.YtfioknaadbgjlaaGreatDoor.F
namespace Go.Proofs.YtfioknaadbgjlaaGreatDoor.F
open Go.RowKit Go.Sort
end Go.Proofs.YtfioknaadbgjlaaGreatDoor.F
namespace Go.Proofs.YtfioknaadbgjlaaGreatDoor.F
open Go.RowKit Go.Sort
def longB (enc : Int) (l : List UInt8) : Bool := decide ((255 : Int) < ((⟨(presL enc l).toArray⟩ : ByteArray).size : Int))
set_option maxHeartbeats 1000000 in
theorem long_c (enc : Int) (h0 : 0 ≤ enc) (h8 : enc ≤ 8) (b : ByteArray) (hs : b.size ≤ 300) (w : World) (hT : Tabs w) :
    Calls Tryz.prog 48 #[.int .i64 enc, .string b] w fun e w' => e = .returned (.bool (longB enc b.data.toList)) ∧ Below w.heap.size w w' := by
  have c := present_c enc h0 h8 b hs w hT
  unfold longB
  generalize (⟨(presL enc b.data.toList).toArray⟩ : ByteArray) = P at *
  clear hT h0 h8 hs
  go_enter Tryz.func48, Tryz.ntmps48
  go_wp2_with fail
  refine c.mono ?_
  rintro e w1 ⟨rfl, hb⟩
  have HB := Lib.hid hb
  clear c hb
  go_wp2
  go_ret
  exact ⟨rfl, HB.out⟩
end Go.Proofs.YtfioknaadbgjlaaGreatDoor.F
