/-
  The contracts of compose's Pair and Split; what lay in memory stays.
-/
import Derived.Test.YtjakelphkehonaaCpAcross
import Derived.Test.YtjakelphkehonaaCpHangul
import Derived.Test.YtjakelphkehonaaR3Split
namespace Go.Proofs.Ytjakelphkehonaa
open Go.RowKit
set_option linter.unusedVariables false

set_option maxHeartbeats 1000000 in
theorem makes_c (b c : ByteArray) (l m : List Int) (r : Int) (hr : runesL b.data.toList = some l) (hr' : runesL c.data.toList = some m) (hl : l.length = m.length) (hs : b.size ≤ 4000) (hs' : c.size ≤ 4000) (hk : l.length ≤ 900) (w : World) :
    Calls Try.prog 28 #[.agg #[.string b, .string c], .int .i32 r] w fun e w' => e = .returned (.tuple #[.int .i32 ((acrI l m r).getD 0), .bool (acrI l m r).isSome]) ∧ Below w.heap.size w w' := by
  have cA := fun w => across_c b c l m r hr hr' hl hs hs' hk w
  generalize acrI l m r = A at cA ⊢
  clear hr hr' hl hk
  go_enter Try.func28, Try.ntmps28
  go_wp2_with fail
  refine (cA _).mono ?_
  rintro e w1 ⟨rfl, hb⟩
  have hbb := below_step ((Below.refl _ w).alloc (Nat.le_refl _) _) hb
  clear hb
  go_wp2
  go_ret2
  exact ⟨rfl, hbb⟩
set_option maxHeartbeats 1000000 in
theorem comes_c (b c : ByteArray) (l m : List Int) (r : Int) (hr : runesL b.data.toList = some l) (hr' : runesL c.data.toList = some m) (hl : l.length = m.length) (hs : b.size ≤ 4000) (hs' : c.size ≤ 4000) (hk : m.length ≤ 900) (w : World) :
    Calls Try.prog 31 #[.agg #[.string b, .string c], .int .i32 r] w fun e w' => e = .returned (.tuple #[.int .i32 ((acrI m l r).getD 0), .bool (acrI m l r).isSome]) ∧ Below w.heap.size w w' := by
  have cA := fun w => across_c c b m l r hr' hr hl.symm hs' hs hk w
  generalize acrI m l r = A at cA ⊢
  clear hr hr' hl hk
  go_enter Try.func31, Try.ntmps31
  go_wp2_with fail
  refine (cA _).mono ?_
  rintro e w1 ⟨rfl, hb⟩
  have hbb := below_step ((Below.refl _ w).alloc (Nat.le_refl _) _) hb
  clear hb
  go_wp2
  go_ret2
  exact ⟨rfl, hbb⟩

theorem acr_swap (l m : List Int) (hl : l.length = m.length) (r : Int) : acrI m l r = ((l.zip m).find? fun p => decide (p.2 = r)).map (·.1) := by
  unfold acrI
  by_cases h : ∃ i, i < m.length ∧ m.getD i 0 = r
  · classical
    have hf : ∃ i, (i < m.length ∧ m.getD i 0 = r) ∧ ∀ j, j < i → m.getD j 0 ≠ r := by
      obtain ⟨i, hi, he⟩ := h
      induction i using Nat.strongRecOn with
      | _ i ih =>
        by_cases hno : ∀ j, j < i → m.getD j 0 ≠ r
        · exact ⟨i, ⟨hi, he⟩, hno⟩
        · obtain ⟨j, hj⟩ := Classical.not_forall.1 hno
          obtain ⟨hji, hje⟩ := Classical.not_imp.1 hj
          exact ih j hji (by omega) (Classical.not_not.1 hje)
    obtain ⟨i, ⟨hi, he⟩, hno⟩ := hf
    rw [zip_find1 hl.symm hi he hno, zip_find2 hl hi he hno]
  · have hno : ∀ i, i < m.length → m.getD i 0 ≠ r := fun i hi he => h ⟨i, hi, he⟩
    rw [zip_none1 hno, zip_none2 hno]

def rowsFit (b : Int) : Prop := (rowLs b).length = (rowMs b).length ∧ (rowLs b).length ≤ 40 ∧ (rowLs b).all isR = true ∧ (rowMs b).all isR = true
theorem rows_fit (b : Int) : rowsFit b := by
  unfold rowsFit rowLs rowMs
  cases hx : rowIx b with
  | none => exact ⟨rfl, by decide, rfl, rfl⟩
  | some n =>
    have := table_at (rowIx_some hx).1
    exact ⟨this.1, this.2.2.1, this.2.2.2.1, this.2.2.2.2.1⟩

theorem marks_apart : ∀ i : Nat, i < 13 → ∀ j : Nat, j < 13 → markN i = markN j → i = j := by decide +kernel
theorem marks_up : ∀ i : Nat, i < 13 → ∀ j : Nat, j < i → markN j < markN i := by decide +kernel
theorem made_upto : ∀ n : Nat, n < 13 → ∀ x ∈ madeN n, 192 ≤ x ∧ x ≤ 382 := by decide +kernel
theorem pairT_row (a b : Int) : pairT a b = acrI (rowLs b) (rowMs b) a := by
  unfold rowLs rowMs
  cases hx : rowIx b with
  | none =>
    have hno := rowIx_none hx
    show _ = none
    exact firstSome_none fun j hj => by unfold pairF; rw [if_neg (hno j hj)]
  | some n =>
    obtain ⟨hn, hm⟩ := rowIx_some hx
    have hf : pairF a b n = acrI (lettersN n) (madeN n) a := by unfold pairF; rw [if_pos hm]; rfl
    have hno : ∀ j, j < 13 → j ≠ n → pairF a b j = none := fun j hj hjn => by
      unfold pairF
      rw [if_neg fun e => hjn (marks_apart j hj n hn (by rw [e, hm]))]
    simp only
    rw [← hf]
    cases hc : pairF a b n with
    | some x => exact firstSome_at hn (fun j hj => hno j (by omega) (by omega)) hc
    | none =>
      refine firstSome_none fun j hj => ?_
      by_cases e : j = n
      · rw [e]; exact hc
      · exact hno j hj e
theorem rowSplit_is (n : Nat) (h : n < 13) (r : Int) : rowSplit n r = acrI (madeN n) (lettersN n) r := (acr_swap _ _ (table_at h).1 r).symm
theorem pairI_some {a b x : Int} (h : pairT a b = some x) : pairI a b = x ∧ 0 < x := by
  refine ⟨by unfold pairI; rw [h], ?_⟩
  obtain ⟨n, hn, hm, hz⟩ := pairT_spec h
  have := back_at hn hz
  simp only at this
  omega
theorem pairI_hang {a b : Int} (h : pairT a b = none) : pairI a b = hangI a b := by unfold pairI; rw [h]; rfl

def PairPost (a b : Int) (w : World) (e : Ending) (w' : World) : Prop := e = .returned (.tuple #[.int .i32 (pairI a b), .bool (decide (0 < pairI a b))]) ∧ Below w.heap.size w w'
set_option maxHeartbeats 1000000 in
theorem paircp_c (a b : Int) (w : World) : Calls Try.prog 16 #[.int .i32 a, .int .i32 b] w (PairPost a b w) := by
  have cR := fun w => row_c b w
  obtain ⟨f1, f2, f3, f4⟩ := rows_fit b
  have cM := fun w => makes_c (txt (rowLs b)) (txt (rowMs b)) (rowLs b) (rowMs b) a (txt_runes f3) (txt_runes f4) f1 (by have := txt_size (rowLs b); omega) (by have := txt_size (rowMs b); omega) (by omega) w
  rw [← pairT_row a b] at cM
  clear f1 f2 f3 f4
  generalize txt (rowLs b) = x at cR cM
  generalize txt (rowMs b) = y at cR cM
  unfold PairPost
  cases hp : pairT a b with
  | some z =>
    rw [hp] at cM
    obtain ⟨hz, hz0⟩ := pairI_some hp
    have HX := Lib.hid hz
    have HT := Lib.hid (show decide (0 < pairI a b) = true by rw [hz]; exact decide_eq_true hz0)
    clear hz hp
    go_enter Try.func16, Try.ntmps16
    go_wp2_with fail
    refine (cR _).mono ?_
    rintro e w1 ⟨rfl, hb1⟩
    go_wp2_with fail
    refine (cM _).mono ?_
    rintro e w2 ⟨rfl, hb2⟩
    have hbb := below_step hb1 hb2
    clear hb1 hb2
    go_wp2
    go_ret2
    exact ⟨by rw [HT.out, HX.out]; rfl, hbb⟩
  | none =>
    rw [hp] at cM
    have cH := fun w => hang_c a b w
    unfold HangPost at cH
    have HX := Lib.hid (pairI_hang hp)
    clear hp
    rw [HX.out]
    obtain ⟨D, hD⟩ : ∃ D, decide (0 < hangI a b) = D := ⟨_, rfl⟩
    rw [hD] at cH ⊢
    generalize hangI a b = X at cH ⊢
    clear HX hD
    go_enter Try.func16, Try.ntmps16
    go_wp2_with fail
    refine (cR _).mono ?_
    rintro e w1 ⟨rfl, hb1⟩
    go_wp2_with fail
    refine (cM _).mono ?_
    rintro e w2 ⟨rfl, hb2⟩
    have hbb := below_step hb1 hb2
    clear hb1 hb2
    go_wp2_with fail
    refine (cH _).mono ?_
    rintro e w3 ⟨rfl, rfl⟩
    go_wp2
    go_ret2
    exact ⟨rfl, hbb⟩

theorem splitT_upto {r : Int} {x : Int × Int} (h : splitT r = some x) : 192 ≤ r ∧ r ≤ 382 := by
  obtain ⟨n, hn, hm, hz⟩ := splitT_spec h
  exact made_upto n hn r (List.of_mem_zip hz).2
theorem splitR_none {r : Int} (h : splitT r = none) : splitR r = sylR r := by
  unfold splitR sylR splitI
  rw [h]
  simp only
  by_cases h1 : r < 44032 ∨ 55203 < r
  · rw [if_pos h1, if_pos h1]
  · rw [if_neg h1, if_neg h1]
    by_cases h2 : 0 < (r - 44032) % 28
    · rw [if_pos h2, if_pos h2]
    · rw [if_neg h2, if_neg h2]
def SplitPost (r : Int) (w : World) (e : Ending) (w' : World) : Prop := e = .returned (.tuple #[.int .i32 (splitR r).1, .int .i32 (splitR r).2.1, .bool (splitR r).2.2]) ∧ Below w.heap.size w w'

set_option maxHeartbeats 1000000 in
theorem splitcp_far (r : Int) (h : r < 192 ∨ 382 < r) (w : World) : Calls Try.prog 17 #[.int .i32 r] w (SplitPost r w) := by
  have hs : splitR r = sylR r := by
    apply splitR_none
    cases hc : splitT r with
    | none => rfl
    | some x => have := splitT_upto hc; omega
  have cS := fun w => syl_c r w
  unfold SplitPost
  rw [hs]
  generalize sylR r = X at cS ⊢
  clear hs
  rcases h with h | h
  · have e1 : decide (r < 192) = true := decide_eq_true h
    go_enter Try.func17, Try.ntmps17
    go_wp2_with fail
    refine (cS _).mono ?_
    rintro e w1 ⟨rfl, rfl⟩
    go_wp2
    go_ret3
    exact ⟨rfl, Below.refl _ _⟩
  · have h' : ¬ (r < 192) := by omega
    go_enter Try.func17, Try.ntmps17
    go_wp2_with fail
    refine (cS _).mono ?_
    rintro e w1 ⟨rfl, rfl⟩
    go_wp2
    go_ret3
    exact ⟨rfl, Below.refl _ _⟩

def RelSp (r : Int) (w0 : World) (mv : Value) (wr : World) : Prop :=
  ∃ m : Int, mv = .int .i32 m ∧ 768 ≤ m ∧ m ≤ 809 ∧ (∀ k : Nat, k < 13 → markN k < m → splitF r k = none) ∧ Below w0.heap.size w0 wr
theorem relsp_more {r m : Int} (h : ∀ k : Nat, k < 13 → markN k < m → splitF r k = none) (hx : ∀ k : Nat, k < 13 → markN k = m → splitF r k = none) : ∀ k : Nat, k < 13 → markN k < m + 1 → splitF r k = none := by
  intro k hk hm
  by_cases e : markN k = m
  · exact hx k hk e
  · exact h k hk (by omega)
set_option maxHeartbeats 1000000 in
theorem splitcp_near (r : Int) (h1 : 192 ≤ r) (h2 : r ≤ 382) (w : World) : Calls Try.prog 17 #[.int .i32 r] w (SplitPost r w) := by
  have h1' : ¬ (r < 192) := by omega
  have h2' : ¬ (382 < r) := by omega
  unfold SplitPost
  obtain ⟨X, hX⟩ : ∃ X, splitR r = X := ⟨_, rfl⟩
  rw [hX]
  have H0 := Lib.hid hX
  clear hX
  go_enter Try.func17, Try.ntmps17
  go_wp2
  go_loopw [5] (fun mv wr => RelSp r w mv wr) (fun mv _ => (809 - intOf mv).toNat)
  case atStart => exact ⟨768, rfl, by omega, by omega, fun k hk hm => by have := table_at hk; omega, Below.refl _ _⟩
  case round =>
    obtain ⟨m, rfl, hm0, hm1, hno, hbel⟩ := hrel
    have HNO := Lib.hid hno
    clear hno
    by_cases hlt : m ≤ 808
    · have cR := fun w => row_c m w
      obtain ⟨f1, f2, f3, f4⟩ := rows_fit m
      have cM := fun w => comes_c (txt (rowLs m)) (txt (rowMs m)) (rowLs m) (rowMs m) r (txt_runes f3) (txt_runes f4) f1 (by have := txt_size (rowLs m); omega) (by have := txt_size (rowMs m); omega) (by omega) w
      clear f1 f2 f3 f4
      generalize txt (rowLs m) = x at cR cM
      generalize txt (rowMs m) = y at cR cM
      cases hp : acrI (rowMs m) (rowLs m) r with
      | some z =>
        rw [hp] at cM
        have HX : Hid (X = (z, m, true)) := by
          refine Lib.hid ?_
          rw [← H0.out]
          unfold rowMs rowLs at hp
          cases hx : rowIx m with
          | none => rw [hx] at hp; cases hp
          | some n =>
            rw [hx] at hp
            obtain ⟨hn, hmn⟩ := rowIx_some hx
            simp only at hp
            rw [← rowSplit_is n hn] at hp
            have := splitR_at (firstSome_at (f := splitF r) (x := (z, m)) hn (fun j hj => HNO.out j (by omega) (by have := marks_up n hn j hj; omega)) (by unfold splitF; rw [hp, hmn]; rfl))
            exact this
        clear hp
        go_wp2_with fail
        refine (cR _).mono ?_
        rintro e w1 ⟨rfl, hb1⟩
        go_wp2_with fail
        refine (cM _).mono ?_
        rintro e w2 ⟨rfl, hb2⟩
        have hbb := below_step (below_step hbel hb1) hb2
        clear hb1 hb2 hbel
        go_wp2
        go_ret3
        exact ⟨by rw [HX.out]; rfl, hbb⟩
      | none =>
        rw [hp] at cM
        have HM : Hid (∀ k : Nat, k < 13 → markN k < m + 1 → splitF r k = none) := by
          refine Lib.hid (relsp_more HNO.out fun k hk hmk => ?_)
          have hx : rowIx m = some k := by
            cases hx : rowIx m with
            | none => exact absurd hmk (rowIx_none hx k hk)
            | some n =>
              obtain ⟨hn, hmn⟩ := rowIx_some hx
              rw [marks_apart n hn k hk (by rw [hmn, hmk])]
          unfold rowMs rowLs at hp
          rw [hx] at hp
          simp only at hp
          rw [← rowSplit_is k hk] at hp
          unfold splitF
          rw [hp]; rfl
        clear hp
        go_wp2_with fail
        refine (cR _).mono ?_
        rintro e w1 ⟨rfl, hb1⟩
        go_wp2_with fail
        refine (cM _).mono ?_
        rintro e w2 ⟨rfl, hb2⟩
        have hbb := below_step (below_step hbel hb1) hb2
        clear hb1 hb2 hbel
        go_wp2
        go_roundw
        case rel => exact ⟨m + 1, by go_num, by omega, by omega, HM.out, hbb⟩
        case measure => simp [intOf]; omega
    · have hm : m = 809 := by omega
      subst hm
      have HX : Hid (X = (0, 0, false)) := by
        refine Lib.hid ?_
        rw [← H0.out, splitR_none (firstSome_none fun k hk => HNO.out k hk (by have := table_at hk; omega))]
        unfold sylR
        rw [if_pos (by omega)]
      clear hlt
      go_wp2
      go_ret3
      exact ⟨by rw [HX.out]; rfl, hbel⟩
theorem splitcp_c (r : Int) (w : World) : Calls Try.prog 17 #[.int .i32 r] w (SplitPost r w) := by
  by_cases h : r < 192 ∨ 382 < r
  · exact splitcp_far r h w
  · exact splitcp_near r (by omega) (by omega) w
end Go.Proofs.Ytjakelphkehonaa
