/-
  The library's heap: what goes up.
-/
import Derived.Test.YthaghhleidopeaaIdBox
namespace Go.Proofs.Ythaghhleidopeaa
open Go.RowKit Go.Sort
set_option linter.unusedVariables false

def UpPost (wB : World) (rB : Option Nat) (mB uB b : Nat) (v : Value) (xs : List Int) (w : World) (e : Ending) (w' : World) : Prop := e = .returned (.tuple #[]) ∧ ∃ ys, ys.Perm xs ∧ HeapN ys.length ys ∧ Box wB rB mB uB b w' v ys

set_option maxHeartbeats 2000000 in
set_option maxRecDepth 100000 in
theorem up_c (wB : World) (rB : Option Nat) (mB uB b : Nat) (v : Value) (xs : List Int) (j : Nat) (w : World) (h : Box wB rB mB uB b w v xs) (hj : j < xs.length) (hu : UpI xs j) (hl : xs.length ≤ 1000) :
    Calls Try.prog 82 #[.iface 119 (.pointer (some ⟨b, 2, none⟩)), .int .i64 j] w (UpPost wB rB mB uB b v xs w) := by
  unfold UpPost
  obtain ⟨n, hn⟩ : ∃ n, xs.length = n := ⟨_, rfl⟩
  have HN := Lib.hid hn
  rw [hn] at hj hl
  have HU := Lib.hid hu
  have HBX := Lib.hid h
  clear hn hu h
  go_enter Try.func82, Try.ntmps82
  go_wp2
  go_loopg [1] j (fun gk jv wr => ∃ (k : Nat) (ys : List Int), k = gk ∧ k < n ∧ jv = .int .i64 k ∧ ys.Perm xs ∧ UpI ys k ∧ Box wB rB mB uB b wr v ys)
  case atStart => exact ⟨j, xs, rfl, hj, rfl, List.Perm.refl _, HU.out, HBX.out⟩
  case round =>
    obtain ⟨k, ys, rfl, hk, rfl, hp, hui, hbx⟩ := hrel
    have HP := Lib.hid hp
    have HI := Lib.hid hui
    have HB := Lib.hid hbx
    have hyl : Hid (ys.length = n) := Lib.hid (hp.length_eq.trans HN.out)
    clear hp hui hbx
    by_cases hk0 : k = 0
    · subst hk0
      go_wp2
      go_end0
      exact ⟨rfl, ys, HP.out, upI_done HI.out (Or.inl rfl), HB.out⟩
    · have hk1 : 1 ≤ k := by omega
      have hkz : (((k : Int) - 1) / 2 == (k : Int)) = false := by rw [beq_eq_false_iff_ne]; omega
      obtain ⟨c0, f0⟩ := HB.out.cell
      have hne : ys ≠ [] := by
        intro e
        have := hyl.out
        rw [e] at this
        simp at this
        omega
      obtain ⟨g, cap, hv, hg, hgl, hcap⟩ := HB.out.2.head hne
      rw [hyl.out] at hv hcap
      subst hv
      obtain ⟨i, hi⟩ : ∃ i, (k - 1) / 2 = i := ⟨_, rfl⟩
      have hiz : ((k : Int) - 1) / 2 = (i : Int) := by omega
      have hin : i < n := by omega
      have hik : i ≠ k := by omega
      have m1 := meth_less b _ wr c0
      rw [hiz] at hkz
      have HIK := Lib.hid hi
      clear hne hi
      cases hb : decide (ys.getD k 0 < ys.getD i 0) with
      | false =>
        have cl := less_c (b + 1) g n cap k i ys wr HB.out.2 hyl.out hk hin false hb
        have HD : Hid (ys.getD i 0 ≤ ys.getD k 0) := Lib.hid (by have := of_decide_eq_false hb; omega)
        clear hb
        go_wp2_with (go_at_call 113; refine cl.mono ?_; rintro e w' ⟨rfl, q, rfl⟩)
        go_end0
        exact ⟨rfl, ys, HP.out, upI_done HI.out (Or.inr (by rw [HIK.out]; exact HD.out)), HB.out.drewN q⟩
      | true =>
        have cl := less_c (b + 1) g n cap k i ys wr HB.out.2 hyl.out hk hin true hb
        have HD : Hid (ys.getD k 0 < ys.getD i 0) := Lib.hid (of_decide_eq_true hb)
        clear hb
        go_wp2_with (go_at_call 113; refine cl.mono ?_; rintro e w' ⟨rfl, q, rfl⟩)
        have HM : Hid (∀ q, (method 263 119 (.pointer (some ⟨b, 2, none⟩)) "Swap").run Try.prog (wr.drewN q) = .ok (115, .slice (some ⟨g, 0, none⟩) n cap) (wr.drewN q)) := Lib.hid (fun q => meth_swap b _ (wr.drewN q) (HB.out.drewN q).cell.1)
        have HS : Hid (∀ q, Calls Try.prog 115 #[.slice (some ⟨g, 0, none⟩) n cap, .int .i64 i, .int .i64 k] (wr.drewN q) fun e w' => e = .returned (.tuple #[]) ∧ OwnN (b + 1) w' (.slice (some ⟨g, 0, none⟩) n cap) (swI ys i k) ∧ wr.grownBy w' (some g)) := Lib.hid (fun q => (swap_c (b + 1) g n cap i k ys (wr.drewN q) (HB.out.drewN q).2 hg hyl.out hin hk).mono fun e w' ⟨h1, h2, h3⟩ => ⟨h1, h2, grown_drewN h3⟩)
        go_wp2_with (go_at_call 113; refine cl.mono ?_; rintro e w' ⟨rfl, q, rfl⟩)
        rw [HM.out q]
        have cs := HS.out q
        go_wp2_with (go_at_call 115; refine cs.mono ?_; rintro e w2 ⟨rfl, ho2, hb2⟩)
        have HB2 := Lib.hid hb2
        have HO2 := Lib.hid ho2
        clear hb2 ho2 cs
        go_roundg i
        case measure => omega
        case rel => exact ⟨i, swI ys i k, rfl, hin, by first | rfl | rw [hiz], (swI_perm (by rw [hyl.out]; exact hin) (by rw [hyl.out]; exact hk)).trans HP.out, by have := upI_step HI.out hk1 (by rw [hyl.out]; exact hk) (by rw [HIK.out]; exact HD.out); rw [HIK.out] at this; exact this, HB.out.kept HB2.out HO2.out⟩
end Go.Proofs.Ythaghhleidopeaa
