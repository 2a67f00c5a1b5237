/-
  The library's heap: what goes up.
  The library's heap: what goes down.
  The heap's Push and Pop, the library's, and those of the project's own.
  The contracts of a pool's calls: Take, Give, Out.
  The contracts of a pool's calls: Give, Out, Clone.
-/
import Derived.Test.YtmplekjiciedgaaQ7
import Derived.Deep.AppendLies
import Derived.Deep.RegionLaw
import Derived.PlainAid
import Derived.Laws.AppendOwnNone
import Derived.Laws.NewBlocks
import Derived.Maps.AppendAt
import Derived.Lib.SliceRun
namespace Go.Proofs.Ytmplekjiciedgaa
open Go.RowKit Go.Sort
set_option linter.unusedVariables false

def UpPost (wB : World) (rB : Option Nat) (mB uB b : Nat) (v : Value) (xs : List Int) (w : World) (e : Ending) (w' : World) : Prop := e = .returned (.tuple #[]) ∧ ∃ ys, ys.Perm xs ∧ HeapN ys.length ys ∧ Box wB rB mB uB b w' v ys

set_option maxHeartbeats 2000000 in
set_option maxRecDepth 100000 in
theorem up_c (wB : World) (rB : Option Nat) (mB uB b : Nat) (v : Value) (xs : List Int) (j : Nat) (w : World) (h : Box wB rB mB uB b w v xs) (hj : j < xs.length) (hu : UpI xs j) (hl : xs.length ≤ 1000) :
    Calls Try.prog 48 #[.iface 82 (.pointer (some ⟨b, 2, none⟩)), .int .i64 j] w (UpPost wB rB mB uB b v xs w) := by
  unfold UpPost
  obtain ⟨n, hn⟩ : ∃ n, xs.length = n := ⟨_, rfl⟩
  have HN := Lib.hid hn
  rw [hn] at hj hl
  have HU := Lib.hid hu
  have HBX := Lib.hid h
  clear hn hu h
  go_enter Try.func48, Try.ntmps48
  go_wp2
  go_loopg [1] j (fun gk jv wr => ∃ (k : Nat) (ys : List Int), k = gk ∧ k < n ∧ jv = .int .i64 k ∧ ys.Perm xs ∧ UpI ys k ∧ Box wB rB mB uB b wr v ys)
  case atStart => exact ⟨j, xs, rfl, hj, rfl, List.Perm.refl _, HU.out, HBX.out⟩
  case round =>
    obtain ⟨k, ys, rfl, hk, rfl, hp, hui, hbx⟩ := hrel
    have HP := Lib.hid hp
    have HI := Lib.hid hui
    have HB := Lib.hid hbx
    have hyl : Hid (ys.length = n) := Lib.hid (hp.length_eq.trans HN.out)
    clear hp hui hbx
    by_cases hk0 : k = 0
    · subst hk0
      go_wp2
      go_end0
      exact ⟨rfl, ys, HP.out, upI_done HI.out (Or.inl rfl), HB.out⟩
    · have hk1 : 1 ≤ k := by omega
      have hkz : (((k : Int) - 1) / 2 == (k : Int)) = false := by rw [beq_eq_false_iff_ne]; omega
      obtain ⟨c0, f0⟩ := HB.out.cell
      have hne : ys ≠ [] := by
        intro e
        have := hyl.out
        rw [e] at this
        simp at this
        omega
      obtain ⟨g, cap, hv, hg, hgl, hcap⟩ := HB.out.2.head hne
      rw [hyl.out] at hv hcap
      subst hv
      obtain ⟨i, hi⟩ : ∃ i, (k - 1) / 2 = i := ⟨_, rfl⟩
      have hiz : ((k : Int) - 1) / 2 = (i : Int) := by omega
      have hin : i < n := by omega
      have hik : i ≠ k := by omega
      have m1 := meth_less b _ wr c0
      rw [hiz] at hkz
      have HIK := Lib.hid hi
      clear hne hi
      cases hb : decide (ys.getD k 0 < ys.getD i 0) with
      | false =>
        have cl := less_c (b + 1) g n cap k i ys wr HB.out.2 hyl.out hk hin false hb
        have HD : Hid (ys.getD i 0 ≤ ys.getD k 0) := Lib.hid (by have := of_decide_eq_false hb; omega)
        clear hb
        go_wp2_with (go_at_call 84; refine cl.mono ?_; rintro e w' ⟨rfl, q, rfl⟩)
        go_end0
        exact ⟨rfl, ys, HP.out, upI_done HI.out (Or.inr (by rw [HIK.out]; exact HD.out)), HB.out.drewN q⟩
      | true =>
        have cl := less_c (b + 1) g n cap k i ys wr HB.out.2 hyl.out hk hin true hb
        have HD : Hid (ys.getD k 0 < ys.getD i 0) := Lib.hid (of_decide_eq_true hb)
        clear hb
        go_wp2_with (go_at_call 84; refine cl.mono ?_; rintro e w' ⟨rfl, q, rfl⟩)
        have HM : Hid (∀ q, (method 231 82 (.pointer (some ⟨b, 2, none⟩)) "Swap").run Try.prog (wr.drewN q) = .ok (86, .slice (some ⟨g, 0, none⟩) n cap) (wr.drewN q)) := Lib.hid (fun q => meth_swap b _ (wr.drewN q) (HB.out.drewN q).cell.1)
        have HS : Hid (∀ q, Calls Try.prog 86 #[.slice (some ⟨g, 0, none⟩) n cap, .int .i64 i, .int .i64 k] (wr.drewN q) fun e w' => e = .returned (.tuple #[]) ∧ OwnN (b + 1) w' (.slice (some ⟨g, 0, none⟩) n cap) (swI ys i k) ∧ wr.grownBy w' (some g)) := Lib.hid (fun q => (swap_c (b + 1) g n cap i k ys (wr.drewN q) (HB.out.drewN q).2 hg hyl.out hin hk).mono fun e w' ⟨h1, h2, h3⟩ => ⟨h1, h2, grown_drewN h3⟩)
        go_wp2_with (go_at_call 84; refine cl.mono ?_; rintro e w' ⟨rfl, q, rfl⟩)
        rw [HM.out q]
        have cs := HS.out q
        go_wp2_with (go_at_call 86; refine cs.mono ?_; rintro e w2 ⟨rfl, ho2, hb2⟩)
        have HB2 := Lib.hid hb2
        have HO2 := Lib.hid ho2
        clear hb2 ho2 cs
        go_roundg i
        case measure => omega
        case rel => exact ⟨i, swI ys i k, rfl, hin, by first | rfl | rw [hiz], (swI_perm (by rw [hyl.out]; exact hin) (by rw [hyl.out]; exact hk)).trans HP.out, by have := upI_step HI.out hk1 (by rw [hyl.out]; exact hk) (by rw [HIK.out]; exact HD.out); rw [HIK.out] at this; exact this, HB.out.kept HB2.out HO2.out⟩
end Go.Proofs.Ytmplekjiciedgaa

namespace Go.Proofs.Ytmplekjiciedgaa
open Go.RowKit Go.Sort
set_option linter.unusedVariables false

def DownRel (n : Nat) (xs ys : List Int) : Prop := ys.Perm xs ∧ ∀ k, n ≤ k → ys.getD k 0 = xs.getD k 0
theorem DownRel.swap {n : Nat} {xs ys : List Int} (h : DownRel n xs ys) {i j : Nat} (hi : i < n) (hj : j < n) (hn : n ≤ ys.length) : DownRel n xs (swI ys i j) :=
  ⟨(swI_perm (by omega) (by omega)).trans h.1, fun k hk => by rw [swI_getD (by omega) (by omega), if_neg (by omega), if_neg (by omega)]; exact h.2 k hk⟩
def DownPost (wB : World) (rB : Option Nat) (mB uB b n : Nat) (v : Value) (xs : List Int) (w : World) (e : Ending) (w' : World) : Prop := (∃ t : Bool, e = .returned (.bool t)) ∧ ∃ ys, DownRel n xs ys ∧ HeapN n ys ∧ Box wB rB mB uB b w' v ys

set_option maxHeartbeats 4000000 in
set_option maxRecDepth 100000 in
theorem down_c (wB : World) (rB : Option Nat) (mB uB b : Nat) (v : Value) (xs : List Int) (n : Nat) (w : World) (h : Box wB rB mB uB b w v xs) (hn : n < xs.length) (hd : DownI n xs 0) (hl : xs.length ≤ 1000) :
    Calls Try.prog 55 #[.iface 82 (.pointer (some ⟨b, 2, none⟩)), .int .i64 0, .int .i64 n] w (DownPost wB rB mB uB b n v xs w) := by
  unfold DownPost
  obtain ⟨N, hN⟩ : ∃ N, xs.length = N := ⟨_, rfl⟩
  have HN := Lib.hid hN
  rw [hN] at hn hl
  have HU := Lib.hid hd
  have HBX := Lib.hid h
  clear hN hd h
  go_enter Try.func55, Try.ntmps55
  go_wp2
  go_loopg [7] (n + 1) (fun gk iv wr => ∃ (i : Nat) (ys : List Int), (i ≤ n ∧ i + gk = n + 1) ∧ iv = .int .i64 i ∧ DownRel n xs ys ∧ DownI n ys i ∧ Box wB rB mB uB b wr v ys)
  case atStart => exact ⟨0, xs, by omega, rfl, ⟨List.Perm.refl _, fun k hk => rfl⟩, HU.out, HBX.out⟩
  case round =>
    obtain ⟨i, ys, ⟨hin, hig⟩, rfl, hp, hdi, hbx⟩ := hrel
    have HP := Lib.hid hp
    have HI := Lib.hid hdi
    have HB := Lib.hid hbx
    have hyl : Hid (ys.length = N) := Lib.hid (hp.1.length_eq.trans HN.out)
    clear hp hdi hbx
    by_cases h1 : 2 * i + 1 < n
    · have h1z : ¬ ((n : Int) ≤ 2 * (i : Int) + 1) := by omega
      obtain ⟨c0, f0⟩ := HB.out.cell
      have hne : ys ≠ [] := by
        intro e
        have := hyl.out
        rw [e] at this
        simp at this
        omega
      obtain ⟨g, cap, hv, hg, hgl, hcap⟩ := HB.out.2.head hne
      rw [hyl.out] at hv hcap
      subst hv
      clear hne
      -- the second part, whichever child it is
      have c2 : (2 * i + 1 < N ∧ i < N) := by omega
      have HLS : Hid (∀ (q x y : Nat) (t : Bool), x < N → y < N → decide (ys.getD x 0 < ys.getD y 0) = t → Calls Try.prog 84 #[(.slice (some ⟨g, 0, none⟩) N cap), .int .i64 x, .int .i64 y] (wr.drewN q) fun e w' => e = .returned (.bool t) ∧ ∃ q', w' = wr.drewN q') := Lib.hid (fun q x y t hx hy ht => (less_c (b + 1) g N cap x y ys (wr.drewN q) (HB.out.drewN q).2 hyl.out hx hy t ht).mono fun e w' ⟨h1, q2, h2⟩ => ⟨h1, q + q2, by rw [h2, World.drewN_drewN]⟩)
      have HSW : Hid (∀ (q x y : Nat), x < N → y < N → Calls Try.prog 86 #[(.slice (some ⟨g, 0, none⟩) N cap), .int .i64 x, .int .i64 y] (wr.drewN q) fun e w' => e = .returned (.tuple #[]) ∧ OwnN (b + 1) w' (.slice (some ⟨g, 0, none⟩) N cap) (swI ys x y) ∧ wr.grownBy w' (some g)) := Lib.hid (fun q x y hx hy => (swap_c (b + 1) g N cap x y ys (wr.drewN q) (HB.out.drewN q).2 hg hyl.out hx hy).mono fun e w' ⟨h1, h2, h3⟩ => ⟨h1, h2, grown_drewN h3⟩)
      have HML : Hid (∀ q, (method 231 82 (.pointer (some ⟨b, 2, none⟩)) "Less").run Try.prog (wr.drewN q) = .ok (84, (.slice (some ⟨g, 0, none⟩) N cap)) (wr.drewN q)) := Lib.hid (fun q => meth_less b _ (wr.drewN q) (HB.out.drewN q).cell.1)
      have HMS : Hid (∀ q, (method 231 82 (.pointer (some ⟨b, 2, none⟩)) "Swap").run Try.prog (wr.drewN q) = .ok (86, (.slice (some ⟨g, 0, none⟩) N cap)) (wr.drewN q)) := Lib.hid (fun q => meth_swap b _ (wr.drewN q) (HB.out.drewN q).cell.1)
      have m0 := meth_less b _ wr c0
      have c1z : (2 * (i : Int) + 1 < (n : Int)) := by omega
      obtain ⟨c2, c3⟩ := c2
      by_cases h2 : 2 * i + 2 < n
      · have h2z : (2 * (i : Int) + 2 < (n : Int)) := by omega
        have c4 : 2 * i + 2 < N := by omega
        cases hb1 : decide (ys.getD (2 * i + 2) 0 < ys.getD (2 * i + 1) 0) with
        | false =>
          have cl1 := HLS.out 0 (2 * i + 2) (2 * i + 1) false c4 c2 hb1
          have HLE : Hid (Lesser n ys i (2 * i + 1)) := Lib.hid (lesser_one h1 (Or.inr (of_decide_eq_false hb1)))
          clear hb1
          cases hb2 : decide (ys.getD (2 * i + 1) 0 < ys.getD i 0) with
          | false =>
            have cl2 := fun q => HLS.out q (2 * i + 1) i false (by omega) c3 hb2
            have HD : Hid (¬ ys.getD (2 * i + 1) 0 < ys.getD i 0) := Lib.hid (of_decide_eq_false hb2)
            have HE : Hid ((2 * (i : Int) + 1) = ((2 * i + 1 : Nat) : Int)) := Lib.hid (by omega)
            clear hb2
            go_wp2_with (go_at_call 84; refine cl1.mono ?_; rintro e w' ⟨rfl, q, rfl⟩)
            rw [HML.out q]
            have cl3 := cl2 q
            clear cl2
            go_wp2_with (go_at_call 84; refine cl3.mono ?_; rintro e w' ⟨rfl, q2, rfl⟩)
            go_ret
            exact ⟨⟨_, rfl⟩, ys, HP.out, downI_done HI.out HLE.out (by have := HD.out; omega), HB.out.drewN q2⟩
          | true =>
            have cl2 := fun q => HLS.out q (2 * i + 1) i true (by omega) c3 hb2
            have HD : Hid (ys.getD (2 * i + 1) 0 < ys.getD i 0) := Lib.hid (of_decide_eq_true hb2)
            have HE : Hid ((2 * (i : Int) + 1) = ((2 * i + 1 : Nat) : Int)) := Lib.hid (by omega)
            clear hb2
            go_wp2_with (go_at_call 84; refine cl1.mono ?_; rintro e w' ⟨rfl, q, rfl⟩)
            rw [HML.out q]
            have cl3 := cl2 q
            clear cl2
            go_wp2_with (go_at_call 84; refine cl3.mono ?_; rintro e w' ⟨rfl, q2, rfl⟩)
            rw [HMS.out q2]
            have cs := HSW.out q2 i (2 * i + 1) c3 (by omega)
            go_wp2_with (go_at_call 86; refine cs.mono ?_; rintro e w2 ⟨rfl, ho2, hbl2⟩)
            have HB2 := Lib.hid hbl2
            have HO2 := Lib.hid ho2
            clear hbl2 ho2 cs
            go_roundg (n + 1 - (2 * i + 1))
            case measure => omega
            case rel => exact ⟨(2 * i + 1), swI ys i (2 * i + 1), by omega, by first | rfl | rw [HE.out] | go_num, HP.out.swap (by omega) (by omega) (by rw [hyl.out]; omega), downI_step HI.out (by rw [hyl.out]; omega) HLE.out HD.out, HB.out.kept HB2.out HO2.out⟩
        | true =>
          have cl1 := HLS.out 0 (2 * i + 2) (2 * i + 1) true c4 c2 hb1
          have HLE : Hid (Lesser n ys i (2 * i + 2)) := Lib.hid (lesser_two h2 (of_decide_eq_true hb1))
          clear hb1
          cases hb2 : decide (ys.getD (2 * i + 2) 0 < ys.getD i 0) with
          | false =>
            have cl2 := fun q => HLS.out q (2 * i + 2) i false (by omega) c3 hb2
            have HD : Hid (¬ ys.getD (2 * i + 2) 0 < ys.getD i 0) := Lib.hid (of_decide_eq_false hb2)
            have HE : Hid ((2 * (i : Int) + 2) = ((2 * i + 2 : Nat) : Int)) := Lib.hid (by omega)
            clear hb2
            go_wp2_with (go_at_call 84; refine cl1.mono ?_; rintro e w' ⟨rfl, q, rfl⟩)
            rw [HML.out q]
            have cl3 := cl2 q
            clear cl2
            go_wp2_with (go_at_call 84; refine cl3.mono ?_; rintro e w' ⟨rfl, q2, rfl⟩)
            go_ret
            exact ⟨⟨_, rfl⟩, ys, HP.out, downI_done HI.out HLE.out (by have := HD.out; omega), HB.out.drewN q2⟩
          | true =>
            have cl2 := fun q => HLS.out q (2 * i + 2) i true (by omega) c3 hb2
            have HD : Hid (ys.getD (2 * i + 2) 0 < ys.getD i 0) := Lib.hid (of_decide_eq_true hb2)
            have HE : Hid ((2 * (i : Int) + 2) = ((2 * i + 2 : Nat) : Int)) := Lib.hid (by omega)
            clear hb2
            go_wp2_with (go_at_call 84; refine cl1.mono ?_; rintro e w' ⟨rfl, q, rfl⟩)
            rw [HML.out q]
            have cl3 := cl2 q
            clear cl2
            go_wp2_with (go_at_call 84; refine cl3.mono ?_; rintro e w' ⟨rfl, q2, rfl⟩)
            rw [HMS.out q2]
            have cs := HSW.out q2 i (2 * i + 2) c3 (by omega)
            go_wp2_with (go_at_call 86; refine cs.mono ?_; rintro e w2 ⟨rfl, ho2, hbl2⟩)
            have HB2 := Lib.hid hbl2
            have HO2 := Lib.hid ho2
            clear hbl2 ho2 cs
            go_roundg (n + 1 - (2 * i + 2))
            case measure => omega
            case rel => exact ⟨(2 * i + 2), swI ys i (2 * i + 2), by omega, by first | rfl | rw [HE.out] | go_num, HP.out.swap (by omega) (by omega) (by rw [hyl.out]; omega), downI_step HI.out (by rw [hyl.out]; omega) HLE.out HD.out, HB.out.kept HB2.out HO2.out⟩
      · have h2z : ¬ (2 * (i : Int) + 2 < (n : Int)) := by omega
        have HLE : Hid (Lesser n ys i (2 * i + 1)) := Lib.hid (lesser_one h1 (Or.inl h2))
        cases hb2 : decide (ys.getD (2 * i + 1) 0 < ys.getD i 0) with
        | false =>
          have cl2 := fun q => HLS.out q (2 * i + 1) i false (by omega) c3 hb2
          have HD : Hid (¬ ys.getD (2 * i + 1) 0 < ys.getD i 0) := Lib.hid (of_decide_eq_false hb2)
          have HE : Hid ((2 * (i : Int) + 1) = ((2 * i + 1 : Nat) : Int)) := Lib.hid (by omega)
          clear hb2
          have cl3 := cl2 0
          clear cl2
          go_wp2_with (go_at_call 84; refine cl3.mono ?_; rintro e w' ⟨rfl, q2, rfl⟩)
          go_ret
          exact ⟨⟨_, rfl⟩, ys, HP.out, downI_done HI.out HLE.out (by have := HD.out; omega), HB.out.drewN q2⟩
        | true =>
          have cl2 := fun q => HLS.out q (2 * i + 1) i true (by omega) c3 hb2
          have HD : Hid (ys.getD (2 * i + 1) 0 < ys.getD i 0) := Lib.hid (of_decide_eq_true hb2)
          have HE : Hid ((2 * (i : Int) + 1) = ((2 * i + 1 : Nat) : Int)) := Lib.hid (by omega)
          clear hb2
          have cl3 := cl2 0
          clear cl2
          go_wp2_with (go_at_call 84; refine cl3.mono ?_; rintro e w' ⟨rfl, q2, rfl⟩)
          rw [HMS.out q2]
          have cs := HSW.out q2 i (2 * i + 1) c3 (by omega)
          go_wp2_with (go_at_call 86; refine cs.mono ?_; rintro e w2 ⟨rfl, ho2, hbl2⟩)
          have HB2 := Lib.hid hbl2
          have HO2 := Lib.hid ho2
          clear hbl2 ho2 cs
          go_roundg (n + 1 - (2 * i + 1))
          case measure => omega
          case rel => exact ⟨(2 * i + 1), swI ys i (2 * i + 1), by omega, by first | rfl | rw [HE.out] | go_num, HP.out.swap (by omega) (by omega) (by rw [hyl.out]; omega), downI_step HI.out (by rw [hyl.out]; omega) HLE.out HD.out, HB.out.kept HB2.out HO2.out⟩
    · have h1z : ((n : Int) ≤ 2 * (i : Int) + 1) := by omega
      go_wp2
      go_ret
      exact ⟨⟨_, rfl⟩, ys, HP.out, downI_leaf HI.out (by omega), HB.out⟩
end Go.Proofs.Ytmplekjiciedgaa

namespace Go.Proofs.Ytmplekjiciedgaa
open Go.RowKit Go.Sort
set_option linter.unusedVariables false

theorem Try.infoInt : (Try.prog.info? 3).map (fun i => (i.zero, i.size, i.bytes)) = some (some (.int .i64 0), 1, 8) := by kernel_rfl
theorem OwnN.more {B : Nat} {w : World} {v : Value} {xs : List Int} {x : Int} (h : w.ownsRow B 3 1 v (xs.length + 1) (xs.map (Value.int .i64) ++ [.int .i64 x])) : OwnN B w v (xs ++ [x]) := by
  unfold OwnN
  rw [List.length_append, List.length_singleton, List.map_append]
  exact h
theorem grown_trans {a b c : World} {r : Option Nat} (h : a.grownBy b r) (k : b.grownBy c r) : a.grownBy c r := ⟨k.os.trans h.os, k.tape.trans h.tape, k.output.trans h.output, Nat.le_trans h.size k.size, fun i hi hn => (k.block i (by have := h.size; omega) hn).trans (h.block i hi hn)⟩
theorem ta_int (x : Int) (w : World) : (Instr.typeAssert (.iface 3 (.int .i64 x)) 20 3 false).run Try.prog w = .ok (.int .i64 x) w := by kernel_rfl
def PushPost (wB : World) (rB : Option Nat) (mB uB b : Nat) (xs : List Int) (x : Int) (w : World) (e : Ending) (w' : World) : Prop := e = .returned (.tuple #[]) ∧ ∃ v', Box wB rB mB uB b w' v' (xs ++ [x])
set_option maxHeartbeats 2000000 in
set_option maxRecDepth 100000 in
theorem push_c (wB : World) (rB : Option Nat) (mB uB b : Nat) (v : Value) (xs : List Int) (x : Int) (w : World) (h : Box wB rB mB uB b w v xs) (hl : xs.length ≤ 1000) :
    Calls Try.prog 89 #[.pointer (some ⟨b, 2, none⟩), .iface 3 (.int .i64 x)] w (PushPost wB rB mB uB b xs x w) := by
  unfold PushPost
  obtain ⟨i0, hi, hz0, hz1, hz2⟩ := info_parts Try.infoInt
  have hbl : b < w.heap.size := h.lt
  have HB := Lib.hid h
  obtain ⟨c0, f0⟩ := h.cell
  have d0 : w.drew.cell? ⟨b, 2, none⟩ = some v := c0
  have HOA : Hid (OwnN (b + 1) (w.alloc (.cells #[.int .i64 x] 3)).drew v xs) := Lib.hid (h.own.below (((Below.refl _ _).alloc (Nat.le_refl _) _).drew))
  have HOB : Hid (OwnN (b + 1) (w.drew.alloc (.cells #[.int .i64 x] 3)) v xs) := Lib.hid (h.own.below (((Below.refl _ _).drew.alloc (Nat.le_refl _) _)))
  have j3 : (w.alloc (.cells #[.int .i64 x] 3)).cell? ⟨b, 2, none⟩ = some v := by rw [World.cell?_of_block (w := w) (Below.heap_alloc w _ b hbl)]; exact c0
  have j4 : (w.alloc (.cells #[.int .i64 x] 3)).drew.cell? ⟨b, 2, none⟩ = some v := j3
  have hBE : b + 1 ≤ (w.alloc (.cells #[.int .i64 x] 3)).drew.heap.size := by show b + 1 ≤ (w.heap.push _).size; simp; omega
  have HSZ : Hid (w.heap.size ≤ (w.alloc (.cells #[.int .i64 x] 3)).drew.heap.size) := Lib.hid (by show _ ≤ (w.heap.push _).size; simp)
  have HHE : Hid ((w.alloc (.cells #[.int .i64 x] 3)).drew.heap[b]? = some (.cells (poolO mB uB v) 53 (0, 0))) := Lib.hid (by
    show (w.alloc _).heap[b]? = _
    rw [Below.heap_alloc w _ b hbl]; exact h.at')
  obtain ⟨a2, cap2, hv2⟩ := h.own.len
  obtain ⟨n, hn⟩ : ∃ n, xs.length = n := ⟨_, rfl⟩
  have HN := Lib.hid hn
  have jc : (w.alloc (.cells #[.int .i64 x] 3)).drew.cell? ⟨w.heap.size, 0, none⟩ = some (.int .i64 x) := World.cell?_alloc_at _ _ _ _ rfl
  have HBE1 := Lib.hid hBE
  rw [hn] at hv2 hl
  subst hv2
  have ta := ta_int x w.drew
  clear h hn
  go_enter Try.func89, Try.ntmps89
  go_wp2
  go_region_law (first | (refine step_append_lies _ rfl _ _ 49 rfl (b + 1) 3 i0 (.int .i64 0) 1 8 Try.underlying49 hi hz0 hz1 hz2 rfl (by decide) _ _ _ rfl (by have := HOA.out; unfold OwnN at this; rw [HN.out] at this; exact this) ⟨w.heap.size, 0, none⟩ 1 1 [.int .i64 x] rfl rfl (by intro j u hj; rcases j with _ | j; (simp at hj; subst hj; exact jc); (simp at hj)) (by intro u hu; simp at hu; subst hu; rfl) (by decide) (by unfold maxLen; omega) (by omega) HBE1.out _ rfl ?_; intro g9 cap9 w9 hown9 hgrow9 hat9 hlt9; have hh9 := (hgrow9.block b (lt_getH HHE.out) (fun e => by have := (HOA.out.lt b e.symm).1; omega)).trans HHE.out; have q9 : w9.cell? ⟨b, 2, none⟩ = some (.slice a2 n cap2) := Lib.cell_of_heap hh9 2; have f9 : w9.frozen? ⟨b, 2, none⟩ = false := Lib.frozen_of_heap hh9 2))
  all_goals go_end0
  all_goals
    have hon : OwnN (b + 1) w9 (.slice (some ⟨g9, 0, none⟩) (n + 1) cap9) (xs ++ [x]) := OwnN.more (by rw [HN.out]; exact hown9)
    have hg9 : w.grownBy w9 (Value.slice a2 n cap2).ownBlock := grown_trans (grown_drew (w.grownBy_alloc _ _)) hgrow9
    exact ⟨rfl, _, Box.put HB.out hg9 hon (fun k hk => by
      simp only [Value.ownBlock, Option.some.injEq] at hk
      subst hk
      rcases hat9 with h1 | h1
      · exact Or.inl h1.symm
      · right; rw [h1]; exact HSZ.out)⟩

def PopPost (wB : World) (rB : Option Nat) (mB uB b : Nat) (xs : List Int) (n : Nat) (w : World) (e : Ending) (w' : World) : Prop := e = .returned (.iface 3 (.int .i64 (xs.getD n 0))) ∧ ∃ v', Box wB rB mB uB b w' v' (xs.take n)
theorem OwnN.cut {B g n cap : Nat} {w : World} {xs : List Int} (h : OwnN B w (.slice (some ⟨g, 0, none⟩) (n + 1) cap) xs) (hn : xs.length = n + 1) : OwnN B w (.slice (some ⟨g, 0, none⟩) n cap) (xs.take n) := by
  refine ⟨by simp, ?_⟩
  have hl : (xs.take n).length = n := by rw [List.length_take]; omega
  rcases h.2 with ⟨hv, _⟩ | ⟨g', cap', cur, hv, hg, hb, hn', hm, hs, ht⟩
  · exact absurd hv (by simp)
  · simp only [Value.slice.injEq, Option.some.injEq, Addr.mk.injEq] at hv
    obtain ⟨⟨rfl, _⟩, _, rfl⟩ := hv
    refine Or.inr ⟨g, cap, cur, by rw [hl], hg, hb, by omega, hm, hs, ?_⟩
    rw [hl, List.map_take, ← ht, List.take_take]
    congr 1
    omega
set_option maxHeartbeats 2000000 in
set_option maxRecDepth 100000 in
theorem pop_c (wB : World) (rB : Option Nat) (mB uB b : Nat) (v : Value) (xs : List Int) (n : Nat) (w : World) (h : Box wB rB mB uB b w v xs) (hn : xs.length = n + 1) (hl : n ≤ 1000) :
    Calls Try.prog 88 #[.pointer (some ⟨b, 2, none⟩)] w (PopPost wB rB mB uB b xs n w) := by
  unfold PopPost
  have hbl : b < w.heap.size := h.lt
  obtain ⟨c0, f0⟩ := h.cell
  obtain ⟨g, cap, hv, hg, hgl, hcap⟩ := h.own.head (by intro e; rw [e] at hn; simp at hn)
  rw [hn] at hv hcap
  subst hv
  have hcx := (h.own.cell (j := n) (by omega)).1
  have HB := Lib.hid h
  have HX : Hid (Box wB rB mB uB b (w.setCell ⟨b, 2, none⟩ (.slice (some ⟨g, 0, none⟩) n cap)) (.slice (some ⟨g, 0, none⟩) n cap) (xs.take n)) := Lib.hid (Box.put h (grown_refl _ _) (h.own.cut hn) (fun k hk => Or.inl hk.symm))
  have hnz : (n : Int) < ((n + 1 : Nat) : Int) := by omega
  have hnz2 : (n : Int) < (n : Int) + 1 := by omega
  generalize xs.getD n 0 = x at *
  clear h hn
  go_enter Try.func88, Try.ntmps88
  go_wp2
  go_ret
  exact ⟨rfl, _, HX.out⟩

def HPushPost (wB : World) (rB : Option Nat) (mB uB b : Nat) (xs : List Int) (x : Int) (w : World) (e : Ending) (w' : World) : Prop := e = .returned (.tuple #[]) ∧ ∃ v' ys, ys.Perm (x :: xs) ∧ HeapN ys.length ys ∧ Box wB rB mB uB b w' v' ys
set_option maxHeartbeats 2000000 in
set_option maxRecDepth 100000 in
theorem hpush_c (wB : World) (rB : Option Nat) (mB uB b : Nat) (v : Value) (xs : List Int) (x : Int) (w : World) (h : Box wB rB mB uB b w v xs) (hh : HeapN xs.length xs) (hl : xs.length ≤ 900) :
    Calls Try.prog 38 #[.iface 82 (.pointer (some ⟨b, 2, none⟩)), .iface 3 (.int .i64 x)] w (HPushPost wB rB mB uB b xs x w) := by
  unfold HPushPost
  have cP := push_c wB rB mB uB b v xs x w h (by omega)
  have HH := Lib.hid hh
  have m1 := meth_push b w
  unfold PushPost at cP
  obtain ⟨n, hn⟩ : ∃ n, xs.length = n := ⟨_, rfl⟩
  have hxl : (xs ++ [x]).length = n + 1 := by rw [List.length_append, List.length_singleton, hn]
  have HXL := Lib.hid hxl
  have hn9 : n ≤ 900 := by omega
  have HU : Hid (UpI (xs ++ [x]) n) := Lib.hid (by rw [← hn]; exact upI_start hh x)
  have HPX : Hid ((xs ++ [x]).Perm (x :: xs)) := Lib.hid (List.perm_append_comm)
  have hnz : (n : Int) + 1 - 1 = (n : Int) := by omega
  clear hh h hl hn hxl
  generalize xs ++ [x] = zs at *
  go_enter Try.func38, Try.ntmps38
  go_wp2_with (go_at_call 89; refine cP.mono ?_; rintro e w2 ⟨rfl, v2, hb2⟩; obtain ⟨a2, cap2, hv2⟩ := hb2.own.len; rw [HXL.out] at hv2; have HB2 := Lib.hid hb2; subst hv2; have m2 := meth_len b _ w2 hb2.cell.1; clear hb2)
  refine (len_c a2 (n + 1) cap2 w2).mono ?_
  rintro e w3 ⟨rfl, rfl⟩
  have cU := up_c wB rB mB uB b _ zs n w2 HB2.out (by rw [HXL.out]; omega) HU.out (by rw [HXL.out]; omega)
  unfold UpPost at cU
  clear cP m1
  go_wp2_with fail
  refine cU.mono ?_
  rintro e w4 ⟨rfl, ys, hp, hhp, hbx⟩
  have H1 := Lib.hid hp
  have H2 := Lib.hid hhp
  have H3 := Lib.hid hbx
  clear hp hhp hbx
  go_wp2
  go_end0
  exact ⟨rfl, _, ys, H1.out.trans HPX.out, H2.out, H3.out⟩

def HPopPost (wB : World) (rB : Option Nat) (mB uB b : Nat) (xs : List Int) (w : World) (e : Ending) (w' : World) : Prop := e = .returned (.iface 3 (.int .i64 (xs.getD 0 0))) ∧ ∃ v' ys, xs.Perm (xs.getD 0 0 :: ys) ∧ HeapN ys.length ys ∧ Box wB rB mB uB b w' v' ys
theorem pop_perm {xs zs : List Int} {n : Nat} (hn : xs.length = n + 1) (h : DownRel n (swI xs 0 n) zs) : zs.getD n 0 = xs.getD 0 0 ∧ xs.Perm (xs.getD 0 0 :: zs.take n) ∧ zs.length = n + 1 := by
  have hz : zs.length = n + 1 := by rw [h.1.length_eq, swI_length, hn]
  have h1 : zs.getD n 0 = xs.getD 0 0 := by
    rw [h.2 n (Nat.le_refl _), swI_getD (by omega) (by omega), if_pos rfl]
  refine ⟨h1, ?_, hz⟩
  have h2 : xs.Perm zs := (swI_perm (xs := xs) (i := 0) (j := n) (by omega) (by omega)).symm.trans h.1.symm
  rw [← h1]
  refine h2.trans ?_
  have h3 := take_last hz
  refine (List.Perm.of_eq h3).trans ?_
  exact List.perm_append_comm
set_option maxHeartbeats 4000000 in
set_option maxRecDepth 100000 in
theorem hpop_c (wB : World) (rB : Option Nat) (mB uB b : Nat) (v : Value) (xs : List Int) (n : Nat) (w : World) (h : Box wB rB mB uB b w v xs) (hh : HeapN xs.length xs) (hn : xs.length = n + 1) (hl : n ≤ 900) :
    Calls Try.prog 52 #[.iface 82 (.pointer (some ⟨b, 2, none⟩))] w (HPopPost wB rB mB uB b xs w) := by
  unfold HPopPost
  obtain ⟨g, cap, hv, hg, hgl, hcap⟩ := h.own.head (by intro e; rw [e] at hn; simp at hn)
  rw [hn] at hv hcap
  subst hv
  have HB := Lib.hid h
  have HD : Hid (DownI n (swI xs 0 n) 0) := Lib.hid (downI_start hn hh)
  have m1 := meth_len b _ w h.cell.1
  have m2 := meth_swap b _ w h.cell.1
  have cS := swap_c (b + 1) g (n + 1) cap 0 n xs w h.2 hg hn (by omega) (by omega)
  have HN := Lib.hid hn
  have hnz : (n : Int) + 1 - 1 = (n : Int) := by omega
  have HPP : Hid (∀ zs, DownRel n (swI xs 0 n) zs → zs.getD n 0 = xs.getD 0 0 ∧ xs.Perm (xs.getD 0 0 :: zs.take n) ∧ zs.length = n + 1) := Lib.hid (fun zs hz => pop_perm hn hz)
  have HSL : Hid ((swI xs 0 n).length = n + 1) := Lib.hid (by rw [swI_length, hn])
  generalize xs.getD 0 0 = x at *
  generalize swI xs 0 n = ss at *
  clear h hh hn
  go_enter Try.func52, Try.ntmps52
  go_wp2_with fail
  refine (len_c _ (n + 1) cap w).mono ?_
  rintro e w1 ⟨rfl, rfl⟩
  go_wp2_with fail
  refine cS.mono ?_
  rintro e w2 ⟨rfl, ho2, hb2⟩
  have HB2 : Hid (Box wB rB mB uB b w2 (.slice (some ⟨g, 0, none⟩) (n + 1) cap) ss) := Lib.hid (HB.out.kept hb2 ho2)
  have cD := down_c wB rB mB uB b _ ss n w2 HB2.out (by rw [HSL.out]; omega) HD.out (by rw [HSL.out]; omega)
  unfold DownPost at cD
  clear cS m1 m2 ho2 hb2
  go_wp2_with fail
  refine cD.mono ?_
  rintro e w3 ⟨⟨t, rfl⟩, zs, hdr, hhp, hb3⟩
  obtain ⟨hz1, hz2, hz3⟩ := HPP.out zs hdr
  have cP := pop_c wB rB mB uB b _ zs n w3 hb3 hz3 (by omega)
  unfold PopPost at cP
  rw [hz1] at cP
  have HZ2 := Lib.hid hz2
  have HHP : Hid (HeapN (zs.take n).length (zs.take n)) := Lib.hid (by
    rw [show (zs.take n).length = n by rw [List.length_take]; omega]
    exact heap_take hhp)
  have m3 := meth_pop b w3
  clear cD hdr hhp hb3 hz1 hz2 hz3
  go_wp2_with fail
  refine cP.mono ?_
  rintro e w4 ⟨rfl, v4, hb4⟩
  have HB4 := Lib.hid hb4
  clear cP hb4
  go_wp2
  go_ret
  exact ⟨rfl, v4, _, HZ2.out, HHP.out, HB4.out⟩

def AddPost (wB : World) (rB : Option Nat) (mB uB b : Nat) (xs : List Int) (x : Int) (w : World) (e : Ending) (w' : World) : Prop := e = .returned (.tuple #[]) ∧ ∃ v' ys, ys.Perm (x :: xs) ∧ HeapN ys.length ys ∧ Box wB rB mB uB b w' v' ys
set_option maxRecDepth 100000 in
theorem add_c (wB : World) (rB : Option Nat) (mB uB b : Nat) (v : Value) (xs : List Int) (x : Int) (w : World) (h : Box wB rB mB uB b w v xs) (hh : HeapN xs.length xs) (hl : xs.length ≤ 900) :
    Calls Try.prog 26 #[.pointer (some ⟨b, 2, none⟩), .int .i64 x] w (AddPost wB rB mB uB b xs x w) := by
  have cH := hpush_c wB rB mB uB b v xs x w h hh hl
  clear h hh hl
  go_enter Try.func26, Try.ntmps26
  go_wp2_with fail
  refine cH.mono ?_
  rintro e w1 ⟨rfl, h1⟩
  have H1 := Lib.hid h1
  clear h1 cH
  go_wp2
  go_end0
  exact ⟨rfl, H1.out⟩
def LeastPost (wB : World) (rB : Option Nat) (mB uB b : Nat) (xs : List Int) (w : World) (e : Ending) (w' : World) : Prop := e = .returned (.int .i64 (xs.getD 0 0)) ∧ ∃ v' ys, xs.Perm (xs.getD 0 0 :: ys) ∧ HeapN ys.length ys ∧ Box wB rB mB uB b w' v' ys
set_option maxRecDepth 100000 in
theorem least_c (wB : World) (rB : Option Nat) (mB uB b : Nat) (v : Value) (xs : List Int) (n : Nat) (w : World) (h : Box wB rB mB uB b w v xs) (hh : HeapN xs.length xs) (hn : xs.length = n + 1) (hl : n ≤ 900) :
    Calls Try.prog 42 #[.pointer (some ⟨b, 2, none⟩)] w (LeastPost wB rB mB uB b xs w) := by
  have cH := hpop_c wB rB mB uB b v xs n w h hh hn hl
  unfold HPopPost at cH
  unfold LeastPost
  clear h hh hl hn
  generalize xs.getD 0 0 = x at *
  have ta := fun w => ta_int x w
  go_enter Try.func42, Try.ntmps42
  go_wp2_with fail
  refine cH.mono ?_
  rintro e w1 ⟨rfl, h1⟩
  have H1 := Lib.hid h1
  have ta := ta_int x w1
  clear h1 cH
  go_wp2
  go_ret
  exact ⟨rfl, H1.out⟩
end Go.Proofs.Ytmplekjiciedgaa

namespace Go.Proofs.Ytmplekjiciedgaa
open Go.RowKit Go.Sort
set_option linter.unusedVariables false

theorem NumsIs.own {B : Nat} {w : World} {v : Value} {l : List Int} (h : OwnN B w v l) : NumsIs w v l := by
  by_cases e : l = []
  · subst e
    obtain ⟨a, cap, hv⟩ := h.len
    exact Or.inl ⟨rfl, a, cap, hv⟩
  · obtain ⟨g, cap, hv, _, hg, _⟩ := h.head e
    refine Or.inr ⟨g, 0, cap, hg, hv, fun j hj => ?_⟩
    rw [Nat.zero_add]
    subst hv
    exact (h.cell hj).1
/-- A pool at b: which numbers are out. -/
def PoolIs (w0 : World) (r : Option Nat) (m b : Nat) (w : World) (v : Value) (l : List Bool) : Prop := ∃ u ys, Box w0 r m u b w v ys ∧ GoodP m u ys ∧ l = outRow u ys

/-- Is x in the list, from k on? -/
theorem index_c (v : Value) (l : List Int) (x : Int) (w : World) (hv : NumsIs w v l) (hl : l.length ≤ 100000) :
    Calls Try.prog 53 #[v, .int .i64 x] w fun e w' => ∃ i : Int, e = .returned (.int .i64 i) ∧ -1 ≤ i ∧ i ≤ 100000 ∧ (0 ≤ i ↔ x ∈ l) ∧ w' = w := by
  obtain ⟨n, hn⟩ : ∃ n, l.length = n := ⟨_, rfl⟩
  obtain ⟨a, cap, rfl⟩ := hv.len
  have HV := Lib.hid hv
  have HN := Lib.hid hn
  rw [hn] at hl ⊢
  clear hv hn
  go_enter Try.func53, Try.ntmps53
  go_wp2
  go_loop [8] (fun iv => ∃ k : Nat, k ≤ n ∧ iv = .int .i64 k ∧ x ∉ l.take k) (fun iv => n - (intOf iv).toNat)
  case atStart => exact ⟨0, by omega, rfl, by simp⟩
  case round =>
    obtain ⟨k, hk, rfl, hno⟩ := hrel
    have HNO := Lib.hid hno
    clear hno
    by_cases hkn : k < n
    · have hkz : (k : Int) < (n : Int) := by omega
      obtain ⟨g, off, rfl, hg, c1⟩ := HV.out.at (j := k) (by rw [HN.out]; exact hkn)
      have HT : Hid (x ∈ l.take (k + 1) ↔ (x ∈ l.take k ∨ x = l.getD k 0)) := Lib.hid (by
        have hk' : k < l.length := by rw [HN.out]; exact hkn
        rw [List.take_add_one, List.mem_append, List.getD_eq_getElem?_getD, List.getElem?_eq_getElem hk']
        simp)
      have HIN : Hid (l.getD k 0 ∈ l) := Lib.hid (by
        have hk' : k < l.length := by rw [HN.out]; exact hkn
        simp [List.getD_eq_getElem?_getD, List.getElem?_eq_getElem hk'])
      generalize l.getD k 0 = y at *
      cases hx : (x == y) with
      | true =>
        have HE : Hid (x = y) := Lib.hid (by simpa using hx)
        go_wp2
        go_ret
        exact ⟨k, rfl, by omega, by omega, ⟨fun _ => by rw [HE.out]; exact HIN.out, fun _ => by omega⟩, rfl⟩
      | false =>
        have HE : Hid (x ≠ y) := Lib.hid (by simpa using hx)
        go_wp2
        go_round
        case rel => exact ⟨k + 1, by omega, by first | rfl | go_num, fun hm => by
          rcases HT.out.1 hm with h | h
          · exact HNO.out h
          · exact HE.out h⟩
        case measure => simp [intOf]; omega
    · have hge : ¬ ((k : Int) < (n : Int)) := by omega
      have HL : Hid (x ∉ l) := Lib.hid (by
        have := HNO.out
        rw [List.take_of_length_le (by rw [HN.out]; omega)] at this
        exact this)
      go_wp2
      go_ret
      exact ⟨-1, rfl, by omega, by omega, ⟨fun h => by omega, fun h => absurd h HL.out⟩, rfl⟩
theorem contains_c (v : Value) (l : List Int) (x : Int) (w : World) (hv : NumsIs w v l) (hl : l.length ≤ 100000) (t : Bool) (ht : decide (x ∈ l) = t) :
    Calls Try.prog 45 #[v, .int .i64 x] w fun e w' => e = .returned (.bool t) ∧ w' = w := by
  have cI := index_c v l x w hv hl
  clear hv hl
  go_enter Try.func45, Try.ntmps45
  go_wp2_with fail
  refine cI.mono ?_
  rintro e w1 ⟨i, rfl, hi1, hi2, hi3, rfl⟩
  have HT : Hid (decide (0 ≤ i) = t) := Lib.hid (by
    rw [← ht]
    congr 1
    exact propext hi3)
  clear cI hi3 ht
  go_wp2
  go_ret
  exact ⟨by rw [← HT.out]; rfl, rfl⟩

set_option maxHeartbeats 2000000 in
theorem take_c (w0 : World) (r : Option Nat) (m b : Nat) (v : Value) (l : List Bool) (w : World) (h : PoolIs w0 r m b w v l) :
    Calls Try.prog 29 #[.pointer (some ⟨b, 0, none⟩)] w fun e w' =>
      (leastN m l = 0 ∧ e = .returned (.tuple #[.int .i64 0, .bool false]) ∧ PoolIs w0 r m b w' v l) ∨ (∃ (n : Nat) (v' : Value), 1 ≤ n ∧ n ≤ 200 ∧ leastN m l = n ∧ e = .returned (.tuple #[.int .i64 (n : Int), .bool true]) ∧ PoolIs w0 r m b w' v' (l.set n true)) := by
  obtain ⟨u, ys, hb, hg, rfl⟩ := h
  have HB := Lib.hid hb
  have HG := Lib.hid hg
  have hum := hg.um
  have hm2 := hg.m200
  have hyl := hg.len
  have hum2 : (u : Int) ≤ 200 := by omega
  have hmm2 : (m : Int) ≤ 200 := by omega
  obtain ⟨c0, f0⟩ := hb.cell0
  obtain ⟨c1, f1⟩ := hb.cell1
  obtain ⟨c2, f2⟩ := hb.cell
  obtain ⟨a, cap, hv⟩ := hb.own.len
  have cN := len_c a ys.length cap w
  rw [← hv] at cN
  have HV := Lib.hid hv
  cases hys : ys with
  | cons y zs =>
    have cL := least_c w0 r m u b v ys zs.length w hb hg.heap (by rw [hys]; rfl) (by rw [hys] at hyl; simp at hyl; omega)
    unfold LeastPost at cL
    have HT : Hid (∀ zs, ys.Perm (ys.getD 0 0 :: zs) → HeapN zs.length zs → ∃ n : Nat, ys.getD 0 0 = (n : Int) ∧ 1 ≤ n ∧ leastN m (outRow u ys) = n ∧ GoodP m u zs ∧ outRow u zs = (outRow u ys).set n true) := Lib.hid (fun zs hp hz => hg.take hp hz)
    obtain ⟨n, hn⟩ : ∃ n, ys.length = n := ⟨_, rfl⟩
    have hn0 : (0 : Int) < (n : Int) := by rw [← hn, hys]; simp
    rw [hn] at cN
    have HYS := Lib.hid hys
    generalize hxx : ys.getD 0 0 = x at *
    rw [← hys]
    clear hb hg hn hys hv hyl hxx
    go_enter Try.func29, Try.ntmps29
    go_wp2_with fail
    refine cN.mono ?_
    rintro e w1 ⟨rfl, rfl⟩
    go_wp2_with fail
    refine cL.mono ?_
    rintro e w2 ⟨rfl, v', zs', hp, hz, hb2⟩
    obtain ⟨k, hk1, hk2, hk3, hk4, hk5⟩ := HT.out zs' hp hz
    have hk200 : k ≤ 200 := by rw [← hk3]; exact Nat.le_trans (leastN_le _ _) hm2
    have H1 : Hid (PoolIs w0 r m b w2 v' ((outRow u ys).set k true)) := Lib.hid ⟨u, zs', hb2, hk4, hk5.symm⟩
    have H2 := Lib.hid hk3
    subst hk1
    clear cL cN hp hz hb2 hk3 hk4 hk5
    go_wp2
    go_ret2
    exact Or.inr ⟨k, v', hk2, hk200, H2.out, rfl, H1.out⟩
  | nil =>
    subst hys
    rw [List.length_nil] at cN
    clear hb hg hv hyl
    by_cases e : u = m
    · have HE : Hid (leastN m (outRow u []) = 0) := Lib.hid (HG.out.full e)
      subst e
      go_enter Try.func29, Try.ntmps29
      go_wp2_with fail
      refine cN.mono ?_
      rintro e w1 ⟨rfl, rfl⟩
      clear cN
      go_wp2
      go_quiet (fail)
      go_wp2
      go_ret2
      exact Or.inl ⟨HE.out, rfl, u, [], HB.out.drewN _, HG.out, rfl⟩
    · obtain ⟨h1, h2, h3⟩ := HG.out.next e
      have H1 := Lib.hid h1
      have H2 := Lib.hid h2
      have H3 := Lib.hid h3
      have hez : ((u : Int) == (m : Int)) = false := by rw [beq_eq_false_iff_ne]; omega
      have huz : ((u : Int) + 1) = ((u + 1 : Nat) : Int) := by omega
      have HZ := Lib.hid huz
      clear h1 h2 h3 huz
      go_enter Try.func29, Try.ntmps29
      go_wp2_with fail
      refine cN.mono ?_
      rintro e w1 ⟨rfl, rfl⟩
      clear cN
      go_wp2
      go_quiet (fail)
      go_wp2
      go_ret2
      refine Or.inr ⟨u + 1, v, by omega, by omega, H1.out, by first | rfl | simp, u + 1, [], ?_, H2.out, H3.out.symm⟩
      first | exact (HB.out.drewN _).use (u + 1) | exact HB.out.drew.use (u + 1)
end Go.Proofs.Ytmplekjiciedgaa

namespace Go.Proofs.Ytmplekjiciedgaa
open Go.RowKit Go.Sort
set_option linter.unusedVariables false

set_option maxHeartbeats 2000000 in
theorem give_c (w0 : World) (r : Option Nat) (m b : Nat) (v : Value) (l : List Bool) (x : Int) (w : World) (h : PoolIs w0 r m b w v l) (t : Bool) (ht : isOut m l x = t) :
    Calls Try.prog 33 #[.pointer (some ⟨b, 0, none⟩), .int .i64 x] w fun e w' => e = .returned (.bool t) ∧ ∃ v', PoolIs w0 r m b w' v' (if t = true then l.set x.toNat false else l) := by
  obtain ⟨u, ys, hb, hg, rfl⟩ := h
  have HB := Lib.hid hb
  have HG := Lib.hid hg
  have hyl := hg.len
  have HSM : Hid (PoolIs w0 r m b w v (outRow u ys)) := Lib.hid ⟨u, ys, hb, hg, rfl⟩
  rw [hg.isOut x] at ht
  obtain ⟨c1, f1⟩ := hb.cell1
  obtain ⟨c2, f2⟩ := hb.cell
  have hnb : NumsIs w v ys := NumsIs.own hb.own
  by_cases h1 : x < 1
  · obtain rfl : t = false := by rw [← ht]; exact decide_eq_false (fun h => by omega)
    have h1z : decide (x < 1) = true := decide_eq_true h1
    clear hb hg hyl ht hnb
    go_enter Try.func33, Try.ntmps33
    go_wp2
    go_ret
    exact ⟨rfl, v, HSM.out⟩
  · by_cases h2 : (u : Int) < x
    · obtain rfl : t = false := by rw [← ht]; exact decide_eq_false (fun h => by omega)
      have h1z : decide (x < 1) = false := decide_eq_false h1
      have h2z : decide ((u : Int) < x) = true := decide_eq_true h2
      clear hb hg hyl ht hnb
      go_enter Try.func33, Try.ntmps33
      go_wp2
      go_ret
      exact ⟨rfl, v, HSM.out⟩
    · have h1z : decide (x < 1) = false := decide_eq_false h1
      have h2z : decide ((u : Int) < x) = false := decide_eq_false h2
      by_cases h3 : x ∈ ys
      · obtain rfl : t = false := by rw [← ht]; exact decide_eq_false (fun h => h.2.2 h3)
        have cC := contains_c v ys x w hnb (by omega) true (decide_eq_true h3)
        clear hb hg hyl ht hnb h3
        go_enter Try.func33, Try.ntmps33
        go_wp2_with (go_at_call 45; refine cC.mono ?_; rintro e w1 ⟨rfl, rfl⟩)
        go_ret
        exact ⟨rfl, v, HSM.out⟩
      · obtain rfl : t = true := by rw [← ht]; exact decide_eq_true ⟨by omega, by omega, h3⟩
        have cC := contains_c v ys x w hnb (by omega) false (decide_eq_false h3)
        have cA := add_c w0 r m u b v ys x w hb hg.heap (by omega)
        unfold AddPost at cA
        have HGV : Hid (∀ zs, zs.Perm (x :: ys) → HeapN zs.length zs → GoodP m u zs ∧ outRow u zs = (outRow u ys).set x.toNat false) := Lib.hid (fun zs hp hz => hg.give (by omega) (by omega) h3 hp hz)
        clear hb hg hyl ht hnb h3
        go_enter Try.func33, Try.ntmps33
        go_wp2_with (go_at_call 45; refine cC.mono ?_; rintro e w1 ⟨rfl, rfl⟩)
        refine cA.mono ?_
        rintro e w2 ⟨rfl, v', zs, hp, hz, hb2⟩
        have HX : Hid (PoolIs w0 r m b w2 v' ((outRow u ys).set x.toNat false)) := Lib.hid (by
          obtain ⟨g1, g2⟩ := HGV.out zs hp hz
          exact ⟨u, zs, hb2, g1, g2.symm⟩)
        clear cA cC hp hz hb2
        go_wp2
        go_ret
        exact ⟨rfl, v', HX.out⟩

theorem ownN_empty (B : Nat) (w : World) (hB : B ≤ w.heap.size) : OwnN B (w.alloc (.cells #[] 3)) (.slice (some ⟨w.heap.size, 0, none⟩) 0 0) [] :=
  ⟨rfl, Or.inr ⟨w.heap.size, 0, #[], rfl, hB, heap_alloc_new _ _, Nat.le_refl _, by unfold maxLen; omega, rfl, rfl⟩⟩
theorem addN (g off j : Nat) : (⟨g, off, none⟩ : Addr).add j = ⟨g, off + j, none⟩ := by
  unfold Addr.add
  split
  · rename_i h; subst h; rfl
  · rfl
/-- Appending a list of numbers to an own one, at either type of slices; nil, or a slice that has room. -/
theorem appendN (T : TypeId) (hT : Try.prog.underlying T = some (.slice 3)) {ops : Array Oper} {rest : List Oper} {o : Oper} {a : Act} {Q : Exit → Act → World → Prop} {w : World} (hgd : o.guard = none) (s x : Operand)
    (ho : o.op = .call { callee := .builtin .append, args := #[s, x], argTypes := #[T, T] }) (B : Nat) (v : Value) (xs : List Int) (hs : a.eval s = v) (hown : OwnN B w v xs)
    (ad : Addr) (n c : Nat) (L : List Int) (hn : L.length = n) (hx : a.eval x = .slice (some ad) n c) (hc : ∀ j, j < L.length → w.cell? (ad.add j) = some (.int .i64 (L.getD j 0))) (hlen : xs.length + L.length ≤ 100000) (hB : B ≤ w.heap.size)
    (h : ∀ v' w', OwnN B w' v' (xs ++ L) → w.grownBy w' v.ownBlock → (∀ k, v'.ownBlock = some k → v.ownBlock = some k ∨ w.heap.size ≤ k) → wpList Try.prog ops Q rest (a.put o.dst v') w') : wpList Try.prog ops Q (o :: rest) a w := by
  obtain ⟨i0, hi0, hz0, hz1, hz2⟩ := info_parts Try.infoInt
  refine wpList_plain hgd fun _ hK => ?_
  obtain ⟨v', w', hr, h1, h2, _, h4⟩ := run_append_own_at (P := Try.prog) (w := w) B T o.type 3 i0 (.int .i64 0) 1 8 hT hi0 hz0 hz1 hz2 rfl (by decide) v xs.length (xs.map (Value.int .i64)) hown ad n c (L.map (Value.int .i64)) (by simp [hn])
    (by
      intro j u hj
      by_cases hjl : j < L.length
      · rw [hc j hjl]
        simp [hjl, List.getD_eq_getElem?_getD] at hj ⊢
        exact hj
      · rw [List.getElem?_eq_none (by simpa using hjl)] at hj; cases hj)
    (by
      intro u hu
      obtain ⟨y, _, rfl⟩ := List.mem_map.1 hu
      rfl) (by unfold maxLen; omega) (by omega) hB
  unfold Oper.wp execOp
  simp only [ho, resolve, invoke, builtin, Sem.run_bind, Sem.run_pure, Result.andThen_ok, List.map_toArray, List.map_cons, List.map_nil, hs, hx, hr]
  refine hK _ _ (h v' w' ?_ h2 (fun k hk => ?_))
  · unfold OwnN
    rw [List.length_append, List.map_append, hn]
    exact h1
  · rcases h4 with h4 | h4
    · exact Or.inl (by rw [← h4]; exact hk)
    · right
      rw [h4] at hk
      injection hk with hk
      omega

theorem PoolIs.lt {w0 : World} {r : Option Nat} {m b : Nat} {w : World} {v : Value} {l : List Bool} (h : PoolIs w0 r m b w v l) : b < w.heap.size := by
  obtain ⟨u, ys, hb, _⟩ := h
  exact hb.lt
theorem PoolIs.below {w0 : World} {r : Option Nat} {m b : Nat} {w w' : World} {v : Value} {l : List Bool} (h : PoolIs w0 r m b w v l) (hb : Below w.heap.size w w') : PoolIs w0 r m b w' v l := by
  obtain ⟨u, ys, hx, hg, hl⟩ := h
  exact ⟨u, ys, hx.below hb, hg, hl⟩
theorem PoolIs.now {w0 : World} {r : Option Nat} {m b : Nat} {w : World} {v : Value} {l : List Bool} (h : PoolIs w0 r m b w v l) : PoolIs w v.ownBlock m b w v l := by
  obtain ⟨u, ys, hx, hg, hl⟩ := h
  exact ⟨u, ys, hx.now, hg, hl⟩
/-- Seen from before, where the pool was not yet. -/
theorem PoolIs.since {w0 wa : World} {r : Option Nat} {m b : Nat} {w : World} {v : Value} {l : List Bool} (h : PoolIs w0 r m b w v l) (hb : Below wa.heap.size wa w0) (hn : wa.heap.size ≤ b) (hr : ∀ k, r = some k → wa.heap.size ≤ k) : PoolIs wa none m b w v l := by
  obtain ⟨u, ys, hx, hg, hl⟩ := h
  have hs := hb.size
  refine ⟨u, ys, ⟨hx.at', hx.own, fun k hk => Or.inr ?_, ⟨hx.keep.os.trans hb.os, hx.keep.tape.trans hb.tape, hx.keep.output.trans hb.output, Nat.le_trans hs hx.keep.size, fun k hk h1 h2 => ?_⟩⟩, hg, hl⟩
  · rcases hx.row k hk with h1 | h1
    · exact hr k h1.symm
    · omega
  · rw [hx.keep.block k (by omega) h1 (fun e => by have := hr k e.symm; omega)]
    exact hb.block k hk
theorem PoolIs.keep {w0 : World} {r : Option Nat} {m b : Nat} {w : World} {v : Value} {l : List Bool} (h : PoolIs w0 r m b w v l) : Keeps b r w0 w := by
  obtain ⟨u, ys, hx, _⟩ := h
  exact hx.keep
theorem PoolIs.row {w0 : World} {r : Option Nat} {m b : Nat} {w : World} {v : Value} {l : List Bool} (h : PoolIs w0 r m b w v l) : ∀ k, v.ownBlock = some k → (some k = r ∨ w0.heap.size ≤ k) ∧ b < k ∧ k < w.heap.size := by
  obtain ⟨u, ys, hx, _⟩ := h
  intro k hk
  have := hx.own.lt k hk
  exact ⟨hx.row k hk, by omega, this.2⟩
/-- The library's copy of a row. -/
def SClonePost (B : Nat) (l : List Int) (w : World) (e : Ending) (w' : World) : Prop := ∃ v', e = .returned v' ∧ OwnN B w' v' l ∧ Below w.heap.size w w'
def ClonePost (m : Nat) (l : List Bool) (w : World) (e : Ending) (w' : World) : Prop := ∃ b v, e = .returned (.pointer (some ⟨b, 0, none⟩)) ∧ w.heap.size ≤ b ∧ PoolIs w none m b w' v l
end Go.Proofs.Ytmplekjiciedgaa
