/-
  The contracts of compose's appendApart and Apart: characters taken apart, in a list of its own; what lay in memory stays.
-/
import Derived.Test.YtjakelphkehonaaCpOrder
import Derived.Test.YtjakelphkehonaaCpPair
import Derived.Test.YtjakelphkehonaaR1All
import Derived.Deep.LoopGhost
namespace Go.Proofs.Ytjakelphkehonaa
open Go.RowKit Go.Sort
set_option linter.unusedVariables false

/-- The slice v holds the list xs, in a block of the call's own. -/
abbrev OwnI (B : Nat) (w : World) (v : Value) (xs : List Int) : Prop := w.ownsRow B 21 1 v xs.length (xs.map (Value.int .i32))
theorem OwnI.nil (B : Nat) (w : World) : OwnI B w (.slice none 0 0) [] := World.ownsRow_nil _ _ _ _
theorem OwnI.below {B : Nat} {w w' : World} {v : Value} {xs : List Int} (h : OwnI B w v xs) (hb : Below w.heap.size w w') : OwnI B w' v xs :=
  h.kept (grown_of_below hb none) (by cases h : v.ownBlock with | none => exact Or.inl rfl | some x => exact Or.inr (by simp))
theorem OwnI.more {B : Nat} {w : World} {v : Value} {xs ys : List Int} {n : Nat} {zs : List Value} (h : w.ownsRow B 21 1 v n zs) (hn : n = (xs ++ ys).length) (hz : zs = xs.map (Value.int .i32) ++ ys.map (Value.int .i32)) : OwnI B w v (xs ++ ys) := by
  subst hn hz
  unfold OwnI
  rw [List.map_append]
  exact h
theorem below_RW {B g : Nat} (w : World) (off : Nat) (L : List Int) (m : Nat) (hB : B ≤ g) : Below B w (RW w g off L m) := by
  unfold RW
  have h : Below B w (putRow encI w g off L.toArray) := by
    refine ⟨rfl, rfl, rfl, ?_, ?_⟩
    · simp [putRow, mapBlock]
    · intro k hk
      have : g ≠ k := by omega
      simp [putRow, mapBlock, Array.getElem?_modify, this]
  exact below_drewN' h m
theorem OwnI.holds {B g cap : Nat} {w : World} {xs : List Int} (h : OwnI B w (.slice (some ⟨g, 0, none⟩) xs.length cap) xs) : Holds encI w g 0 xs.toArray ∧ xs.length ≤ cap ∧ B ≤ g ∧ g < w.heap.size := by
  rcases h.2 with ⟨hv, _⟩ | ⟨g', cap', cur, hv, hg, hb, hn, hm, hs, ht⟩
  · cases hv
  · cases hv
    refine ⟨fun j hj => ?_, hn, hg, (Array.getElem?_eq_some_iff.1 hb).1⟩
    have hj' : j < xs.length := by simpa using hj
    refine ⟨?_, by simp [World.frozen?, hb]⟩
    rw [toArray_at]
    have h1 : (cur.toList.take (xs.length * 1))[j]? = (xs.map (Value.int .i32))[j]? := by rw [ht]
    rw [List.getElem?_take_of_lt (by omega)] at h1
    simp only [World.cell?, hb, Nat.zero_add]
    simp only [Option.isSome_none, Bool.false_eq_true, if_false]
    rw [← Array.getElem?_toList, h1]
    simp [hj', List.getD_eq_getElem?_getD]
theorem OwnI.form {B : Nat} {w : World} {v : Value} {xs : List Int} (h : OwnI B w v xs) (hn : xs ≠ []) : ∃ g cap, v = .slice (some ⟨g, 0, none⟩) xs.length cap := by
  rcases h.2 with ⟨_, h0⟩ | ⟨g', cap', cur, hv, _⟩
  · exact absurd (List.eq_nil_of_length_eq_zero h0) hn
  · exact ⟨g', cap', hv⟩

def AppPost (B : Nat) (xs : List Int) (r : Int) (w : World) (e : Ending) (w' : World) : Prop := ∃ v', e = .returned v' ∧ OwnI B w' v' (xs ++ full1 r) ∧ Below B w w'
def AppSays (r : Int) : Prop := ∀ (B : Nat) (xs : List Int) (v : Value) (w : World), OwnI B w v xs → xs.length ≤ 100000 → B ≤ w.heap.size → Calls Try.prog 24 #[v, .int .i32 r] w (AppPost B xs r w)
theorem splitR_of_none {r : Int} (h : splitI r = none) : splitR r = (0, 0, false) := by unfold splitR; rw [h]
theorem splitR_of_some {r : Int} {p : Int × Int} (h : splitI r = some p) : splitR r = (p.1, p.2, true) := by unfold splitR; rw [h]

set_option maxHeartbeats 1000000 in
theorem app_whole {r : Int} (hs : splitI r = none) : AppSays r := by
  intro B xs v w hown hlen hB
  obtain ⟨i0, hi, hz0, hz1, hz2⟩ := info_parts infoInt32
  have cS := fun w => splitcp_c r w
  unfold SplitPost at cS
  rw [splitR_of_none hs] at cS
  have HF := Lib.hid (full1_none hs)
  have HO := Lib.hid hown
  clear hown hs
  go_enter Try.func24, Try.ntmps24
  go_wp2_with fail
  refine (cS _).mono ?_
  rintro e w1 ⟨rfl, hb1⟩
  have hown1 := HO.out.below hb1
  go_wp2_with (at_builtin; refine wpList_append_own _ rfl _ _ 22 rfl B 21 i0 (.int .i32 0) 1 4 Try.underlying22 hi hz0 hz1 hz2 rfl (by decide) _ _ _ rfl (hown1.alloc _) ⟨w1.heap.size, 0, none⟩ 1 1 [.int .i32 r] rfl rfl ?c1 ?c2 ?c3 ?c4 ?c5 ?_)
  case c1 =>
    intro j u hj
    match j, hj with
    | 0, hj => simp at hj; subst hj; simp [Addr.add]
  case c2 => intro u hu; simp at hu; subst hu; rfl
  case c3 => unfold maxLen; omega
  case c4 => omega
  case c5 => have h1 := hb1.size; simp; omega
  intro v' w2 hown' hgrow _
  have HO2 : Hid (OwnI B w2 v' (xs ++ full1 r)) := Lib.hid (OwnI.more (ys := full1 r) hown' (by rw [HF.out]; simp) (by rw [HF.out]; simp))
  have HBB : Hid (Below B w w2) := Lib.hid (((hb1.mono hB).alloc (by have := hb1.size; omega) _).grown hgrow (by simp; have := hb1.size; omega) (fun j hj => (hown1.lt j hj).1))
  clear hown' hgrow hown1
  go_wp2
  go_ret
  exact ⟨_, rfl, HO2.out, HBB.out⟩

set_option maxHeartbeats 1000000 in
theorem app_part {r : Int} {p : Int × Int} (hs : splitI r = some p) (h1 : AppSays p.1) : AppSays r := by
  intro B xs v w hown hlen hB
  obtain ⟨i0, hi, hz0, hz1, hz2⟩ := info_parts infoInt32
  have cS := fun w => splitcp_c r w
  unfold SplitPost at cS
  rw [splitR_of_some hs] at cS
  have HF := Lib.hid (show full1 r = full1 p.1 ++ [p.2] by rw [full1_some hs, full1_none (split_second hs)])
  obtain ⟨p1, p2⟩ := p
  simp only at cS HF h1
  have H1 := Lib.hid h1
  have HO := Lib.hid hown
  have HLN := Lib.hid (full1_length p1)
  clear hown hs h1
  go_enter Try.func24, Try.ntmps24
  go_wp2_with fail
  refine (cS _).mono ?_
  rintro e w1 ⟨rfl, hb1⟩
  have cA := H1.out B xs v w1 (HO.out.below hb1) hlen (by have := hb1.size; omega)
  clear cS HO H1
  go_wp2_with fail
  refine cA.mono ?_
  rintro e w2 ⟨v2, rfl, hown1, hb2⟩
  have hl := HLN.out
  clear cA
  go_wp2_with (at_builtin; refine wpList_append_own _ rfl _ _ 22 rfl B 21 i0 (.int .i32 0) 1 4 Try.underlying22 hi hz0 hz1 hz2 rfl (by decide) _ _ _ rfl (hown1.alloc _) ⟨w2.heap.size, 0, none⟩ 1 1 [.int .i32 p2] rfl rfl ?c1 ?c2 ?c3 ?c4 ?c5 ?_)
  case c1 =>
    intro j u hj
    match j, hj with
    | 0, hj => simp at hj; subst hj; simp [Addr.add]
  case c2 => intro u hu; simp at hu; subst hu; rfl
  case c3 => rw [List.length_append]; unfold maxLen; omega
  case c4 => rw [List.length_append]; omega
  case c5 => have h1 := hb1.size; have h2 := hb2.size; simp; omega
  intro v' w3 hown' hgrow _
  have HO2 : Hid (OwnI B w3 v' (xs ++ full1 r)) := Lib.hid (OwnI.more (ys := full1 r) hown' (by rw [HF.out]; simp; omega) (by rw [HF.out]; simp))
  have HBB : Hid (Below B w w3) := Lib.hid ((((hb1.mono hB).trans hb2).alloc (by have := hb1.size; have := hb2.size; omega) _).grown hgrow (by simp; have := hb1.size; have := hb2.size; omega) (fun j hj => (hown1.lt j hj).1))
  clear hown' hgrow hown1
  go_wp2
  go_ret
  exact ⟨_, rfl, HO2.out, HBB.out⟩

theorem app_c (r : Int) : AppSays r := by
  cases hs : splitI r with
  | none => exact app_whole hs
  | some p =>
    refine app_part hs ?_
    cases h2 : splitI p.1 with
    | none => exact app_whole h2
    | some q => exact app_part h2 (app_whole (split_first hs h2).1)

/-- The part of the list that has been taken apart. -/
def ApRel (w0 : World) (l : List Int) (ov iv : Value) (wr : World) : Prop :=
  ∃ i, i ≤ l.length ∧ iv = .int .i64 (i : Nat) ∧ OwnI w0.heap.size wr ov (fullL (l.take i)) ∧ (fullL (l.take i) = [] → ov = .slice none 0 0) ∧ Below w0.heap.size w0 wr
theorem full_step {l : List Int} {i : Nat} (h : i < l.length) : fullL (l.take (i + 1)) = fullL (l.take i) ++ full1 (l.getD i 0) := by
  rw [List.take_add_one, fullL_append]
  congr 1
  simp [List.getD_eq_getElem?_getD, List.getElem?_eq_getElem h, fullL]
theorem full_ne (xs : List Int) (r : Int) : xs ++ full1 r ≠ [] := by
  intro h
  have := congrArg List.length h
  have h1 := full1_pos r
  rw [List.length_append, List.length_nil] at this
  omega

def ApartPost (l : List Int) (w : World) (e : Ending) (w' : World) : Prop := ∃ v', e = .returned v' ∧ SliceIs w' v' (apartI l) ∧ (v' = .slice none 0 0 ∨ ∃ ad cap, v' = .slice (some ad) (apartI l).length cap) ∧ Below w.heap.size w w'

set_option maxHeartbeats 2000000 in
theorem apart_c (l : List Int) (v : Value) (w : World) (hv : SliceIs w v l) (hs : l.length ≤ 1000) (hm : marksN (fullL l) ≤ 40) : Calls Try.prog 13 #[v] w (ApartPost l w) := by
  obtain ⟨a, cap, hva⟩ := hv.len
  have HV := Lib.hid hv
  have HM := Lib.hid hm
  obtain ⟨n, hn⟩ : ∃ n, l.length = n := ⟨_, rfl⟩
  have HN := Lib.hid hn
  subst hva
  rw [hn] at HV ⊢
  rw [hn] at hs
  clear hv hm hn
  go_enter Try.func13, Try.ntmps13
  go_wp2
  go_loopw [3, 8] (fun ov iv wr => ApRel w l ov iv wr) (fun _ iv _ => n - (intOf iv).toNat)
  case atStart => exact ⟨0, by omega, rfl, by simpa [fullL] using OwnI.nil _ _, fun _ => rfl, Below.refl _ _⟩
  case round =>
    obtain ⟨i, hi, rfl, hown, hnil, hbel⟩ := hrel
    rw [HN.out] at hi
    have HO := Lib.hid hown
    have HNIL := Lib.hid hnil
    clear hown hnil
    by_cases hlt : i < n
    · have hltz : (i : Int) < (n : Int) := by omega
      obtain ⟨x, hx⟩ : ∃ x, l.getD i 0 = x := ⟨_, rfl⟩
      have HST := Lib.hid (full_step (l := l) (i := i) (by rw [HN.out]; exact hlt))
      rw [hx] at HST
      obtain ⟨g, off, cp, hg, hvv, hc⟩ : ∃ g off cp, g < w.heap.size ∧ Value.slice a n cap = .slice (some ⟨g, off, none⟩) n cp ∧ w.cell? ⟨g, off + i, none⟩ = some (.int .i32 x) := by
        rcases HV.out with ⟨h0, _⟩ | ⟨g, off, cp, hg, hvv, hc⟩
        · have := HN.out; rw [h0] at this; simp at this; omega
        · exact ⟨g, off, cp, hg, by rw [hvv, HN.out], by rw [hc i (by rw [HN.out]; exact hlt), hx]⟩
      cases hvv
      have c1 : wr.cell? ⟨g, off + i, none⟩ = some (.int .i32 x) := by rw [hbel.cell (p := ⟨g, off + i, none⟩) hg]; exact hc
      have hl3 := fullL_length (l.take i)
      rw [List.length_take, HN.out] at hl3
      have cA := app_c x w.heap.size (fullL (l.take i)) u3 wr HO.out (by omega) hbel.size
      have wi : IntKind.i64.wrap ((i : Int) + 1) = ((i + 1 : Nat) : Int) := by rw [IntKind.wrap_i64]; omega
      clear hc hx hl3
      go_wp2_with fail
      refine cA.mono ?_
      rintro e w1 ⟨v', rfl, ho, hb⟩
      have HR : Hid (ApRel w l v' (.int .i64 ((i + 1 : Nat) : Int)) w1) := Lib.hid ⟨i + 1, by rw [HN.out]; omega, rfl, by rw [HST.out]; exact ho, fun h => by rw [HST.out] at h; exact absurd h (full_ne _ _), hbel.trans hb⟩
      clear ho hb cA
      go_wp2
      go_roundw
      case rel => exact HR.out
      case measure => simp [intOf]; omega
    · have hin : i = n := by omega
      subst hin
      have HT : Hid (l.take i = l) := Lib.hid (List.take_of_length_le (by rw [HN.out]; omega))
      rw [HT.out] at HO HNIL
      have hge : ¬ ((i : Int) < (i : Int)) := by omega
      by_cases h0 : fullL l = []
      · have hov := HNIL.out h0
        subst hov
        have HX : Hid (ApartPost l w (.returned (.slice none 0 0)) wr) := Lib.hid ⟨_, rfl, by unfold apartI; rw [h0]; exact SliceIs.nil _, Or.inl rfl, hbel⟩
        have cO := order_none 0 none rfl wr rfl
        clear h0
        go_wp2_with fail
        refine cO.mono ?_
        rintro e w1 ⟨rfl, rfl⟩
        go_wp2
        go_ret
        exact HX.out
      · obtain ⟨g, cp, hov⟩ := OwnI.form HO.out h0
        subst hov
        obtain ⟨hH, hcp, hgB, hgw⟩ := OwnI.holds HO.out
        obtain ⟨k, hk⟩ : ∃ k, (fullL l).length = k := ⟨_, rfl⟩
        rw [hk] at hcp HO ⊢
        have hk3 := fullL_length l
        have cO := order_c wr g 0 cp k (fullL l) hH hk (by rw [hk, HN.out] at hk3; omega) hcp HM.out
        have HX : Hid (∀ m, ApartPost l w (.returned (.slice (some ⟨g, 0, none⟩) k cp)) (RW wr g 0 (sortM classI (fullL l)) m)) := Lib.hid fun m => by
          have hlen : (sortM classI (fullL l)).length = k := (sortM_perm classI (fullL l)).length_eq.trans hk
          have hal : (apartI l).length = k := hlen
          refine ⟨_, rfl, ?_, Or.inr ⟨_, cp, by rw [hal]⟩, hbel.trans (below_RW wr 0 _ m hgB)⟩
          refine Or.inr ⟨g, 0, cp, ?_, by rw [hal], fun j hj => ?_⟩
          · have := (below_RW (B := 0) wr (g := g) 0 (sortM classI (fullL l)) m (by omega)).size
            omega
          · exact (RW_cell (m := m) (i := j) hH (hlen.trans hk.symm) hj).1
        clear h0 hH hk hk3 hcp
        go_wp2_with fail
        refine cO.mono ?_
        rintro e w1 ⟨rfl, m, rfl⟩
        go_wp2
        go_ret
        exact HX.out m
end Go.Proofs.Ytjakelphkehonaa
