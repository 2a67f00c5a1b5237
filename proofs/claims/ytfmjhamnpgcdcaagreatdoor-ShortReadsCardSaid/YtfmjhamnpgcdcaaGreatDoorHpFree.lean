/-
  The contract of Free: the least number that is not taken.
-/
import Derived.Test.YtfmjhamnpgcdcaaGreatDoorHpOps
namespace Go.Proofs.YtfmjhamnpgcdcaaGreatDoor
open Go.RowKit Go.Sort
set_option linter.unusedVariables false

/-- The slice v holds the numbers l. -/
def SliceN (w : World) (v : Value) (l : List Int) : Prop :=
  (l = [] ∧ ∃ a cap, v = .slice a 0 cap) ∨
  (∃ g off cap, g < w.heap.size ∧ v = .slice (some ⟨g, off, none⟩) l.length cap ∧ ∀ j, j < l.length → w.cell? ⟨g, off + j, none⟩ = some (.int .i64 (l.getD j 0)))
theorem SliceN.kept {w w' : World} {v : Value} {l : List Int} (h : SliceN w v l) (hb : Below w.heap.size w w') : SliceN w' v l := by
  rcases h with h | ⟨g, off, cap, hg, hv, hc⟩
  · exact Or.inl h
  · exact Or.inr ⟨g, off, cap, by have := hb.size; omega, hv, fun j hj => by rw [hb.cell (p := ⟨g, off + j, none⟩) hg]; exact hc j hj⟩
theorem SliceN.len {w : World} {v : Value} {l : List Int} (h : SliceN w v l) : ∃ a cap, v = .slice a l.length cap := by
  rcases h with ⟨rfl, a, cap, hv⟩ | ⟨g, off, cap, hg, hv, hc⟩
  · exact ⟨a, cap, hv⟩
  · exact ⟨_, cap, hv⟩
theorem SliceN.at {w : World} {a : Option Addr} {n cap : Nat} {l : List Int} (h : SliceN w (.slice a n cap) l) {j : Nat} (hj : j < l.length) : ∃ g off, a = some ⟨g, off, none⟩ ∧ g < w.heap.size ∧ w.cell? ⟨g, off + j, none⟩ = some (.int .i64 (l.getD j 0)) := by
  rcases h with ⟨rfl, _⟩ | ⟨g, off, cap', hg, hv, hc⟩
  · exact absurd hj (by simp)
  · injection hv with h1 h2 h3
    exact ⟨g, off, h1, hg, hc j hj⟩
theorem SliceN.own {B : Nat} {w : World} {v : Value} {l : List Int} (h : OwnN B w v l) : SliceN w v l := by
  by_cases e : l = []
  · subst e
    obtain ⟨a, cap, hv⟩ := h.len
    exact Or.inl ⟨rfl, a, cap, hv⟩
  · obtain ⟨g, cap, hv, _, hg, _⟩ := h.head e
    refine Or.inr ⟨g, 0, cap, hg, hv, fun j hj => ?_⟩
    rw [Nat.zero_add]
    subst hv
    exact (h.cell hj).1

theorem take_one {l : List Int} {k : Nat} (h : k < l.length) : l.take (k + 1) = l.take k ++ [l.getD k 0] := by
  rw [List.take_add_one]
  simp [List.getD_eq_getElem?_getD, List.getElem?_eq_getElem h]
theorem waits_le {ts xs : List Int} {f : Int} (h : Waits ts xs f) : f ≤ ts.length + 1 := by
  have h1 := h.1
  have := holds_many (f - 1).toNat ts (fun m h1 h2 => h.2.1 m h1 (by omega))
  omega
def FreePost (l : List Int) (w : World) (e : Ending) (w' : World) : Prop := ∃ f, FreeOf l f ∧ f ≤ 1000 ∧ e = .returned (.int .i64 f) ∧ Below w.heap.size w w'

set_option maxHeartbeats 4000000 in
set_option maxRecDepth 100000 in
theorem free_c (v : Value) (l : List Int) (w : World) (hv : SliceN w v l) (hl : l.length ≤ 300) :
    Calls Tryz.prog 12 #[v] w (FreePost l w) := by
  unfold FreePost
  obtain ⟨n, hn⟩ : ∃ n, l.length = n := ⟨_, rfl⟩
  obtain ⟨a, cap, rfl⟩ := hv.len
  have HV := Lib.hid hv
  have HN := Lib.hid hn
  rw [hn] at hl ⊢
  clear hv hn
  obtain ⟨b, hb⟩ : ∃ b, w.heap.size = b := ⟨_, rfl⟩
  have HSB := Lib.hid hb
  have H0 : Hid (Box b (w.alloc (.cells #[.slice none 0 0] 47)) (.slice none 0 0) []) := Lib.hid ⟨by rw [← hb]; exact heap_alloc_new _ _, ⟨rfl, Or.inl ⟨rfl, rfl⟩⟩⟩
  have HB0 : Hid (Below b w (w.alloc (.cells #[.slice none 0 0] 47))) := Lib.hid ((Below.refl b w).alloc (by omega) _)
  go_enter Tryz.func12, Tryz.ntmps12
  go_wp2
  clear hb
  go_loopg [9] n (fun gk iv wr => ∃ (k : Nat) (u : Value) (ys : List Int), k + gk = n ∧ iv = .int .i64 k ∧ ys.Perm (l.take k) ∧ HeapN ys.length ys ∧ Box b wr u ys ∧ Below b w wr)
  case atStart => exact ⟨0, _, [], by omega, rfl, List.Perm.refl _, heap_nil, H0.out, HB0.out⟩
  case round =>
    obtain ⟨k, u, ys, hkg, rfl, hp, hh, hbx, hbl⟩ := hrel
    have HP := Lib.hid hp
    have HH := Lib.hid hh
    have HBX := Lib.hid hbx
    have HBL := Lib.hid hbl
    have hyl : Hid (ys.length = k) := Lib.hid (by rw [hp.length_eq, List.length_take, HN.out]; omega)
    by_cases hk : k < n
    · have hkz : (k : Int) < (n : Int) := by omega
      obtain ⟨g, off, rfl, hg, hc⟩ := HV.out.at (j := k) (by rw [HN.out]; exact hk)
      have c1 : wr.cell? ⟨g, off + k, none⟩ = some (.int .i64 (l.getD k 0)) := by rw [hbl.cell (p := ⟨g, off + k, none⟩) (by have := HSB.out; show g < b; omega)]; exact hc
      have cA := add_c b u ys (l.getD k 0) wr hbx hh (by rw [hyl.out]; omega)
      unfold AddPost at cA
      have HT : Hid (l.take (k + 1) = l.take k ++ [l.getD k 0]) := Lib.hid (take_one (by rw [HN.out]; exact hk))
      clear hp hh hbx hbl hc
      generalize l.getD k 0 = x at *
      go_wp2_with fail
      refine cA.mono ?_
      rintro e w2 ⟨rfl, u2, ys2, hp2, hh2, hb2, hl2⟩
      have HP2 : Hid (ys2.Perm (l.take (k + 1))) := Lib.hid (by
        rw [HT.out]
        exact hp2.trans ((List.Perm.cons x HP.out).trans (List.perm_append_singleton x (l.take k)).symm))
      have HH2 := Lib.hid hh2
      have HB2 := Lib.hid hb2
      have HL2 := Lib.hid (HBL.out.trans hl2)
      clear cA hp2 hh2 hb2 hl2
      go_wp2
      go_roundg (n - (k + 1))
      case measure => omega
      case rel => exact ⟨k + 1, u2, ys2, by omega, by first | rfl | go_num, HP2.out, HH2.out, HB2.out, HL2.out⟩
    · have hge : ¬ ((k : Int) < (n : Int)) := by omega
      have HPL : Hid (ys.Perm l) := Lib.hid (by
        have := HP.out
        rw [List.take_of_length_le (by rw [HN.out]; omega)] at this
        exact this)
      clear hp hh hbx hbl
      go_wp2
      obtain ⟨w0, hw0⟩ : ∃ w0 : World, w0 = wr := ⟨_, rfl⟩
      go_loopg [6] ys.length (fun gk fv wr => ∃ (f : Int) (u : Value) (zs : List Int), zs.length = gk ∧ gk ≤ 300 ∧ fv = .int .i64 f ∧ Waits l zs f ∧ HeapN zs.length zs ∧ Box b wr u zs ∧ Below b w wr)
      case atStart => exact ⟨1, u, ys, rfl, by rw [hyl.out]; omega, rfl, waits_start HPL.out, HH.out, HBX.out, HBL.out⟩
      case round =>
        obtain ⟨f, u, zs, hzl, hgk, rfl, hw, hh, hbx, hbl⟩ := hrel
        have hf1 := hw.1
        have hf2 := waits_le hw
        rw [HN.out] at hf2
        have hf3 : f ≤ 301 := by omega
        have HW := Lib.hid hw
        have HZL := Lib.hid hzl
        have HBL2 := Lib.hid hbl
        have HH2 := Lib.hid hh
        obtain ⟨c0, f0⟩ := hbx.cell
        clear hw0 HBX HBL HPL HP hyl HH hf2
        cases hze : zs with
        | nil =>
          subst hze
          obtain ⟨a3, cap3, hu⟩ := hbx.2.len
          rw [List.length_nil] at hu
          subst hu
          clear hw hh hbx hbl hzl
          go_wp2
          go_ret
          exact ⟨f, waits_done HW.out HH2.out (Or.inl rfl), by omega, rfl, by rw [HSB.out]; exact HBL2.out⟩
        | cons z0 zt =>
          obtain ⟨m, hm⟩ : ∃ m, zs.length = m + 1 := ⟨zt.length, by rw [hze]; rfl⟩
          obtain ⟨g2, cap2, hu, hg2, hg2l, hcap2⟩ := hbx.2.head (by rw [hze]; simp)
          rw [hm] at hu hcap2
          subst hu
          have c2 := (hbx.2.cell (j := 0) (by omega)).1
          have hm0 : (0 : Int) < ((m + 1 : Nat) : Int) := by omega
          have hm1 : (0 : Int) < (m : Int) + 1 := by omega
          have cL := least_c b _ zs m wr hbx hh hm (by omega)
          unfold LeastPost at cL
          have HDN : Hid (f < zs.getD 0 0 → FreeOf l f) := Lib.hid (fun hd => waits_done HW.out HH2.out (Or.inr hd))
          have HST : Hid (∀ ys, zs.Perm (zs.getD 0 0 :: ys) → zs.getD 0 0 ≤ f → Waits l ys (if zs.getD 0 0 = f then f + 1 else f) ∧ ys.length = m) := Lib.hid (fun ys hp hx => ⟨waits_step HW.out hp hx, by have := hp.length_eq; rw [hm] at this; simp at this; omega⟩)
          have hgk2 : gk = m + 1 := by omega
          clear hw hh hbx hbl hzl hze hm
          generalize zs.getD 0 0 = x at *
          by_cases hx : x ≤ f
          · have HX := Lib.hid hx
            have hxb : decide (x ≤ f) = true := decide_eq_true hx
            cases he : (x == f) with
            | true =>
              have HE : Hid ((if x = f then f + 1 else f) = f + 1) := Lib.hid (if_pos (by simpa using he))
              have hE2 : x = f := by simpa using he
              go_wp2_with fail
              refine cL.mono ?_
              rintro e w2 ⟨rfl, u2, ys2, hp2, hh2, hb2, hl2⟩
              obtain ⟨hs1, hs2⟩ := HST.out ys2 hp2 HX.out
              rw [HE.out] at hs1
              have HS1 := Lib.hid hs1
              have HS2 := Lib.hid hs2
              have HH3 := Lib.hid hh2
              have HB3 := Lib.hid hb2
              have HL3 := Lib.hid (HBL2.out.trans hl2)
              clear cL hp2 hh2 hb2 hl2 hs1 hs2
              go_wp2
              go_roundg m
              case measure => omega
              case rel => exact ⟨f + 1, u2, ys2, HS2.out, by omega, by first | rfl | go_num, HS1.out, HH3.out, HB3.out, HL3.out⟩
            | false =>
              have HE : Hid ((if x = f then f + 1 else f) = f) := Lib.hid (if_neg (by simpa using he))
              go_wp2_with fail
              refine cL.mono ?_
              rintro e w2 ⟨rfl, u2, ys2, hp2, hh2, hb2, hl2⟩
              obtain ⟨hs1, hs2⟩ := HST.out ys2 hp2 HX.out
              rw [HE.out] at hs1
              have HS1 := Lib.hid hs1
              have HS2 := Lib.hid hs2
              have HH3 := Lib.hid hh2
              have HB3 := Lib.hid hb2
              have HL3 := Lib.hid (HBL2.out.trans hl2)
              clear cL hp2 hh2 hb2 hl2 hs1 hs2
              go_wp2
              go_roundg m
              case measure => omega
              case rel => exact ⟨f, u2, ys2, HS2.out, by omega, rfl, HS1.out, HH3.out, HB3.out, HL3.out⟩
          · have HX : Hid (f < x) := Lib.hid (by omega)
            have hxb : decide (x ≤ f) = false := decide_eq_false hx
            clear cL
            go_wp2
            go_ret
            exact ⟨f, HDN.out HX.out, by omega, rfl, by rw [HSB.out]; exact HBL2.out⟩
end Go.Proofs.YtfmjhamnpgcdcaaGreatDoor
