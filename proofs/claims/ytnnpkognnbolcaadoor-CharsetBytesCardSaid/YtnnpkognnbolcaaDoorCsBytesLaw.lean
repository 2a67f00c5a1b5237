/-
  The walk of the law 'CharsetBytes': each byte has its own character.
-/
import Derived.Test.YtnnpkognnbolcaaDoorCsAwake
import Derived.Test.YtnnpkognnbolcaaDoorCsNextLaw
import Derived.Test.YtnnpkognnbolcaaDoorRegionInv
import Derived.Deep.RegionHeld
namespace Go.Proofs.YtnnpkognnbolcaaDoor
open Go.RowKit
set_option linter.unusedVariables false

theorem conv_at (z : Int) (w : World) (g : Nat) (h : w.cell? ⟨g, 0, none⟩ = some (.int .u8 z)) : (convert 38 9 (.slice (some ⟨g, 0, none⟩) 1 1)).run Tryd.prog w = .ok (.string (bsZ [z])) w := by
  rw [run_convert_bytes_string _ 38 9 5 _ _ _ Tryd.underlying38 Tryd.underlying5 Tryd.underlying9]
  have hl := run_loadCells_list (P := Tryd.prog) w ⟨g, 0, none⟩ ([z].map (Value.int .u8)) (fun j v hj => by
    match j, hj with
    | 0, hj => simp at hj; subst hj; simpa [Addr.add] using h)
  simp only [List.length_map, List.length_singleton] at hl
  rw [run_bytesToString _ _ 1 _ [z] hl, foldl_push_ints]
  have he0 : ByteArray.empty.data = #[] := rfl
  rw [he0]
  simp [bsZ]

/-- A slice of one byte that the region has made. -/
def SlC (w : World) (t : Value) (x : Int) : Prop := ∃ g, t = .slice (some ⟨g, 0, none⟩) 1 1 ∧ g < w.heap.size ∧ w.cell? ⟨g, 0, none⟩ = some (.int .u8 x)
/-- A variable of two cells that the region has made. -/
def PtC (n : Nat) (w : World) (t p0 p1 : Value) : Prop :=
  ∃ g, n ≤ g ∧ g < w.heap.size ∧ t = .pointer (some ⟨g, 0, none⟩) ∧ w.cell? ⟨g, 0, none⟩ = some p0 ∧ w.cell? ⟨g, 1, none⟩ = some p1 ∧ w.frozen? ⟨g, 0, none⟩ = false ∧ w.frozen? ⟨g, 1, none⟩ = false
theorem SlC.kept {w w' : World} {t : Value} {x : Int} (h : SlC w t x) (hb : Below w.heap.size w w') : SlC w' t x := by
  obtain ⟨g, h1, h2, h3⟩ := h
  exact ⟨g, h1, by have := hb.size; omega, by rw [hb.cell (p := ⟨g, 0, none⟩) h2]; exact h3⟩
theorem PtC.kept {n : Nat} {w w' : World} {t p0 p1 : Value} (h : PtC n w t p0 p1) (hb : Below w.heap.size w w') : PtC n w' t p0 p1 := by
  obtain ⟨g, h0, h1, h2, h3, h4, h5, h6⟩ := h
  exact ⟨g, h0, by have := hb.size; omega, h2, by rw [hb.cell (p := ⟨g, 0, none⟩) h1]; exact h3, by rw [hb.cell (p := ⟨g, 1, none⟩) h1]; exact h4, by rw [hb.frozen (p := ⟨g, 0, none⟩) h1]; exact h5, by rw [hb.frozen (p := ⟨g, 1, none⟩) h1]; exact h6⟩
theorem PtC.ne_new {n : Nat} {w : World} {t p0 p1 : Value} (h : PtC n w t p0 p1) : t ≠ .pointer (some ⟨w.heap.size, 0, none⟩) := by
  obtain ⟨g, h0, h1, h2, _⟩ := h
  rw [h2]
  intro h
  injection h with h
  injection h with h
  injection h with h _ _
  omega
theorem PtC.new {n : Nat} {w : World} (hn : n ≤ w.heap.size) : PtC n (w.alloc (.cells #[.int .i32 0, .int .i64 0] 28)) (.pointer (some ⟨w.heap.size, 0, none⟩)) (.int .i32 0) (.int .i64 0) :=
  ⟨w.heap.size, hn, by simp, rfl, by simp, by simp, by simp, by simp⟩

def frB (en a b c : Int) (t8 t9 t13 t14 t15 t16 t17 t18 t19 t20 t21 t22 : Value) : Act := { tmps := #[.int .u8 en, .int .u8 a, .int .u8 b, undef, undef, undef, .bool false, .int .i64 c, t8, t9, .int .u8 en, .int .u8 c, .int .i64 c, t13, t14, t15, t16, t17, t18, t19, t20, t21, t22, undef, undef, undef, undef, undef, undef, undef, undef, undef, undef, undef, undef, undef, undef, undef, undef, undef, undef, undef, undef, undef, undef, undef, undef, undef, undef, undef, undef, undef, undef, undef, undef, undef, undef], defers := [] }

def BI (en a b c : Int) (P R p0 p1 r0 r1 : Value) (w0 : World) (L : Nat → Bool) (A : Act) (w : World) : Prop :=
  ∃ t8 t9 t13 t14 t15 t16 t17 t18 t19 t20 t21 t22 : Value, A = frB en a b c t8 t9 t13 t14 t15 t16 t17 t18 t19 t20 t21 t22 ∧ Below w0.heap.size w0 w ∧
    (L 0 = true → t13 = .int .i64 c) ∧
    (L 1 = true → t14 = .int .u8 a) ∧
    (L 2 = true → L 3 = false → SlC w t15 a) ∧
    (L 3 = true → t16 = .string (bsZ [a])) ∧
    (L 4 = true → t17 = P) ∧
    (L 5 = true → t18 = .int .i64 c) ∧
    (L 6 = true → t19 = .int .u8 b) ∧
    (L 7 = true → L 8 = false → SlC w t20 b) ∧
    (L 8 = true → t21 = .string (bsZ [b])) ∧
    (L 9 = true → t22 = R) ∧
    (L 10 = true → PtC w0.heap.size w t8 (if L 12 = true then p0 else .int .i32 0) (if L 12 = true then p1 else .int .i64 0)) ∧
    (L 11 = true → PtC w0.heap.size w t9 (if L 13 = true then r0 else .int .i32 0) (if L 13 = true then r1 else .int .i64 0)) ∧
    (L 10 = true → L 11 = true → t8 ≠ t9)

theorem bsZ1 (a : Int) (ha : 0 ≤ a) (ha' : a ≤ 255) : (bsZ [a]).size = 1 ∧ (bsZ [a]).data.toList = [UInt8.ofNat a.toNat] := by
  have h : (bsZ [a]).data.toList = [UInt8.ofNat a.toNat] := by simp [bsZ]
  have h1 : (bsZ [a]).data.toList.length = (bsZ [a]).size := by simp
  rw [h] at h1
  exact ⟨h1.symm, h⟩
theorem byte_next (c a : Int) (c0 : 0 ≤ c) (c6 : c ≤ 6) (ha : 0 ≤ a) (ha' : a ≤ 255) (w : World) (hT : Tabs w) :
    Calls Tryd.prog 11 #[.int .i64 c, .string (bsZ [a]), .int .i64 0] w fun e w' => e = .returned (.agg #[.int .i32 (oneI c a), .int .i64 1]) ∧ Below w.heap.size w w' := by
  obtain ⟨h1, h2⟩ := bsZ1 a ha ha'
  have h := next2_c c (bsZ [a]) 0 (by omega) (by omega) (by omega) w hT
  have hz := pieceZ_in (enc := c) (b := bsZ [a]) (k := 0) c0 (by omega) (by omega)
  rw [List.drop_zero, h2] at hz
  have hg : (gB [UInt8.ofNat a.toNat] 0 : Int) = a := by
    show (((UInt8.ofNat a.toNat).toNat : Nat) : Int) = a
    rw [u8n _ (by omega)]
    omega
  have hp : pieceL c [UInt8.ofNat a.toNat] = (oneI c a, 1) := by
    unfold pieceL
    rw [if_neg (by omega), if_neg (by rintro ⟨_, h, _⟩; simp at h), hg]
  rw [hp] at hz
  have hz' : pieceZ c (bsZ [a]) 0 = (oneI c a, 1) := hz
  rw [hz'] at h
  exact h
theorem PtC.stored {n g : Nat} {w : World} {a0 a1 p0 p1 : Value} (hn : n ≤ g) (hg : g < w.heap.size) (q0 : w.cell? ⟨g, 0, none⟩ = some a0) (q1 : w.cell? ⟨g, 1, none⟩ = some a1) (z0 : w.frozen? ⟨g, 0, none⟩ = false) (z1 : w.frozen? ⟨g, 1, none⟩ = false) :
    PtC n ((w.setCell ⟨g, 0, none⟩ p0).setCell ⟨g, 1, none⟩ p1) (.pointer (some ⟨g, 0, none⟩)) p0 p1 :=
  ⟨g, hn, by simpa using hg, rfl, by simp [go_sem, q0], by simp [go_sem, q1], by rw [World.frozen?_setCell, World.frozen?_setCell]; exact z0, by rw [World.frozen?_setCell, World.frozen?_setCell]; exact z1⟩
theorem PtC.other {n g : Nat} {w : World} {t p0 p1 v0 v1 : Value} (h : PtC n w t p0 p1) (ne : .pointer (some ⟨g, 0, none⟩) ≠ t) :
    PtC n ((w.setCell ⟨g, 0, none⟩ v0).setCell ⟨g, 1, none⟩ v1) t p0 p1 := by
  obtain ⟨k, h0, h1, rfl, h3, h4, h5, h6⟩ := h
  have hk : g ≠ k := by rintro rfl; exact ne rfl
  exact ⟨k, h0, by simpa using h1, rfl, by rw [World.cell?_setCell_far _ _ _ _ hk, World.cell?_setCell_far _ _ _ _ hk]; exact h3, by rw [World.cell?_setCell_far _ _ _ _ hk, World.cell?_setCell_far _ _ _ _ hk]; exact h4, by rw [World.frozen?_setCell, World.frozen?_setCell]; exact h5, by rw [World.frozen?_setCell, World.frozen?_setCell]; exact h6⟩
theorem byte_fin (c a b : Int) (c0 : 0 ≤ c) (c6 : c ≤ 6) (ha : 0 ≤ a) (ha' : a ≤ 255) (hb : 0 ≤ b) (hb' : b ≤ 255) :
    (oneI c a = -1 ∧ 128 ≤ a) ∨ (0 ≤ oneI c a ∧ (128 ≤ a ∨ oneI c a = a) ∧ ((a = b ∧ oneI c a = oneI c b) ∨ (a ≠ b ∧ oneI c a ≠ oneI c b))) := by
  have hk := oneI_ok c0 c6 ha ha'
  have hlow : a < 128 → oneI c a = a := fun h => by unfold oneI; rw [if_pos (Or.inl h)]
  by_cases hn : oneI c a = -1
  · left
    refine ⟨hn, ?_⟩
    apply Decidable.byContradiction
    intro h
    have := hlow (by omega)
    omega
  · right
    refine ⟨by omega, by omega, ?_⟩
    by_cases hab : a = b
    · subst hab; exact Or.inl ⟨rfl, rfl⟩
    · refine Or.inr ⟨hab, fun h => hab (oneI_inj c0 c6 ha ha' hb hb' (by omega) h)⟩

set_option maxHeartbeats 4000000 in
set_option maxRecDepth 100000 in
theorem bytes_walk (en a b : Int) (he : 0 ≤ en) (he' : en ≤ 255) (ha : 0 ≤ a) (ha' : a ≤ 255) (hb : 0 ≤ b) (hb' : b ≤ 255) (w : World) (hT : Tabs w) :
    Calls Tryd.prog 7 #[.int .u8 en, .int .u8 a, .int .u8 b] w fun e w' => e = .returned (.bool true) ∧ Below w.heap.size w w' := by
  obtain ⟨c, hc⟩ : ∃ c, en % 7 = c := ⟨_, rfl⟩
  have c0 : 0 ≤ c := by omega
  have c6 : c ≤ 6 := by omega
  have cX := fun w1 (hT1 : Tabs w1) => byte_next c a c0 c6 ha ha' w1 hT1
  have cY := fun w1 (hT1 : Tabs w1) => byte_next c b c0 c6 hb hb' w1 hT1
  have hfin := byte_fin c a b c0 c6 ha ha' hb hb'
  have hX9 : oneI c a ≤ 1114111 := by
    have := oneI_ok c0 c6 ha ha'
    omega
  generalize oneI c a = X at *
  generalize oneI c b = Y at *
  subst hc
  clear c0 c6
  go_enter Tryd.func7, Tryd.ntmps7
  go_wp2_with fail
  refine region_inv (by kernel_rfl) (BI en a b (en % 7) (.agg #[.int .i32 X, .int .i64 1]) (.agg #[.int .i32 Y, .int .i64 1]) (.int .i32 X) (.int .i64 1) (.int .i32 Y) (.int .i64 1) w) (by kernel_rfl) ?start ?step ?fin
  case start =>
    exact ⟨undef, undef, undef, undef, undef, undef, undef, undef, undef, undef, undef, undef, rfl, (Below.refl _ _).drew, nofun, nofun, nofun, nofun, nofun, nofun, nofun, nofun, nofun, nofun, nofun, nofun, nofun⟩
  case step =>
    intro i o ho L A w1 hd hI hL hdep K' hK
    obtain ⟨t8, t9, t13, t14, t15, t16, t17, t18, t19, t20, t21, t22, rfl, hbel, h0, h1, h2, h3, h4, h5, h6, h7, h8, h9, h10, h11, h12⟩ := hI
    have hbs := hbel.size
    have hT1 := hT.step hbel
    unfold frB
    match i, ho with

    | 0, ho =>
      cases ho
      go_simp
      exact hK _ _ ⟨_, _, _, _, _, _, _, _, _, _, _, _, rfl, hbel, fun _ => rfl, h1, h2, h3, h4, h5, h6, h7, h8, h9, h10, h11, h12⟩
    | 1, ho =>
      cases ho
      go_simp
      exact hK _ _ ⟨_, _, _, _, _, _, _, _, _, _, _, _, rfl, hbel, h0, fun _ => rfl, h2, h3, h4, h5, h6, h7, h8, h9, h10, h11, h12⟩
    | 5, ho =>
      cases ho
      go_simp
      exact hK _ _ ⟨_, _, _, _, _, _, _, _, _, _, _, _, rfl, hbel, h0, h1, h2, h3, h4, fun _ => rfl, h6, h7, h8, h9, h10, h11, h12⟩
    | 6, ho =>
      cases ho
      go_simp
      exact hK _ _ ⟨_, _, _, _, _, _, _, _, _, _, _, _, rfl, hbel, h0, h1, h2, h3, h4, h5, fun _ => rfl, h7, h8, h9, h10, h11, h12⟩
    | 2, ho =>
      cases ho
      obtain rfl := h1 (hdep _ (Array.mem_of_getElem? (i := 0) rfl) rfl)
      have hnew := (Below.refl w1.heap.size w1).alloc (Nat.le_refl _) (.cells #[.int .u8 a] 5)
      go_simp
      exact hK _ _ ⟨_, _, _, _, _, _, _, _, _, _, _, _, rfl, below_step hbel hnew, h0, h1, fun _ _ => ⟨w1.heap.size, rfl, by simp, by simp⟩, h3, h4, h5, h6, fun x y => (h7 x y).kept hnew, h8, h9, fun x => (h10 x).kept hnew, fun x => (h11 x).kept hnew, h12⟩
    | 7, ho =>
      cases ho
      obtain rfl := h6 (hdep _ (Array.mem_of_getElem? (i := 0) rfl) rfl)
      have hnew := (Below.refl w1.heap.size w1).alloc (Nat.le_refl _) (.cells #[.int .u8 b] 5)
      go_simp
      exact hK _ _ ⟨_, _, _, _, _, _, _, _, _, _, _, _, rfl, below_step hbel hnew, h0, h1, fun x y => (h2 x y).kept hnew, h3, h4, h5, h6, fun _ _ => ⟨w1.heap.size, rfl, by simp, by simp⟩, h8, h9, fun x => (h10 x).kept hnew, fun x => (h11 x).kept hnew, h12⟩
    | 3, ho =>
      cases ho
      obtain ⟨g, rfl, hg, hgc⟩ := h2 (hdep _ (Array.mem_of_getElem? (i := 0) rfl) rfl) hL
      have kc := conv_at a w1 g hgc
      go_simp
      exact hK _ _ ⟨_, _, _, _, _, _, _, _, _, _, _, _, rfl, hbel, h0, h1, fun _ x => absurd (show true = false from x) (by decide), fun _ => rfl, h4, h5, h6, h7, h8, h9, h10, h11, h12⟩
    | 8, ho =>
      cases ho
      obtain ⟨g, rfl, hg, hgc⟩ := h7 (hdep _ (Array.mem_of_getElem? (i := 0) rfl) rfl) hL
      have kc := conv_at b w1 g hgc
      go_simp
      exact hK _ _ ⟨_, _, _, _, _, _, _, _, _, _, _, _, rfl, hbel, h0, h1, h2, h3, h4, h5, h6, fun _ x => absurd (show true = false from x) (by decide), fun _ => rfl, h9, h10, h11, h12⟩
    | 4, ho =>
      cases ho
      obtain rfl := h0 (hdep _ (Array.mem_of_getElem? (i := 0) rfl) rfl)
      obtain rfl := h3 (hdep _ (Array.mem_of_getElem? (i := 1) rfl) rfl)
      go_simp
      refine (cX w1 hT1).mono ?_
      rintro e w2 ⟨rfl, hnew⟩
      exact hK _ _ ⟨_, _, _, _, _, _, _, _, _, _, _, _, rfl, below_step hbel hnew, h0, h1, fun x y => (h2 x y).kept hnew, h3, fun _ => rfl, h5, h6, fun x y => (h7 x y).kept hnew, h8, h9, fun x => (h10 x).kept hnew, fun x => (h11 x).kept hnew, h12⟩
    | 9, ho =>
      cases ho
      obtain rfl := h5 (hdep _ (Array.mem_of_getElem? (i := 0) rfl) rfl)
      obtain rfl := h8 (hdep _ (Array.mem_of_getElem? (i := 1) rfl) rfl)
      go_simp
      refine (cY w1 hT1).mono ?_
      rintro e w2 ⟨rfl, hnew⟩
      exact hK _ _ ⟨_, _, _, _, _, _, _, _, _, _, _, _, rfl, below_step hbel hnew, h0, h1, fun x y => (h2 x y).kept hnew, h3, h4, h5, h6, fun x y => (h7 x y).kept hnew, h8, fun _ => rfl, fun x => (h10 x).kept hnew, fun x => (h11 x).kept hnew, h12⟩
    | 10, ho =>
      cases ho
      have hn : L 12 = false := by
        cases x : L 12 with
        | false => rfl
        | true =>
          have h := hd 12 _ rfl x _ (Array.mem_of_getElem? (i := 0) rfl) rfl
          rw [show L 10 = true from h] at hL
          cases hL
      have hnew := (Below.refl w1.heap.size w1).alloc (Nat.le_refl _) (.cells #[.int .i32 0, .int .i64 0] 28)
      go_simp
      refine hK _ _ ⟨_, _, _, _, _, _, _, _, _, _, _, _, rfl, below_step hbel hnew, h0, h1, fun x y => (h2 x y).kept hnew, h3, h4, h5, h6, fun x y => (h7 x y).kept hnew, h8, h9, fun _ => ?_, fun x => (h11 x).kept hnew, fun _ y => (h11 y).ne_new.symm⟩
      show PtC w.heap.size _ _ (if L 12 = true then _ else _) (if L 12 = true then _ else _)
      rw [hn]
      exact PtC.new hbs
    | 11, ho =>
      cases ho
      have hn : L 13 = false := by
        cases x : L 13 with
        | false => rfl
        | true =>
          have h := hd 13 _ rfl x _ (Array.mem_of_getElem? (i := 0) rfl) rfl
          rw [show L 11 = true from h] at hL
          cases hL
      have hnew := (Below.refl w1.heap.size w1).alloc (Nat.le_refl _) (.cells #[.int .i32 0, .int .i64 0] 28)
      go_simp
      refine hK _ _ ⟨_, _, _, _, _, _, _, _, _, _, _, _, rfl, below_step hbel hnew, h0, h1, fun x y => (h2 x y).kept hnew, h3, h4, h5, h6, fun x y => (h7 x y).kept hnew, h8, h9, fun x => (h10 x).kept hnew, fun _ => ?_, fun x _ => (h10 x).ne_new⟩
      show PtC w.heap.size _ _ (if L 13 = true then _ else _) (if L 13 = true then _ else _)
      rw [hn]
      exact PtC.new hbs
    | 12, ho =>
      cases ho
      obtain rfl := h4 (hdep _ (Array.mem_of_getElem? (i := 1) rfl) rfl)
      have e10 := h10 (hdep _ (Array.mem_of_getElem? (i := 0) rfl) rfl)
      rw [hL] at e10
      obtain ⟨g, hg0, hg1, rfl, q0, q1, z0, z1⟩ := e10
      change w1.cell? ⟨g, 0, none⟩ = some (.int .i32 0) at q0
      change w1.cell? ⟨g, 1, none⟩ = some (.int .i64 0) at q1
      have l3 : L 3 = true := hd 4 _ rfl (hdep _ (Array.mem_of_getElem? (i := 1) rfl) rfl) _ (Array.mem_of_getElem? (i := 1) rfl) rfl
      have l8 : L 8 = true := hd 9 _ rfl (hdep _ (Array.mem_of_getElem? (i := 2) rfl) rfl) _ (Array.mem_of_getElem? (i := 1) rfl) rfl
      have l11 : L 11 = true := hdep _ (Array.mem_of_getElem? (i := 14) rfl) rfl
      have e11 := h11 l11
      have ne := h12 (hdep _ (Array.mem_of_getElem? (i := 0) rfl) rfl) l11
      have hB := (hbel.setCell hg0 (p := ⟨g, 0, none⟩) (.int .i32 X)).setCell hg0 (p := ⟨g, 1, none⟩) (.int .i64 1)
      go_simp
      refine hK _ _ ⟨_, _, _, _, _, _, _, _, _, _, _, _, rfl, hB, h0, h1, fun _ x => absurd l3 (by rw [show L 3 = false from x]; decide), fun _ => rfl, h4, h5, h6, fun _ x => absurd l8 (by rw [show L 8 = false from x]; decide), fun _ => rfl, h9, fun _ => ?_, fun _ => ?_, h12⟩
      · show PtC w.heap.size _ _ (.int .i32 X) (.int .i64 1)
        exact PtC.stored hg0 hg1 q0 q1 z0 z1
      · exact e11.other ne
    | 13, ho =>
      cases ho
      obtain rfl := h9 (hdep _ (Array.mem_of_getElem? (i := 1) rfl) rfl)
      have l12 : L 12 = true := hdep _ (Array.mem_of_getElem? (i := 2) rfl) rfl
      have l4 : L 4 = true := hd 12 _ rfl l12 _ (Array.mem_of_getElem? (i := 1) rfl) rfl
      have l3 : L 3 = true := hd 4 _ rfl l4 _ (Array.mem_of_getElem? (i := 1) rfl) rfl
      have l8 : L 8 = true := hd 9 _ rfl (hdep _ (Array.mem_of_getElem? (i := 1) rfl) rfl) _ (Array.mem_of_getElem? (i := 1) rfl) rfl
      have l11 : L 11 = true := hdep _ (Array.mem_of_getElem? (i := 0) rfl) rfl
      have l10 : L 10 = true := hd 12 _ rfl l12 _ (Array.mem_of_getElem? (i := 0) rfl) rfl
      have e10 := h10 l10
      have ne := h12 l10 l11
      have e11 := h11 l11
      rw [hL] at e11
      obtain ⟨g, hg0, hg1, rfl, q0, q1, z0, z1⟩ := e11
      change w1.cell? ⟨g, 0, none⟩ = some (.int .i32 0) at q0
      change w1.cell? ⟨g, 1, none⟩ = some (.int .i64 0) at q1
      have hB := (hbel.setCell hg0 (p := ⟨g, 0, none⟩) (.int .i32 Y)).setCell hg0 (p := ⟨g, 1, none⟩) (.int .i64 1)
      go_simp
      refine hK _ _ ⟨_, _, _, _, _, _, _, _, _, _, _, _, rfl, hB, h0, h1, fun _ x => absurd l3 (by rw [show L 3 = false from x]; decide), fun _ => rfl, fun _ => rfl, h5, h6, fun _ x => absurd l8 (by rw [show L 8 = false from x]; decide), fun _ => rfl, h9, fun _ => ?_, fun _ => ?_, h12⟩
      · exact e10.other ne.symm
      · show PtC w.heap.size _ _ (.int .i32 Y) (.int .i64 1)
        exact PtC.stored hg0 hg1 q0 q1 z0 z1
    | n + 14, ho => simp at ho
  case fin =>
    intro L A w1 hI hall
    obtain ⟨t8, t9, t13, t14, t15, t16, t17, t18, t19, t20, t21, t22, rfl, hbel, h0, h1, h2, h3, h4, h5, h6, h7, h8, h9, h10, h11, h12⟩ := hI
    have e10 := h10 (hall 10 (by decide))
    have e11 := h11 (hall 11 (by decide))
    rw [hall 12 (by decide)] at e10
    rw [hall 13 (by decide)] at e11
    obtain ⟨g, hg0, hg1, rfl, q0, q1, z0, z1⟩ := e10
    obtain ⟨k, hk0, hk1, rfl, r0, r1, y0, y1⟩ := e11
    change w1.cell? ⟨g, 0, none⟩ = some (.int .i32 X) at q0
    change w1.cell? ⟨g, 1, none⟩ = some (.int .i64 1) at q1
    change w1.cell? ⟨k, 0, none⟩ = some (.int .i32 Y) at r0
    change w1.cell? ⟨k, 1, none⟩ = some (.int .i64 1) at r1
    clear h0 h1 h2 h3 h4 h5 h6 h7 h8 h9 h10 h11 h12 hall
    unfold frB
    go_wp2_with fail
    refine (awake2_c w1).mono ?_
    rintro e w2 ⟨rfl, hb2⟩
    have hB2 := hbel.trans (hb2.mono hbel.size)
    have q0' : w2.cell? ⟨g, 0, none⟩ = some (.int .i32 X) := by rw [hb2.cell (p := ⟨g, 0, none⟩) hg1]; exact q0
    have q1' : w2.cell? ⟨g, 1, none⟩ = some (.int .i64 1) := by rw [hb2.cell (p := ⟨g, 1, none⟩) hg1]; exact q1
    have r0' : w2.cell? ⟨k, 0, none⟩ = some (.int .i32 Y) := by rw [hb2.cell (p := ⟨k, 0, none⟩) hk1]; exact r0
    have hgs : g < w2.heap.size := by have := hb2.size; omega
    have hks : k < w2.heap.size := by have := hb2.size; omega
    clear q0 q1 r0 r1 z0 z1 y0 y1 hb2 hbel
    rcases hfin with ⟨f1, f2⟩ | ⟨f1, f2, f3⟩
    · subst f1
      go_wp2
      go_ret
      exact ⟨rfl, hB2⟩
    · have hX : (X == -1) = false := by rw [beq_eq_false_iff_ne]; omega
      have hw1 : wrap64 X = X := by
        unfold wrap64
        rcases f2 with f | f <;> omega
      by_cases hlow : 128 ≤ a
      · rcases f3 with ⟨f4, f5⟩ | ⟨f4, f5⟩
        · subst f4
          subst f5
          clear f2
          go_wp2
          go_ret
          exact ⟨rfl, hB2⟩
        · have g1 : (a == b) = false := by rw [beq_eq_false_iff_ne]; exact f4
          have g2 : (X == Y) = false := by rw [beq_eq_false_iff_ne]; exact f5
          clear f2 f4 f5
          go_wp2
          go_ret
          exact ⟨rfl, hB2⟩
      · have f6 : X = a := by rcases f2 with f | f <;> omega
        subst f6
        rcases f3 with ⟨f4, f5⟩ | ⟨f4, f5⟩
        · subst f4
          subst f5
          clear f2
          go_wp2
          go_ret
          exact ⟨rfl, hB2⟩
        · have g1 : (X == b) = false := by rw [beq_eq_false_iff_ne]; exact f4
          have g2 : (X == Y) = false := by rw [beq_eq_false_iff_ne]; exact f5
          clear f2 f4 f5
          go_wp2
          go_ret
          exact ⟨rfl, hB2⟩
end Go.Proofs.YtnnpkognnbolcaaDoor
