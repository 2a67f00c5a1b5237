/-
  The contract of utf's All: it reads all characters, or tells that something is none's.
  The contracts of utf's All (with the room of its slice), and of escape's untilEscape and unescape.
  The contracts of escape's unescape and encode.
  The contract of escape's encode, where each character has bytes.  (wip/gen_esrd3.py writes this text.)
  The contract of escape's read, where each escape is one: the bytes that are read back.
  The contract of escape's Restore, where what is read back is known.
-/
import Derived.Test.YtbbgnhbkjbobgaaGreatDoorK8
import Derived.Test.YtbbgnhbkjbobgaaGreatDoorK7
import Derived.Test.YtbbgnhbkjbobgaaGreatDoorKA
namespace Go.Proofs.YtbbgnhbkjbobgaaGreatDoor
open Go.RowKit Go.Sort
set_option linter.unusedVariables false

def UAllPost (o : Option (List Int)) (w0 : World) (e : Ending) (w' : World) : Prop :=
  ∃ v, e = .returned (.tuple #[v, .bool o.isSome]) ∧ SliceOk w' v (o.getD []) ∧ Below w0.heap.size w0 w'

set_option maxHeartbeats 1000000 in
theorem uall_c (b : ByteArray) (hs : b.size ≤ 4000) (w : World) (hT : Tabs w) :
    Calls Tryz.prog 104 #[.string b] w (UAllPost (runesL b.data.toList) w) := by
  have cV := Tryz.utf8_ValidString b w (by omega) hT
  rw [valid_runes] at cV
  cases ho : runesL b.data.toList with
  | none =>
    rw [ho] at cV
    have HP : ∀ e w', e = Ending.returned (.tuple #[.slice none 0 0, .bool false]) → Below w.heap.size w w' → UAllPost none w e w' := fun e w' he hb => ⟨_, he, SliceOk.nil _, hb⟩
    clear ho hT
    change Calls _ _ _ _ (fun e w' => UAllPost none w e w')
    refine Calls.mono (R := fun e w' => e = Ending.returned (.tuple #[.slice none 0 0, .bool false]) ∧ Below w.heap.size w w') ?_ (fun e w' h => HP e w' h.1 h.2)
    clear HP
    go_enter Tryz.func104, Tryz.ntmps104
    go_wp2_with (go_at_call 146; refine cV.mono ?_; rintro e w' ⟨rfl, hb⟩)
    go_ret2
    exact ⟨rfl, hb⟩
  | some rs =>
    rw [ho] at cV
    have hr : Conv.runesFrom b b.size 0 #[] = (rs.map (Value.int .i32)).toArray := by
      have := runesFrom_eq b b.size 0 #[] rs (by omega) (by rw [List.drop_zero]; exact ho)
      simpa using this
    have hlen : rs.length ≤ 4000 := by
      have := runesL_len _ _ rs (Nat.le_refl _) ho
      have hz : b.data.toList.length = b.size := by simp
      omega
    have hsz : (Conv.runesFrom b b.size 0 #[]).size = rs.length := by rw [hr]; simp
    have kc : ∀ w : World, (convert 9 60 (.string b)).run Tryz.prog w = .ok (.slice (some ⟨w.heap.size, 0, none⟩) rs.length (grownCap w rs.length 0 21))
        (w.drew.alloc (.cells ((rs.map (Value.int .i32)).toArray ++ Array.replicate (grownCap w rs.length 0 21 - rs.length) (.int .i32 0)) 21)) := fun w => by
      have := run_runes_of_string (P := Tryz.prog) w 9 60 21 b Tryz.underlying9 Tryz.underlying60 Tryz.underlying21 (by rw [hsz]; omega)
      rw [hsz, hr] at this
      exact this
    clear ho hT hr hsz
    change Calls _ _ _ _ (fun e w' => UAllPost (some rs) w e w')
    refine Calls.mono (R := fun e w' => ∃ w1, Below w.heap.size w w1 ∧ e = Ending.returned (.tuple #[.slice (some ⟨w1.heap.size, 0, none⟩) rs.length (grownCap w1 rs.length 0 21), .bool true]) ∧ w' = (w1.drew.alloc (.cells ((rs.map (Value.int .i32)).toArray ++ Array.replicate (grownCap w1 rs.length 0 21 - rs.length) (.int .i32 0)) 21))) ?_ ?_
    · go_enter Tryz.func104, Tryz.ntmps104
      go_wp2_with (go_at_call 146; refine cV.mono ?_; rintro e w' ⟨rfl, hb⟩)
      go_ret2
      exact ⟨_, hb, rfl, rfl⟩
    · rintro e w' ⟨w1, hb, rfl, rfl⟩
      refine ⟨_, rfl, ⟨Or.inr ⟨w1.heap.size, 0, _, ?_, rfl, fun j hj => ?_⟩, Or.inr ⟨_, _, rfl⟩⟩, ?_⟩
      · show w1.heap.size < (w1.heap.push _).size; simp
      · have hj' : j < rs.length := hj
        have hcell := World.cell?_alloc_mark w1.drew ((rs.map (Value.int .i32)).toArray ++ Array.replicate (grownCap w1 rs.length 0 21 - rs.length) (.int .i32 0)) 21 (0, 0) (0 + j)
        have hh : w1.drew.heap.size = w1.heap.size := rfl
        rw [hh] at hcell
        rw [hcell, Nat.zero_add, Array.getElem?_append_left (by simpa using hj')]
        simp [List.getElem?_eq_getElem hj', List.getD_eq_getElem?_getD]
      · exact hb.drew.alloc (by have := hb.size; exact this) _

end Go.Proofs.YtbbgnhbkjbobgaaGreatDoor

namespace Go.Proofs.YtbbgnhbkjbobgaaGreatDoor
open Go.RowKit Go.Sort
set_option linter.unusedVariables false

/-- The slice v holds the characters l, and has room for them. -/
def SliceC (w : World) (v : Value) (l : List Int) : Prop := ∃ g off cap, v = .slice (some ⟨g, off, none⟩) l.length cap ∧ l.length ≤ cap ∧ g < w.heap.size ∧ ∀ j, j < l.length → w.cell? ⟨g, off + j, none⟩ = some (.int .i32 (l.getD j 0))
theorem SliceC.is {w : World} {v : Value} {l : List Int} (h : SliceC w v l) : SliceIs w v l := by
  obtain ⟨g, off, cap, hv, _, hg, hc⟩ := h
  exact Or.inr ⟨g, off, cap, hg, hv, hc⟩
theorem SliceC.ok {w : World} {v : Value} {l : List Int} (h : SliceC w v l) : SliceOk w v l := by
  refine ⟨h.is, ?_⟩
  obtain ⟨g, off, cap, hv, _⟩ := h
  exact Or.inr ⟨_, cap, hv⟩
theorem SliceC.kept {w w' : World} {v : Value} {l : List Int} (h : SliceC w v l) (hb : Below w.heap.size w w') : SliceC w' v l := by
  obtain ⟨g, off, cap, hv, hl, hg, hc⟩ := h
  exact ⟨g, off, cap, hv, hl, by have := hb.size; omega, fun j hj => by rw [hb.cell (p := ⟨g, off + j, none⟩) hg]; exact hc j hj⟩
def UAll2Post (o : Option (List Int)) (w0 : World) (e : Ending) (w' : World) : Prop :=
  ∃ v, e = .returned (.tuple #[v, .bool o.isSome]) ∧ (∀ rs, o = some rs → SliceC w' v rs) ∧ Below w0.heap.size w0 w'
set_option maxHeartbeats 1000000 in
theorem uall2_c (b : ByteArray) (rs : List Int) (ho : runesL b.data.toList = some rs) (hs : b.size ≤ 4000) (w : World) (hT : Tabs w) :
    Calls Tryz.prog 104 #[.string b] w fun e w' => ∃ v, e = .returned (.tuple #[v, .bool true]) ∧ SliceC w' v rs ∧ Below w.heap.size w w' := by
  have cV := Tryz.utf8_ValidString b w (by omega) hT
  rw [valid_runes, ho] at cV
  have hr : Conv.runesFrom b b.size 0 #[] = (rs.map (Value.int .i32)).toArray := by
    have := runesFrom_eq b b.size 0 #[] rs (by omega) (by rw [List.drop_zero]; exact ho)
    simpa using this
  have hlen : rs.length ≤ 4000 := by
    have := runesL_len _ _ rs (Nat.le_refl _) ho
    have hz : b.data.toList.length = b.size := by simp
    omega
  have hsz : (Conv.runesFrom b b.size 0 #[]).size = rs.length := by rw [hr]; simp
  have kc : ∀ w : World, (convert 9 60 (.string b)).run Tryz.prog w = .ok (.slice (some ⟨w.heap.size, 0, none⟩) rs.length (grownCap w rs.length 0 21))
      (w.drew.alloc (.cells ((rs.map (Value.int .i32)).toArray ++ Array.replicate (grownCap w rs.length 0 21 - rs.length) (.int .i32 0)) 21)) := fun w => by
    have := run_runes_of_string (P := Tryz.prog) w 9 60 21 b Tryz.underlying9 Tryz.underlying60 Tryz.underlying21 (by rw [hsz]; omega)
    rw [hsz, hr] at this
    exact this
  clear ho hT hr hsz
  refine Calls.mono (R := fun e w' => ∃ w1, Below w.heap.size w w1 ∧ e = Ending.returned (.tuple #[.slice (some ⟨w1.heap.size, 0, none⟩) rs.length (grownCap w1 rs.length 0 21), .bool true]) ∧ w' = (w1.drew.alloc (.cells ((rs.map (Value.int .i32)).toArray ++ Array.replicate (grownCap w1 rs.length 0 21 - rs.length) (.int .i32 0)) 21))) ?_ ?_
  · go_enter Tryz.func104, Tryz.ntmps104
    go_wp2_with (go_at_call 146; refine cV.mono ?_; rintro e w' ⟨rfl, hb⟩)
    go_ret2
    exact ⟨_, hb, rfl, rfl⟩
  · rintro e w' ⟨w1, hb, rfl, rfl⟩
    refine ⟨_, rfl, ⟨w1.heap.size, 0, _, rfl, grownCap_ge _ _ _ _, ?_, fun j hj => ?_⟩, ?_⟩
    · show w1.heap.size < (w1.heap.push _).size; simp
    · have hj' : j < rs.length := hj
      have hcell := World.cell?_alloc_mark w1.drew ((rs.map (Value.int .i32)).toArray ++ Array.replicate (grownCap w1 rs.length 0 21 - rs.length) (.int .i32 0)) 21 (0, 0) (0 + j)
      have hh : w1.drew.heap.size = w1.heap.size := rfl
      rw [hh] at hcell
      rw [hcell, Nat.zero_add, Array.getElem?_append_left (by simpa using hj')]
      simp [List.getElem?_eq_getElem hj', List.getD_eq_getElem?_getD]
    · exact hb.drew.alloc (by have := hb.size; exact this) _

theorem SliceC.take {w : World} {g off n cap k : Nat} {l : List Int} (h : SliceC w (.slice (some ⟨g, off, none⟩) n cap) l) (hk : k ≤ l.length) : SliceIs w (.slice (some ⟨g, off, none⟩) k cap) (l.take k) := by
  obtain ⟨g', off', cap', hv, hl, hg, hc⟩ := h
  injection hv with h1 h2 h3
  injection h1 with h1
  injection h1 with h1 h4 _
  subst h1 h4 h3
  refine Or.inr ⟨g, off, cap, hg, ?_, fun i hi => ?_⟩
  · rw [List.length_take, Nat.min_eq_left hk]
  · rw [List.length_take, Nat.min_eq_left hk] at hi
    rw [show (l.take k).getD i 0 = l.getD i 0 by simp [List.getD_eq_getElem?_getD, hi]]
    exact hc i (by omega)
theorem SliceC.drop {w : World} {g off n cap k : Nat} {l : List Int} (h : SliceC w (.slice (some ⟨g, off, none⟩) n cap) l) (hk : k ≤ l.length) : SliceC w (.slice (some ⟨g, off + k, none⟩) (l.length - k) (cap - k)) (l.drop k) := by
  obtain ⟨g', off', cap', hv, hl, hg, hc⟩ := h
  injection hv with h1 h2 h3
  injection h1 with h1
  injection h1 with h1 h4 _
  subst h1 h4 h3
  refine ⟨g, off + k, cap - k, by rw [List.length_drop], by rw [List.length_drop]; omega, hg, fun i hi => ?_⟩
  rw [List.length_drop] at hi
  rw [show (l.drop k).getD i 0 = l.getD (k + i) 0 by simp [List.getD_eq_getElem?_getD]]
  have := hc (k + i) (by omega)
  rw [Nat.add_assoc]
  exact this
/-- What stands ahead of the first escape, and what stands from it on. -/
def UntilPost (l : List Int) (g off cap : Nat) (w : World) (e : Ending) (w' : World) : Prop :=
  ∃ k, k ≤ l.length ∧ (∀ j, j < k → l.getD j 0 ≠ 37) ∧ ((k = l.length ∧ e = .returned (.tuple #[.slice (some ⟨g, off, none⟩) l.length cap, .slice none 0 0])) ∨
    (k < l.length ∧ l.getD k 0 = 37 ∧ e = .returned (.tuple #[.slice (some ⟨g, off, none⟩) k cap, .slice (some ⟨g, off + k, none⟩) (l.length - k) (cap - k)]))) ∧ Below w.heap.size w w'
set_option maxHeartbeats 2000000 in
set_option maxRecDepth 100000 in
theorem until_c (l : List Int) (g off cap : Nat) (w : World) (hv : SliceC w (.slice (some ⟨g, off, none⟩) l.length cap) l) (hs : l.length ≤ 4000) : Calls Tryz.prog 105 #[.slice (some ⟨g, off, none⟩) l.length cap] w (UntilPost l g off cap w) := by
  obtain ⟨g', off', cap', hv, hcap, hg, hc⟩ := hv
  injection hv with h1 h2 h3
  injection h1 with h1
  injection h1 with h1 h4 _
  subst h1 h4 h3
  obtain ⟨n, hn⟩ : ∃ n, l.length = n := ⟨_, rfl⟩
  rw [hn] at hcap hs hc
  have HC := Lib.hid hc
  have HN := Lib.hid hn
  rw [hn]
  clear hc hn
  go_enter Tryz.func105, Tryz.ntmps105
  go_wp2
  go_loopg [8] n (fun gk iv wr => ∃ j : Nat, j + gk = n ∧ iv = .int .i64 j ∧ wr = w ∧ ∀ i, i < j → l.getD i 0 ≠ 37)
  case atStart => exact ⟨0, by omega, rfl, rfl, fun i hi => by omega⟩
  case round =>
    obtain ⟨j, hjg, rfl, rfl, hno⟩ := hrel
    have HNO := Lib.hid hno
    clear hno
    by_cases hlt : j < n
    · have hltz : (j : Int) < (n : Int) := by omega
      have c0 := HC.out j hlt
      obtain ⟨x, hx⟩ : ∃ x, l.getD j 0 = x := ⟨_, rfl⟩
      rw [hx] at c0
      have z0 : (0 : Int) ≤ (j : Int) := by omega
      by_cases h37 : x = 37
      · subst h37
        have z1 : (j : Int) ≤ (n : Int) := by omega
        have z2 : (j : Int) ≤ (cap : Int) := by omega
        have z3 : ((j : Int)).toNat = j := by omega
        have z4 : (n : Int) ≤ (cap : Int) := by omega
        have HX := Lib.hid hx
        clear hx
        go_wp2
        go_quiet (fail)
        go_wp2
        go_ret2
        exact ⟨j, by rw [HN.out]; omega, HNO.out, Or.inr ⟨by rw [HN.out]; exact hlt, HX.out, by rw [HN.out]; rfl⟩, below_drewN' (Below.refl _ _) _⟩
      · have e37 : (x == 37) = false := by rw [beq_eq_false_iff_ne]; exact h37
        have HX : Hid (∀ i, i < j + 1 → l.getD i 0 ≠ 37) := Lib.hid (fun i hi => by
          by_cases e : i = j
          · subst e; rw [hx]; exact h37
          · exact HNO.out i (by omega))
        clear hx h37
        go_wp2
        go_roundg (n - (j + 1))
        case measure => omega
        case rel => exact ⟨j + 1, by omega, by first | rfl | go_num, rfl, HX.out⟩
    · have hje : j = n := by omega
      have hge : ¬ ((j : Int) < (n : Int)) := by omega
      have HNE : Hid (∀ i, i < n → l.getD i 0 ≠ 37) := Lib.hid (by rw [← hje]; exact HNO.out)
      clear hje hlt hjg
      go_wp2
      go_ret2
      exact ⟨n, by rw [HN.out]; exact Nat.le_refl _, HNE.out, Or.inl ⟨HN.out.symm, by rw [HN.out]; rfl⟩, Below.refl _ _⟩
end Go.Proofs.YtbbgnhbkjbobgaaGreatDoor

namespace Go.Proofs.YtbbgnhbkjbobgaaGreatDoor
open Go.RowKit Go.Sort
set_option linter.unusedVariables false

/-- A digit of an escape. -/
def hexC (c : Int) : Bool := decide (0 ≤ c ∧ c < 128) && hexL.contains (UInt8.ofNat c.toNat)
def digS : ByteArray := ⟨#[48, 49, 50, 51, 52, 53, 54, 55, 56, 57, 97, 98, 99, 100, 101, 102]⟩
theorem digS_ascii : Ascii digS := by
  have key : ∀ j : Nat, j < 16 → ∀ b, digS.data.toList[j]? = some b → b.toNat < 128 := by decide +kernel
  intro j b h
  by_cases hj : j < 16
  · exact key j hj b h
  · rw [List.getElem?_eq_none (by show (16 : Nat) ≤ j; omega)] at h
    cases h
theorem dig_idx {c : Int} (h : hexC c = true) : idxR digS c = (digitOf c : Int) ∧ digitOf c < 16 := by
  unfold hexC at h
  rw [Bool.and_eq_true, decide_eq_true_iff] at h
  obtain ⟨n, rfl⟩ : ∃ n : Nat, c = (n : Int) := ⟨c.toNat, by omega⟩
  have key : ∀ m : Nat, m < 128 → hexL.contains (UInt8.ofNat m) = true → Lib.indexByte digS.data.toList m.toUInt8 = (hexL.idxOf (UInt8.ofNat m) : Int) ∧ hexL.idxOf (UInt8.ofNat m) < 16 := by decide +kernel
  have := key n (by omega) (by simpa using h.2)
  unfold idxR digitOf
  rw [if_pos h.1, show ((n : Int)).toNat = n by omega]
  exact this
theorem or_digits : ∀ x : Nat, x < 16 → ∀ y : Nat, y < 16 → bits BinOp.or IntKind.i64 ((x : Int) * 16) (y : Int) = ((16 * x + y : Nat) : Int) := by decide +kernel

set_option maxHeartbeats 2000000 in
set_option maxRecDepth 100000 in
theorem unesc_c (l t : List Int) (a b : Int) (hl : l = 37 :: a :: b :: t) (ha : hexC a = true) (hb : hexC b = true) (v : Value) (w : World) (hv : SliceC w v l) (hs : l.length ≤ 4000) :
    Calls Tryz.prog 107 #[v] w fun e w' => e = .returned (.tuple #[.int .u8 ((16 * digitOf a + digitOf b : Nat) : Int), .bool true]) ∧ Below w.heap.size w w' := by
  obtain ⟨ia, la⟩ := dig_idx ha
  obtain ⟨ib, lb⟩ := dig_idx hb
  obtain ⟨g, off, cap, rfl, hcap, hg, hc⟩ := hv
  have c1 := hc 1 (by rw [hl]; simp)
  have c2 := hc 2 (by rw [hl]; simp)
  rw [show l.getD 1 0 = a by rw [hl]; rfl] at c1
  rw [show l.getD 2 0 = b by rw [hl]; rfl] at c2
  have hn3 : 3 ≤ l.length := by rw [hl]; simp
  have cA := fun w => idxRune_c digS digS_ascii (by decide) a w
  have cB := fun w => idxRune_c digS digS_ascii (by decide) b w
  rw [ia] at cA
  rw [ib] at cB
  unfold digS at cA cB
  generalize digitOf a = x at *
  generalize digitOf b = y at *
  have ho := or_digits x la y lb
  have hw1 : IntKind.i64.wrap ((x : Int) * 16) = (x : Int) * 16 := by rw [IntKind.wrap_i64]; omega
  have hw2 : IntKind.u8.wrap ((16 * x + y : Nat) : Int) = ((16 * x + y : Nat) : Int) := by rw [IntKind.wrap_u8]; omega
  have hz : ¬ ((l.length : Int) < 3) := by omega
  have z1 : (1 : Int) < (l.length : Int) := by omega
  have z2 : (2 : Int) < (l.length : Int) := by omega
  have x0 : ¬ ((x : Int) < 0) := by omega
  have y0 : ¬ ((y : Int) < 0) := by omega
  generalize l.length = n at *
  clear hl ha hb ia ib hc
  go_enter Tryz.func107, Tryz.ntmps107
  go_wp2_with fail
  refine (cA _).mono ?_
  rintro e w1 ⟨rfl, hb1⟩
  have c2' : w1.cell? ⟨g, off + 2, none⟩ = some (.int .i32 b) := by rw [hb1.cell (p := ⟨g, off + 2, none⟩) hg]; exact c2
  go_wp2_with fail
  refine (cB _).mono ?_
  rintro e w2 ⟨rfl, hb2⟩
  go_wp2
  go_ret2
  exact ⟨rfl, below_step hb1 hb2⟩
end Go.Proofs.YtbbgnhbkjbobgaaGreatDoor

namespace Go.Proofs.YtbbgnhbkjbobgaaGreatDoor
open Go.RowKit Go.Sort
set_option linter.unusedVariables false

theorem bytesM_cons {enc r : Int} {l : List Int} {z : List UInt8} (h : bytesM enc (r :: l) = some z) : ∃ b z', encB enc r = some b ∧ bytesM enc l = some z' ∧ z = b ++ z' := by
  unfold bytesM at h
  simp only [List.map_cons, List.foldr_cons] at h
  cases hb : encB enc r with
  | none => rw [hb] at h; cases h
  | some b =>
    rw [hb] at h
    simp only [Option.bind_some] at h
    obtain ⟨z', h1, h2⟩ := Option.map_eq_some_iff.1 h
    exact ⟨b, z', rfl, h1, h2.symm⟩
theorem bytesM_nil {enc : Int} {z : List UInt8} (h : bytesM enc [] = some z) : z = [] := by
  have : some [] = some z := h
  exact (Option.some.inj this).symm
theorem encB_some {enc r : Int} {b : List UInt8} (h0 : 0 ≤ enc) (h : encB enc r = some b) : b.length ≤ 4 ∧ -1 ≤ r ∧ r ≤ 1114111 := by
  obtain ⟨h1, h2⟩ := enc_piece h0 h []
  rw [List.append_nil] at h2
  have h3 := pieceL_range h0 h1
  rw [h2] at h3
  have h4 : (pieceL enc b).2 ≤ 4 := by
    unfold pieceL
    split
    · rcases nextL_facts b with h9 | ⟨_, _, _, _, h9, _⟩
      · rw [h9, if_pos rfl]; decide
      · split
        · decide
        · exact h9
    · split
      · show 2 ≤ 4; decide
      · show 1 ≤ 4; decide
  rw [h2] at h4
  exact ⟨h4, h3.1, h3.2.1⟩
theorem bytesC_M (enc : Int) (l : List Int) : bytesC enc l = bytesM enc (if enc = 8 then apartI l else l) := rfl
theorem enc_post {enc r : Int} (h0 : 0 ≤ enc) (h8 : enc ≤ 8) {b : List UInt8} (h : encB enc r = some b) (w : World) :
    Calls Tryz.prog 147 #[.int .i64 enc, .int .i32 r] w fun e w' => e = .returned (.tuple #[.string ⟨b.toArray⟩, .bool true]) ∧ Below w.heap.size w w' := by
  have hs := encB_some h0 h
  refine (encode_c enc r (by omega) (by omega) w).mono ?_
  intro e w' hp
  unfold encZ at hp
  rw [if_pos ⟨h0, h8⟩] at hp
  unfold encB at h
  obtain ⟨zs, hz, rfl⟩ := Option.map_eq_some_iff.1 h
  rw [hz] at hp
  exact hp

def EncRel (enc : Int) (L : List Int) (x : List UInt8) (B : Nat) (w0 : World) (gk : Nat) (iv : Value) (wr : World) : Prop :=
  ∃ (i : Nat) (y z : List UInt8), i + gk = L.length ∧ iv = .int .i64 i ∧ IsBld 59 [] B B (Lib.byteCells y) wr ∧ bytesM enc (L.drop i) = some z ∧ x = y ++ z ∧ y.length ≤ 4 * i ∧ Below B w0 wr

set_option maxHeartbeats 4000000 in
set_option maxRecDepth 100000 in
theorem enc_plain (enc : Int) (h0 : 0 ≤ enc) (h7 : enc ≤ 7) (l : List Int) (x : List UInt8) (hx : bytesM enc l = some x) (v : Value) (w : World) (hv : SliceIs w v l) (hs : l.length ≤ 1000) :
    Calls Tryz.prog 106 #[.int .i64 enc, v] w fun e w' => e = .returned (.tuple #[.string ⟨x.toArray⟩, .bool true]) ∧ Below w.heap.size w w' := by
  have HLL : Hid (l.length ≤ 3000) := Lib.hid (by omega)
  have he8 : (enc == 8) = false := by rw [beq_eq_false_iff_ne]; omega
  have H0 := Lib.hid h0
  obtain ⟨w1, hw1⟩ : ∃ w1, w1 = w := ⟨_, rfl⟩
  have HW1 : Hid (Below w.heap.size w w1) := Lib.hid (by rw [hw1]; exact Below.refl _ _)
  obtain ⟨v1, hvv⟩ : ∃ v1, v1 = v := ⟨_, rfl⟩
  have hv1 : SliceIs w1 v1 l := by rw [hw1, hvv]; exact hv
  rw [← hvv, ← hw1]
  rw [← hw1] at HW1
  clear hv hs hw1 hvv
  have HV := Lib.hid hv1
  obtain ⟨a, cap, hva⟩ := hv1.len
  obtain ⟨L, hL⟩ : ∃ L, l = L := ⟨_, rfl⟩
  rw [hL] at HV hva hx HLL
  obtain ⟨n, hn⟩ : ∃ n, L.length = n := ⟨_, rfl⟩
  rw [hn] at hva HLL
  have HN := Lib.hid hn
  have HX0 := Lib.hid hx
  have hn3 := HLL.out
  subst hva
  clear hv1 hx hL hn
  go_enter Tryz.func106, Tryz.ntmps106
  go_wp2_with fail
  go_loopg [17] n (fun gk iv wr => EncRel enc L x w1.heap.size w1 gk iv wr)
  case atStart => exact ⟨0, [], x, by rw [HN.out]; omega, rfl, bld_fresh w1, by rw [List.drop_zero]; exact HX0.out, rfl, by simp, (Below.refl _ _).alloc (Nat.le_refl _) _⟩
  case round =>
    obtain ⟨i, y, z, hig, rfl, hbld, hz, hxy, hyl, hbel⟩ := hrel
    rw [HN.out] at hig
    have HZ := Lib.hid hz
    have HXY := Lib.hid hxy
    have HBD := Lib.hid hbld
    have hbs := hbel.size
    clear hz hxy hbld
    by_cases hlt : i < n
    · have hltz : (i : Int) < (n : Int) := by omega
      have hil : i < L.length := by rw [HN.out]; exact hlt
      obtain ⟨r, hr⟩ : ∃ r, L.getD i 0 = r := ⟨_, rfl⟩
      have hcell : ∃ g off, a = some ⟨g, off, none⟩ ∧ g < w1.heap.size ∧ w1.cell? ⟨g, off + i, none⟩ = some (.int .i32 r) := by
        rcases HV.out with ⟨h1, _⟩ | ⟨g, off, cap', hg, hv', hc⟩
        · rw [h1] at hil; exact absurd hil (by simp)
        · have := hc i hil
          rw [hr] at this
          refine ⟨g, off, ?_, hg, this⟩
          injection hv'
      obtain ⟨g, off, rfl, hg, c0⟩ := hcell
      have d0 : wr.cell? ⟨g, off + i, none⟩ = some (.int .i32 r) := by rw [hbel.cell (p := ⟨g, off + i, none⟩) hg]; exact c0
      have hst := HZ.out
      have hri : L[i] = r := by rw [← hr]; simp [List.getD_eq_getElem?_getD, List.getElem?_eq_getElem hil]
      rw [List.drop_eq_getElem_cons hil, hri] at hst
      obtain ⟨b, z', hb, hz', rfl⟩ := bytesM_cons hst
      have hbl := (encB_some H0.out hb).1
      have cE := enc_post H0.out (by first | decide | omega) hb wr
      have HZ' := Lib.hid hz'
      have hBl : (⟨b.toArray⟩ : ByteArray).size ≤ 4 := by show b.toArray.size ≤ 4; simpa using hbl
      have hBL : Hid ((⟨b.toArray⟩ : ByteArray).data.toList = b) := Lib.hid rfl
      have HXB : Hid (x = (y ++ b) ++ z') := Lib.hid (by rw [HXY.out, List.append_assoc])
      have HYB : Hid ((y ++ b).length ≤ 4 * (i + 1)) := Lib.hid (by rw [List.length_append]; omega)
      generalize (⟨b.toArray⟩ : ByteArray) = E at *
      clear hst hz' hb c0 hr hri hil
      go_wp2_with fail
      refine cE.mono ?_
      rintro e w2 ⟨rfl, hb2⟩
      have cW := wstr_c hasBuilder w1.heap.size w1.heap.size _ E w2 (HBD.out.below hb2) (by rw [Lib.byteCells_length]; omega) (by have := hb2.size; omega)
      go_wp2_with fail
      refine cW.mono ?_
      rintro e w3 ⟨rfl, hb3, hbel3, _⟩
      have HB3 : Hid (IsBld 59 [] w1.heap.size w1.heap.size (Lib.byteCells (y ++ b)) w3) := Lib.hid (Or.inr (by
        rw [Lib.byteCells_append, ← hBL.out, ← Lib.strCells_eq]
        exact hb3))
      have HBE : Hid (Below w1.heap.size w1 w3) := Lib.hid ((hbel.trans (hb2.mono hbs)).trans hbel3)
      clear hb3 hbel3 cW cE hb2 hbel
      go_wp2
      go_roundg (n - (i + 1))
      case measure => omega
      case rel => exact ⟨i + 1, y ++ b, z', by rw [HN.out]; omega, by first | rfl | go_num, HB3.out, HZ'.out, HXB.out, HYB.out, HBE.out⟩
    · have hie : i = n := by omega
      have hzn : z = [] := by
        have h1 := HZ.out
        rw [List.drop_eq_nil_of_le (by rw [HN.out]; omega)] at h1
        exact bytesM_nil h1
      have hge : ¬ ((i : Int) < (n : Int)) := by omega
      have cS := str_c w1.heap.size w1.heap.size y wr HBD.out hbs
      have HXE : Hid (x = y) := Lib.hid (by rw [HXY.out, hzn, List.append_nil])
      clear hie hlt hig hzn
      go_wp2_with fail
      refine cS.mono ?_
      rintro e w2 ⟨rfl, hb2⟩
      have HFB : Hid (Below w1.heap.size w1 w2) := Lib.hid (HW1.out.trans ((hbel.trans hb2).mono HW1.out.size))
      clear hb2 cS hbel
      go_wp2
      go_ret2
      exact ⟨by rw [HXE.out]; rfl, HFB.out⟩

set_option maxHeartbeats 4000000 in
set_option maxRecDepth 100000 in
theorem enc_hfs (l : List Int) (x : List UInt8) (hx : bytesM 8 (apartI l) = some x) (v : Value) (w : World) (hv : SliceIs w v l) (hs : l.length ≤ 1000) :
    Calls Tryz.prog 106 #[.int .i64 8, v] w fun e w' => e = .returned (.tuple #[.string ⟨x.toArray⟩, .bool true]) ∧ Below w.heap.size w w' := by
  have HLL0 : Hid ((apartI l).length ≤ 3000) := Lib.hid (by have := apart_length l; omega)
  have cA := apart_c l v w hv hs (by have := marks_full l; omega)
  unfold ApartPost at cA
  have H0 : Hid ((0 : Int) ≤ 8) := Lib.hid (by decide)
  go_enter Tryz.func106, Tryz.ntmps106
  go_wp2_with fail
  refine cA.mono ?_
  rintro e w1 ⟨v1, rfl, hv1, _, hbA⟩
  have HW1 := Lib.hid hbA
  have HLL := HLL0
  clear hv hs cA hbA HLL0
  have HV := Lib.hid hv1
  obtain ⟨a, cap, hva⟩ := hv1.len
  obtain ⟨L, hL⟩ : ∃ L, (apartI l) = L := ⟨_, rfl⟩
  rw [hL] at HV hva hx HLL
  obtain ⟨n, hn⟩ : ∃ n, L.length = n := ⟨_, rfl⟩
  rw [hn] at hva HLL
  have HN := Lib.hid hn
  have HX0 := Lib.hid hx
  have hn3 := HLL.out
  subst hva
  clear hv1 hx hL hn

  go_wp2_with fail
  go_loopg [17] n (fun gk iv wr => EncRel 8 L x w1.heap.size w1 gk iv wr)
  case atStart => exact ⟨0, [], x, by rw [HN.out]; omega, rfl, bld_fresh w1, by rw [List.drop_zero]; exact HX0.out, rfl, by simp, (Below.refl _ _).alloc (Nat.le_refl _) _⟩
  case round =>
    obtain ⟨i, y, z, hig, rfl, hbld, hz, hxy, hyl, hbel⟩ := hrel
    rw [HN.out] at hig
    have HZ := Lib.hid hz
    have HXY := Lib.hid hxy
    have HBD := Lib.hid hbld
    have hbs := hbel.size
    clear hz hxy hbld
    by_cases hlt : i < n
    · have hltz : (i : Int) < (n : Int) := by omega
      have hil : i < L.length := by rw [HN.out]; exact hlt
      obtain ⟨r, hr⟩ : ∃ r, L.getD i 0 = r := ⟨_, rfl⟩
      have hcell : ∃ g off, a = some ⟨g, off, none⟩ ∧ g < w1.heap.size ∧ w1.cell? ⟨g, off + i, none⟩ = some (.int .i32 r) := by
        rcases HV.out with ⟨h1, _⟩ | ⟨g, off, cap', hg, hv', hc⟩
        · rw [h1] at hil; exact absurd hil (by simp)
        · have := hc i hil
          rw [hr] at this
          refine ⟨g, off, ?_, hg, this⟩
          injection hv'
      obtain ⟨g, off, rfl, hg, c0⟩ := hcell
      have d0 : wr.cell? ⟨g, off + i, none⟩ = some (.int .i32 r) := by rw [hbel.cell (p := ⟨g, off + i, none⟩) hg]; exact c0
      have hst := HZ.out
      have hri : L[i] = r := by rw [← hr]; simp [List.getD_eq_getElem?_getD, List.getElem?_eq_getElem hil]
      rw [List.drop_eq_getElem_cons hil, hri] at hst
      obtain ⟨b, z', hb, hz', rfl⟩ := bytesM_cons hst
      have hbl := (encB_some H0.out hb).1
      have cE := enc_post H0.out (by first | decide | omega) hb wr
      have HZ' := Lib.hid hz'
      have hBl : (⟨b.toArray⟩ : ByteArray).size ≤ 4 := by show b.toArray.size ≤ 4; simpa using hbl
      have hBL : Hid ((⟨b.toArray⟩ : ByteArray).data.toList = b) := Lib.hid rfl
      have HXB : Hid (x = (y ++ b) ++ z') := Lib.hid (by rw [HXY.out, List.append_assoc])
      have HYB : Hid ((y ++ b).length ≤ 4 * (i + 1)) := Lib.hid (by rw [List.length_append]; omega)
      generalize (⟨b.toArray⟩ : ByteArray) = E at *
      clear hst hz' hb c0 hr hri hil
      go_wp2_with fail
      refine cE.mono ?_
      rintro e w2 ⟨rfl, hb2⟩
      have cW := wstr_c hasBuilder w1.heap.size w1.heap.size _ E w2 (HBD.out.below hb2) (by rw [Lib.byteCells_length]; omega) (by have := hb2.size; omega)
      go_wp2_with fail
      refine cW.mono ?_
      rintro e w3 ⟨rfl, hb3, hbel3, _⟩
      have HB3 : Hid (IsBld 59 [] w1.heap.size w1.heap.size (Lib.byteCells (y ++ b)) w3) := Lib.hid (Or.inr (by
        rw [Lib.byteCells_append, ← hBL.out, ← Lib.strCells_eq]
        exact hb3))
      have HBE : Hid (Below w1.heap.size w1 w3) := Lib.hid ((hbel.trans (hb2.mono hbs)).trans hbel3)
      clear hb3 hbel3 cW cE hb2 hbel
      go_wp2
      go_roundg (n - (i + 1))
      case measure => omega
      case rel => exact ⟨i + 1, y ++ b, z', by rw [HN.out]; omega, by first | rfl | go_num, HB3.out, HZ'.out, HXB.out, HYB.out, HBE.out⟩
    · have hie : i = n := by omega
      have hzn : z = [] := by
        have h1 := HZ.out
        rw [List.drop_eq_nil_of_le (by rw [HN.out]; omega)] at h1
        exact bytesM_nil h1
      have hge : ¬ ((i : Int) < (n : Int)) := by omega
      have cS := str_c w1.heap.size w1.heap.size y wr HBD.out hbs
      have HXE : Hid (x = y) := Lib.hid (by rw [HXY.out, hzn, List.append_nil])
      clear hie hlt hig hzn
      go_wp2_with fail
      refine cS.mono ?_
      rintro e w2 ⟨rfl, hb2⟩
      have HFB : Hid (Below w.heap.size w w2) := Lib.hid (HW1.out.trans ((hbel.trans hb2).mono HW1.out.size))
      clear hb2 cS hbel
      go_wp2
      go_ret2
      exact ⟨by rw [HXE.out]; rfl, HFB.out⟩

theorem encode4_c (enc : Int) (h0 : 0 ≤ enc) (h8 : enc ≤ 8) (l : List Int) (x : List UInt8) (hx : bytesC enc l = some x) (v : Value) (w : World) (hv : SliceIs w v l) (hs : l.length ≤ 1000) :
    Calls Tryz.prog 106 #[.int .i64 enc, v] w fun e w' => e = .returned (.tuple #[.string ⟨x.toArray⟩, .bool true]) ∧ Below w.heap.size w w' := by
  rw [bytesC_M] at hx
  by_cases h7 : enc ≤ 7
  · rw [if_neg (by omega)] at hx
    exact enc_plain enc h0 h7 l x hx v w hv hs
  · have e : enc = 8 := by omega
    subst e
    exact enc_hfs l x hx v w hv hs
end Go.Proofs.YtbbgnhbkjbobgaaGreatDoor

namespace Go.Proofs.YtbbgnhbkjbobgaaGreatDoor
open Go.RowKit Go.Sort
set_option linter.unusedVariables false

/-- Does each % begin an escape? -/
def okD (l : List Int) : Bool := match l with
  | [] => true
  | [c] => decide (c ≠ 37)
  | [c, a] => decide (c ≠ 37) && okD [a]
  | c :: a :: b :: t => if c = 37 then (hexC a && hexC b) && okD t else okD (a :: b :: t)
theorem okD_char {c : Int} (h : c ≠ 37) (t : List Int) : okD (c :: t) = okD t := by
  match t with
  | [] => rw [okD.eq_2, okD.eq_1, decide_eq_true h]
  | [a] => rw [okD.eq_3, decide_eq_true h, Bool.true_and]
  | a :: b :: t => rw [okD.eq_4, if_neg h]
theorem okD_chars : ∀ (cs t : List Int), (∀ c ∈ cs, c ≠ 37) → okD (cs ++ t) = okD t
  | [], t, _ => rfl
  | c :: cs, t, h => by
    rw [List.cons_append, okD_char (h c (by simp)), okD_chars cs t (fun x hx => h x (by simp [hx]))]
theorem okD_esc {a b : Int} (ha : hexC a = true) (hb : hexC b = true) (t : List Int) : okD (37 :: a :: b :: t) = okD t := by
  rw [okD.eq_4, if_pos rfl, ha, hb]; rfl
theorem okD_37 {l : List Int} (h : okD (37 :: l) = true) : ∃ a b t, l = a :: b :: t ∧ hexC a = true ∧ hexC b = true ∧ okD t = true := by
  match l with
  | [] => rw [okD.eq_2] at h; exact absurd h (by decide)
  | [a] => rw [okD.eq_3] at h; exact absurd h (by simp)
  | a :: b :: t =>
    rw [okD.eq_4, if_pos rfl] at h
    simp only [Bool.and_eq_true] at h
    exact ⟨a, b, t, rfl, h.1.1, h.1.2, h.2⟩

theorem read_last {enc : Int} {l : List Int} {z : List UInt8} (hno : ∀ j, j < l.length → l.getD j 0 ≠ 37) (h : readC enc l [] = some z) : bytesC enc l = some z := by
  have h1 := readC_chars (enc := enc) l [] [] (fun c hc => by
    obtain ⟨j, hj, rfl⟩ := List.getElem_of_mem hc
    have := hno j hj
    simpa [List.getD_eq_getElem?_getD, List.getElem?_eq_getElem hj] using this)
  rw [List.append_nil, List.nil_append, readC_nil] at h1
  rw [← h1]; exact h
theorem read_esc {enc : Int} {l : List Int} {k : Nat} {z : List UInt8} (hk : k < l.length) (hno : ∀ j, j < k → l.getD j 0 ≠ 37) (h37 : l.getD k 0 = 37) (hok : okD l = true) (h : readC enc l [] = some z) :
    ∃ a b t y z', l.drop k = 37 :: a :: b :: t ∧ hexC a = true ∧ hexC b = true ∧ okD t = true ∧ bytesC enc (l.take k) = some y ∧ readC enc t [] = some z' ∧ z = y ++ (UInt8.ofNat (16 * digitOf a + digitOf b) :: z') := by
  have hcs : ∀ c ∈ l.take k, c ≠ 37 := fun c hc => by
    obtain ⟨j, hj, rfl⟩ := List.getElem_of_mem hc
    rw [List.length_take] at hj
    have := hno j (by omega)
    simpa [List.getD_eq_getElem?_getD, List.getElem?_eq_getElem (show j < l.length by omega)] using this
  have hhead : l[k] = 37 := by simpa [List.getD_eq_getElem?_getD, List.getElem?_eq_getElem hk] using h37
  have hd : l.drop k = 37 :: l.drop (k + 1) := by rw [List.drop_eq_getElem_cons hk, hhead]
  have hl : l = l.take k ++ (37 :: l.drop (k + 1)) := by rw [← hd]; exact (List.take_append_drop k l).symm
  rw [hl, okD_chars _ _ hcs] at hok
  obtain ⟨a, b, t, ht, ha, hb, hot⟩ := okD_37 hok
  rw [hl, readC_chars _ _ _ hcs, List.nil_append, ht, readC_37] at h
  cases hy : bytesC enc (l.take k) with
  | none => rw [hy] at h; cases h
  | some y =>
    rw [hy] at h
    simp only [Option.bind_some] at h
    obtain ⟨z', hz', rfl⟩ := Option.map_eq_some_iff.1 h
    exact ⟨a, b, t, y, z', by rw [hd, ht], ha, hb, hot, rfl, hz', rfl⟩

theorem first37 : ∀ l : List Int, (∀ j, j < l.length → l.getD j 0 ≠ 37) ∨ ∃ k, k < l.length ∧ (∀ j, j < k → l.getD j 0 ≠ 37) ∧ l.getD k 0 = 37
  | [] => Or.inl (fun j hj => by simp at hj)
  | c :: l => by
    by_cases hc : c = 37
    · exact Or.inr ⟨0, by simp, fun j hj => by omega, hc⟩
    · rcases first37 l with h | ⟨k, hk, hno, h⟩
      · left
        intro j hj
        rcases j with _ | j
        · exact hc
        · exact h j (by simpa using hj)
      · right
        refine ⟨k + 1, by simpa using hk, fun j hj => ?_, h⟩
        rcases j with _ | j
        · exact hc
        · exact hno j (by omega)
theorem until_none (l : List Int) (hno : ∀ j, j < l.length → l.getD j 0 ≠ 37) (g off cap : Nat) (w : World) (hv : SliceC w (.slice (some ⟨g, off, none⟩) l.length cap) l) (hs : l.length ≤ 4000) :
    Calls Tryz.prog 105 #[.slice (some ⟨g, off, none⟩) l.length cap] w fun e w' => e = .returned (.tuple #[.slice (some ⟨g, off, none⟩) l.length cap, .slice none 0 0]) ∧ Below w.heap.size w w' := by
  refine (until_c l g off cap w hv hs).mono ?_
  rintro e w' ⟨k, hk, _, ⟨_, he⟩ | ⟨hkl, h37, _⟩, hb⟩
  · exact ⟨he, hb⟩
  · exact absurd h37 (hno k hkl)
theorem until_some (l : List Int) (k : Nat) (hk : k < l.length) (hno : ∀ j, j < k → l.getD j 0 ≠ 37) (h37 : l.getD k 0 = 37) (g off cap : Nat) (w : World) (hv : SliceC w (.slice (some ⟨g, off, none⟩) l.length cap) l) (hs : l.length ≤ 4000) :
    Calls Tryz.prog 105 #[.slice (some ⟨g, off, none⟩) l.length cap] w fun e w' => e = .returned (.tuple #[.slice (some ⟨g, off, none⟩) k cap, .slice (some ⟨g, off + k, none⟩) (l.length - k) (cap - k)]) ∧ Below w.heap.size w w' := by
  refine (until_c l g off cap w hv hs).mono ?_
  rintro e w' ⟨k', hk', hno', ⟨h9, he⟩ | ⟨hkl, h37', he⟩, hb⟩
  · exact absurd h37 (hno' k (by omega))
  · have e : k' = k := by
      rcases Nat.lt_trichotomy k' k with h | h | h
      · exact absurd h37' (hno k' h)
      · exact h
      · exact absurd h37 (hno' k h)
    subst e
    exact ⟨he, hb⟩

def RdRel (enc : Int) (x : List UInt8) (w1 : World) (gk : Nat) (cv : Value) (wr : World) : Prop :=
  ∃ (l : List Int) (y z : List UInt8), l.length = gk ∧ gk ≤ 1000 ∧ ((l = [] ∧ ∃ a cap, cv = .slice a 0 cap) ∨ SliceC w1 cv l) ∧ okD l = true ∧ readC enc l [] = some z ∧ x = y ++ z ∧ IsBld 59 [] w1.heap.size w1.heap.size (Lib.byteCells y) wr ∧ Below w1.heap.size w1 wr

set_option maxHeartbeats 4000000 in
set_option maxRecDepth 100000 in
theorem read4_c (enc : Int) (h0 : 0 ≤ enc) (h8 : enc ≤ 8) (b : ByteArray) (rs : List Int) (hr : runesL b.data.toList = some rs) (hs : b.size ≤ 4000) (hrs : rs.length ≤ 1000) (hok : okD rs = true) (x : List UInt8) (hx : readC enc rs [] = some x) (hxl : x.length ≤ 4000)
    (w : World) (hT : Tabs w) :
    Calls Tryz.prog 61 #[.int .i64 enc, .string b] w fun e w' => e = .returned (.tuple #[.string ⟨x.toArray⟩, .bool true]) ∧ Below w.heap.size w w' := by
  have cA := uall2_c b rs hr hs w hT
  have H0 := Lib.hid h0
  have H8 := Lib.hid h8
  have HOK := Lib.hid hok
  have HX := Lib.hid hx
  clear hr hs hT hok hx h0 h8
  go_enter Tryz.func61, Tryz.ntmps61
  go_wp2_with fail
  refine cA.mono ?_
  rintro e w1 ⟨v1, rfl, hv1, hb1⟩
  have HV1 := Lib.hid hv1
  have HB1 := Lib.hid hb1
  obtain ⟨g1, off1, cap1, hvf, _⟩ := hv1
  subst hvf
  clear cA hb1
  go_wp2_with fail
  go_loopg [6] rs.length (fun gk cv wr => RdRel enc x w1 gk cv wr)
  case atStart => exact ⟨rs, [], x, rfl, hrs, Or.inr HV1.out, HOK.out, HX.out, rfl, bld_fresh w1, (Below.refl _ _).alloc (Nat.le_refl _) _⟩
  case round =>
    obtain ⟨l, y, z, hlg, hg9, hcv, hok, hz, hxy, hbld, hbel⟩ := hrel
    subst hlg
    have HZ := Lib.hid hz
    have HXY := Lib.hid hxy
    have HBD := Lib.hid hbld
    have HBL := Lib.hid hbel
    have HOK2 := Lib.hid hok
    have hbs := hbel.size
    have hyl : y.length ≤ 4000 := by have := congrArg List.length hxy; rw [List.length_append] at this; omega
    clear hz hxy hbld hok hrs hbel
    rcases hcv with ⟨rfl, a, cap, rfl⟩ | hcv
    · have hzx : x = y := by
        have h1 := HZ.out
        rw [readC_nil, bytesC_nil] at h1
        rw [HXY.out, ← Option.some.inj h1, List.append_nil]
      have HXE := Lib.hid hzx
      have cS := str_c w1.heap.size w1.heap.size y wr HBD.out hbs
      clear hzx
      go_wp2_with fail
      refine cS.mono ?_
      intro e w2 hh
      have he := hh.1
      have hb2 := hh.2
      clear hh
      subst he
      have HFB : Hid (Below w.heap.size w w2) := Lib.hid (HB1.out.trans ((HBL.out.trans hb2).mono HB1.out.size))
      clear hb2 cS
      go_wp2
      go_ret2
      exact ⟨by rw [HXE.out]; rfl, HFB.out⟩
    · have HCV := Lib.hid hcv
      obtain ⟨g, off, cap, rfl, hcap, hgw, _⟩ := hcv
      by_cases hl0 : l = []
      · have hzx : x = y := by
          have h1 := HZ.out
          rw [hl0, readC_nil, bytesC_nil] at h1
          rw [HXY.out, ← Option.some.inj h1, List.append_nil]
        have HXE := Lib.hid hzx
        have hln : l.length = 0 := by rw [hl0]; rfl
        have cS := str_c w1.heap.size w1.heap.size y wr HBD.out hbs
        rw [hln]
        clear hzx hl0 hln
        go_wp2_with fail
        refine cS.mono ?_
        intro e w2 hh
        have he := hh.1
        have hb2 := hh.2
        clear hh
        subst he
        have HFB : Hid (Below w.heap.size w w2) := Lib.hid (HB1.out.trans ((HBL.out.trans hb2).mono HB1.out.size))
        clear hb2 cS
        go_wp2
        go_ret2
        exact ⟨by rw [HXE.out]; rfl, HFB.out⟩
      · have hlp : 0 < l.length := List.length_pos_iff.2 hl0
        have hlz : (0 : Int) < (l.length : Int) := by omega
        have HL0 := Lib.hid hl0
        clear hl0
        rcases first37 l with hno | ⟨k, hk, hno, h37⟩
        · have cU := until_none l hno g off cap wr (HCV.out.kept HBL.out) (by omega)
          have hyx := read_last hno HZ.out
          have HXE : Hid (x = y ++ z) := HXY
          have HE : Hid (∀ w2, Below w1.heap.size w1 w2 → Calls Tryz.prog 106 #[.int .i64 enc, .slice (some ⟨g, off, none⟩) l.length cap] w2 fun e w' => e = .returned (.tuple #[.string ⟨z.toArray⟩, .bool true]) ∧ Below w2.heap.size w2 w') := Lib.hid (fun w2 h2 => encode4_c enc H0.out H8.out l z hyx _ w2 (HCV.out.kept h2).is (by omega))
          have hZs : (⟨z.toArray⟩ : ByteArray).size ≤ 4000 := by
            have h9 := congrArg List.length HXY.out
            rw [List.length_append] at h9
            show z.toArray.size ≤ 4000
            simp; omega
          have hZL : Hid ((⟨z.toArray⟩ : ByteArray).data.toList = z) := Lib.hid rfl
          generalize (⟨z.toArray⟩ : ByteArray) = Z at *
          clear hno hyx
          go_wp2_with fail
          refine cU.mono ?_
          intro e w2 hh
          have he := hh.1
          have hb2 := hh.2
          clear hh
          subst he
          have hbel2 : Below w1.heap.size w1 w2 := HBL.out.trans (hb2.mono hbs)
          have cE := HE.out w2 hbel2
          have HBD2 := Lib.hid (HBD.out.below hb2)
          have HBL2 := Lib.hid hbel2
          have hbs2 := hbel2.size
          clear cU hb2 hbel2
          go_wp2_with fail
          refine cE.mono ?_
          intro e w3 hh
          have he := hh.1
          have hb3 := hh.2
          clear hh
          subst he
          have cW := wstr_c hasBuilder w1.heap.size w1.heap.size _ Z w3 (HBD2.out.below hb3) (by rw [Lib.byteCells_length]; omega) (by have := hb3.size; omega)
          have HBL3 : Hid (Below w1.heap.size w1 w3) := Lib.hid (HBL2.out.trans (hb3.mono hbs2))
          clear cE hb3
          go_wp2_with fail
          refine cW.mono ?_
          intro e w4 hh
          have he := hh.1
          have hb4 := hh.2.1
          have hbel4 := hh.2.2.1
          clear hh
          subst he
          have hb4' : IsBld 59 [] w1.heap.size w1.heap.size (Lib.byteCells x) w4 := Or.inr (by
            rw [HXE.out, Lib.byteCells_append, ← hZL.out, ← Lib.strCells_eq]
            exact hb4)
          have HBL4 : Hid (Below w1.heap.size w1 w4) := Lib.hid (HBL3.out.trans hbel4)
          have cS := str_c w1.heap.size w1.heap.size x w4 hb4' HBL4.out.size
          clear hb4 hbel4 hb4' cW
          go_wp2_with fail
          refine cS.mono ?_
          intro e w5 hh
          have he := hh.1
          have hb5 := hh.2
          clear hh
          subst he
          have HFB : Hid (Below w.heap.size w w5) := Lib.hid (HB1.out.trans ((HBL4.out.trans hb5).mono HB1.out.size))
          clear hb5 cS
          go_wp2
          go_ret2
          exact ⟨rfl, HFB.out⟩
        · have cU := until_some l k hk hno h37 g off cap wr (HCV.out.kept HBL.out) (by omega)
          obtain ⟨ca, cb, t, y1, z1, hdr, hca, hcb, hot, hy1, hz1, hzz⟩ := read_esc hk hno h37 HOK2.out HZ.out
          have hnd : l.length = k + (t.length + 3) := by
            have h9 := congrArg List.length hdr
            rw [List.length_drop] at h9
            simp at h9
            omega
          have HT1 := Lib.hid hot
          have HZ1 := Lib.hid hz1
          have HXE : Hid (x = (y ++ y1 ++ [UInt8.ofNat (16 * digitOf ca + digitOf cb)]) ++ z1) := Lib.hid (by rw [HXY.out, hzz]; simp)
          have HE : Hid (∀ w2, Below w1.heap.size w1 w2 → Calls Tryz.prog 106 #[.int .i64 enc, .slice (some ⟨g, off, none⟩) k cap] w2 fun e w' => e = .returned (.tuple #[.string ⟨y1.toArray⟩, .bool true]) ∧ Below w2.heap.size w2 w') := Lib.hid (fun w2 h2 => encode4_c enc H0.out H8.out _ y1 hy1 _ w2 ((HCV.out.kept h2).take (by omega)) (by rw [List.length_take]; omega))
          have HU : Hid (∀ w2, Below w1.heap.size w1 w2 → Calls Tryz.prog 107 #[.slice (some ⟨g, off + k, none⟩) (l.length - k) (cap - k)] w2 fun e w' => e = .returned (.tuple #[.int .u8 ((16 * digitOf ca + digitOf cb : Nat) : Int), .bool true]) ∧ Below w2.heap.size w2 w') := Lib.hid (fun w2 h2 => unesc_c (l.drop k) t ca cb hdr hca hcb _ w2 ((HCV.out.kept h2).drop (by omega)) (by rw [List.length_drop]; omega))
          have HSC : Hid (SliceC w1 (.slice (some ⟨g, off + k, none⟩) (l.length - k) (cap - k)) (l.drop k)) := Lib.hid (HCV.out.drop (by omega))
          have hdig : 16 * digitOf ca + digitOf cb < 256 := by
            have h1 := (dig_idx hca).2
            have h2 := (dig_idx hcb).2
            omega
          have hDc : ((16 * digitOf ca + digitOf cb : Nat) : Int) = ((UInt8.ofNat (16 * digitOf ca + digitOf cb)).toNat : Int) := by rw [u8n _ hdig]
          have hY1s : (⟨y1.toArray⟩ : ByteArray).size ≤ 4000 := by
            have h9 := congrArg List.length HXE.out
            simp only [List.length_append] at h9
            show y1.toArray.size ≤ 4000
            simp; omega
          have hYL : Hid ((⟨y1.toArray⟩ : ByteArray).data.toList = y1) := Lib.hid rfl
          have hzl9 : (y ++ y1).length ≤ 8000 := by
            have h9 := congrArg List.length HXE.out
            simp only [List.length_append] at h9 ⊢
            omega
          rw [hDc] at HU
          generalize UInt8.ofNat (16 * digitOf ca + digitOf cb) = D at *
          generalize (⟨y1.toArray⟩ : ByteArray) = Y at *
          have HDR := Lib.hid hdr
          obtain ⟨m, hm⟩ : ∃ m, l.length - k = m := ⟨_, rfl⟩
          obtain ⟨cp, hcp⟩ : ∃ cp, cap - k = cp := ⟨_, rfl⟩
          have hm3 : m = t.length + 3 := by omega
          have hcm : m ≤ cp := by omega
          have hmz : (3 : Int) ≤ (m : Int) := by omega
          have hmc : (m : Int) ≤ (cp : Int) := by omega
          have hm0 : ((m : Int) == 0) = false := by rw [beq_eq_false_iff_ne]; omega
          rw [hm, hcp] at HU HSC cU
          have HTL : Hid (t.length < l.length) := Lib.hid (by omega)
          have HM3 := Lib.hid hm3
          clear hm3 hno h37 hdr hca hcb hot hy1 hz1 hzz hnd hdig hDc hm hcp
          go_wp2_with fail
          refine cU.mono ?_
          intro e w2 hh
          have he := hh.1
          have hb2 := hh.2
          clear hh
          subst he
          have hbel2 : Below w1.heap.size w1 w2 := HBL.out.trans (hb2.mono hbs)
          have cE := HE.out w2 hbel2
          have HBD2 := Lib.hid (HBD.out.below hb2)
          have HBL2 := Lib.hid hbel2
          have hbs2 := hbel2.size
          clear cU hb2 hbel2
          go_wp2_with fail
          refine cE.mono ?_
          intro e w3 hh
          have he := hh.1
          have hb3 := hh.2
          clear hh
          subst he
          have cW := wstr_c hasBuilder w1.heap.size w1.heap.size _ Y w3 (HBD2.out.below hb3) (by rw [Lib.byteCells_length]; omega) (by have := hb3.size; omega)
          have HBL3 : Hid (Below w1.heap.size w1 w3) := Lib.hid (HBL2.out.trans (hb3.mono hbs2))
          clear cE hb3
          go_wp2_with fail
          refine cW.mono ?_
          intro e w4 hh
          have he := hh.1
          have hb4 := hh.2.1
          have hbel4 := hh.2.2.1
          clear hh
          subst he
          have HB4 : Hid (IsBld 59 [] w1.heap.size w1.heap.size (Lib.byteCells (y ++ y1)) w4) := Lib.hid (Or.inr (by
            rw [Lib.byteCells_append, ← hYL.out, ← Lib.strCells_eq]
            exact hb4))
          have HBL4 : Hid (Below w1.heap.size w1 w4) := Lib.hid (HBL3.out.trans hbel4)
          have cU2 := HU.out w4 HBL4.out
          have hbs4 := HBL4.out.size
          clear hb4 hbel4 cW
          go_wp2_with fail
          refine cU2.mono ?_
          intro e w5 hh
          have he := hh.1
          have hb5 := hh.2
          clear hh
          subst he
          have cB := wbyte_c hasBuilder w1.heap.size w1.heap.size _ (D.toNat : Int) w5 (HB4.out.below hb5) (by rw [Lib.byteCells_length]; omega) (by have := hb5.size; omega)
          have HBL5 : Hid (Below w1.heap.size w1 w5) := Lib.hid (HBL4.out.trans (hb5.mono hbs4))
          clear cU2 hb5
          go_wp2_with fail
          refine cB.mono ?_
          intro e w6 hh
          have he := hh.1
          have hb6 := hh.2.1
          have hbel6 := hh.2.2.1
          clear hh
          subst he
          have HB6 : Hid (IsBld 59 [] w1.heap.size w1.heap.size (Lib.byteCells (y ++ y1 ++ [D])) w6) := Lib.hid (Or.inr (by
            rw [Lib.byteCells_append, byteCells_one]
            exact hb6))
          have HBL6 : Hid (Below w1.heap.size w1 w6) := Lib.hid (HBL5.out.trans hbel6)
          clear hb6 hbel6 cB
          go_wp2_with fail
          case inl =>
            have ht0 : t = [] := List.eq_nil_of_length_eq_zero (by have := HM3.out; omega)
            have hm9 : m - 3 = 0 := by have := HM3.out; rw [ht0] at this; simp at this; omega
            have HCV3 : Hid (t = [] ∧ m - 3 = 0) := Lib.hid ⟨ht0, hm9⟩
            clear ht0 hm9
            go_roundg t.length
            case measure => exact HTL.out
            case rel => exact ⟨t, y ++ y1 ++ [D], z1, rfl, by have := HTL.out; omega, Or.inl ⟨HCV3.out.1, _, _, by rw [HCV3.out.2]⟩, HT1.out, HZ1.out, HXE.out, HB6.out, HBL6.out⟩
          case inr =>
            have HCV3 : Hid (SliceC w1 (.slice (some ⟨g, off + k + 3, none⟩) (m - 3) (cp - 3)) t) := Lib.hid (by
              have h9 := HSC.out.drop (k := 3) (by rw [HDR.out]; simp)
              rw [HDR.out] at h9
              have e9 : (37 :: ca :: cb :: t).length - 3 = m - 3 := by rw [HM3.out]; simp
              rw [e9] at h9
              exact h9)
            go_roundg t.length
            case measure => exact HTL.out
            case rel => exact ⟨t, y ++ y1 ++ [D], z1, rfl, by have := HTL.out; omega, Or.inr HCV3.out, HT1.out, HZ1.out, HXE.out, HB6.out, HBL6.out⟩
end Go.Proofs.YtbbgnhbkjbobgaaGreatDoor

namespace Go.Proofs.YtbbgnhbkjbobgaaGreatDoor
open Go.RowKit Go.Sort
set_option linter.unusedVariables false

theorem ok_presC {enc : Int} (good : Bool) : ∀ (n : Nat) (l : List UInt8) (op : List Int), (∀ c ∈ op, c ≠ 37) → okD (presC enc good n l op) = true := by
  have hhex : ∀ x : UInt8, hexC ((hexL.getD (x.toNat / 16) 0).toNat : Int) = true ∧ hexC ((hexL.getD (x.toNat % 16) 0).toNat : Int) = true := fun x => by
    have key : ∀ n : Nat, n < 256 → hexC ((hexL.getD (n / 16) 0).toNat : Int) = true ∧ hexC ((hexL.getD (n % 16) 0).toNat : Int) = true := by decide +kernel
    exact key x.toNat x.toNat_lt
  have hesc : ∀ (bs : List UInt8) (t : List Int), okD (escC bs ++ t) = okD t := fun bs t => by
    induction bs with
    | nil => rfl
    | cons x bs ih =>
      rw [escC_cons]
      show okD (37 :: _ :: _ :: (escC bs ++ t)) = _
      rw [okD_esc (hhex x).1 (hhex x).2, ih]
  have hj : ∀ op : List Int, (∀ c ∈ op, c ≠ 37) → ∀ c ∈ joinT (decide (enc = 8)) good op, c ≠ 37 := fun op h c hc => by
    unfold joinT at hc
    split at hc
    · rcases tog_from op [] c hc with h1 | h1 | h1
      · cases h1
      · exact h c h1
      · omega
    · exact h c hc
  intro n
  induction n with
  | zero =>
    intro l op h
    have := okD_chars _ [] (hj op h)
    rw [List.append_nil] at this
    exact this.trans (by rw [okD.eq_1])
  | succ n ih =>
    intro l op h
    simp only [presC]
    split
    · have := okD_chars _ [] (hj op h)
      rw [List.append_nil] at this
      exact this.trans (by rw [okD.eq_1])
    · split
      · rw [okD_chars _ _ (hj op h), hesc]
        exact ih _ [] (fun c hc => by cases hc)
      · rename_i hh
        refine ih _ _ (fun c hc => ?_)
        rcases List.mem_append.1 hc with h1 | h1
        · exact h c h1
        · have e : c = (pieceL enc l).1 := by simpa using h1
          rw [e]
          exact res_37 (not_hidden (by simpa using hh)).2.1
theorem presC_len {enc : Int} (h0 : 0 ≤ enc) (good : Bool) : ∀ (n : Nat) (l : List UInt8) (op : List Int), l.length ≤ n → (presC enc good n l op).length ≤ 3 * l.length + op.length := by
  have hj : ∀ op : List Int, (joinT (decide (enc = 8)) good op).length ≤ op.length := fun op => by
    unfold joinT
    split
    · exact togI_length op
    · exact Nat.le_refl _
  intro n
  induction n with
  | zero =>
    intro l op h
    have := hj op
    show (joinT _ _ op).length ≤ _
    omega
  | succ n ih =>
    intro l op h
    simp only [presC]
    split
    · have := hj op
      omega
    · rename_i hne
      have hr := pieceL_range h0 hne
      have hd : (l.drop (pieceL enc l).2).length ≤ n := by rw [List.length_drop]; omega
      split
      · have h1 := ih (l.drop (pieceL enc l).2) [] hd
        have h2 := hj op
        have h3 : (escC (l.take (pieceL enc l).2)).length = 3 * (l.take (pieceL enc l).2).length := by unfold escC; rw [List.length_map]; exact escs_len _
        rw [List.length_take] at h3
        rw [List.length_drop] at h1
        simp only [List.length_append, List.length_nil] at *
        omega
      · have h1 := ih (l.drop (pieceL enc l).2) (op ++ [(pieceL enc l).1]) hd
        rw [List.length_drop] at h1
        simp only [List.length_append, List.length_cons, List.length_nil] at h1
        omega

/-- A name whose bytes, read back, are x. -/
def Reads (enc : Int) (b : ByteArray) (x : List UInt8) : Prop := ∃ rs, runesL b.data.toList = some rs ∧ b.size ≤ 4000 ∧ rs.length ≤ 1000 ∧ okD rs = true ∧ readC enc rs [] = some x ∧ x.length ≤ 4000
/-- What is presented is read back. -/
theorem reads_pres {enc : Int} (h0 : 0 ≤ enc) (l : List UInt8) (hl : l.length ≤ 300) : Reads enc ⟨(presL enc l).toArray⟩ l := by
  refine ⟨presC enc (decide (enc ≠ 8) || regL l) l.length l [], ?_, ?_, ?_, ok_presC _ _ _ _ (fun c hc => by cases hc), read_back h0 l, by omega⟩
  · show runesL (presL enc l) = _
    unfold presL
    rw [pres_join, runes_join, List.filter_eq_self.2]
    exact presC_isR h0 _ _ _ [] (fun x hx => by cases hx)
  · have := presL_len h0 l
    show (presL enc l).toArray.size ≤ 4000
    simp; omega
  · have := presC_len h0 (decide (enc ≠ 8) || regL l) l.length l [] (Nat.le_refl _)
    rw [List.length_nil] at this
    omega

set_option maxHeartbeats 2000000 in
set_option maxRecDepth 100000 in
/-- Restore of a name that is presented so. -/
theorem restore_yes (enc : Int) (h0 : 0 ≤ enc) (h8 : enc ≤ 8) (b : ByteArray) (x : List UInt8) (hr : Reads enc b x) (hg : goodB ⟨x.toArray⟩ = true) (hxs : x.length ≤ 300) (hp : presL enc x = b.data.toList) (w : World) (hT : Tabs w) :
    Calls Tryz.prog 36 #[.int .i64 enc, .string b] w fun e w' => e = .returned (.tuple #[.string ⟨x.toArray⟩, .int .i64 0]) ∧ Below w.heap.size w w' := by
  obtain ⟨rs, h1, h2, h3, h4, h5, h6⟩ := hr
  have cR := read4_c enc h0 h8 b rs h1 h2 h3 h4 x h5 h6 w hT
  have HG : Hid (∀ w1, Calls Tryz.prog 23 #[.string ⟨x.toArray⟩] w1 fun e w' => e = .returned (.bool true) ∧ Below w1.heap.size w1 w') := Lib.hid (fun w1 => by
    have := esGood_c ⟨x.toArray⟩ (by show x.toArray.size ≤ _; simp; omega) w1
    rw [hg] at this
    exact this)
  have HP : Hid (∀ w1, Below w.heap.size w w1 → Calls Tryz.prog 22 #[.int .i64 enc, .string ⟨x.toArray⟩] w1 fun e w' => e = .returned (.string b) ∧ Below w1.heap.size w1 w') := Lib.hid (fun w1 hb => by
    have := present_c enc h0 h8 ⟨x.toArray⟩ (by show x.toArray.size ≤ _; simp; omega) w1 (hT.step hb)
    rw [show (⟨x.toArray⟩ : ByteArray).data.toList = x from rfl, hp] at this
    exact this)
  generalize (⟨x.toArray⟩ : ByteArray) = X at *
  clear hT hg hp h0 h8 h1 h2 h3 h4 h5 h6 hxs
  go_enter Tryz.func36, Tryz.ntmps36
  go_wp2_with fail
  refine cR.mono ?_
  rintro e w1 ⟨rfl, hb1⟩
  have cG := HG.out w1
  go_wp2_with fail
  refine cG.mono ?_
  rintro e w2 ⟨rfl, hb2⟩
  have hb12 := below_step hb1 hb2
  have cP := HP.out w2 hb12
  go_wp2_with fail
  refine cP.mono ?_
  rintro e w3 ⟨rfl, hb3⟩
  have HB := Lib.hid (below_step hb12 hb3)
  clear hb1 hb2 hb12 hb3 cR cG cP
  go_wp2
  go_ret2
  exact ⟨rfl, HB.out⟩
end Go.Proofs.YtbbgnhbkjbobgaaGreatDoor
