/- Kit. -/
import Derived.Test.YtfioknaadbgjlaaGreatDoorProg
import Derived.Test.YtfioknaadbgjlaaGreatDoorEK1
import Derived.WalkKit
import Derived.WalkSpells
import Derived.Lib.Hide
import Derived.Test.YtfioknaadbgjlaaGreatDoorEK2
import Derived.Test.YtfioknaadbgjlaaGreatDoorEShelf
import Derived.IntWalk
import Derived.Laws.Runes
import Derived.Laws.RangeString
import Derived.LoopTactic
import Derived.Laws.Rows
import Derived.Laws.NewBlocks
import Derived.Below
import Derived.KernelRfl
import Derived.Deep.QuietTactic
import Derived.BigQuiet
import Derived.Deep.RegionHeld3
import Derived.Test.YtfioknaadbgjlaaGreatDoorEK5
import Derived.Deep.LoopGhost
import Derived.Handy
import Derived.ProofKit
import Derived.Lib.Builder
import Derived.Lib.AppendStr
import Derived.Lib.UnsafeStr
import Derived.Laws.Externs
import Derived.Shelf.RegionOpenPlain
import Derived.PlainAid
set_option maxRecDepth 100000
set_option linter.unusedVariables false
set_option linter.unusedSimpArgs false
namespace Go.Proofs.YtfioknaadbgjlaaGreatDoor.F
open Go.RowKit
set_option maxHeartbeats 400000 in
theorem validRune_c (r : Int) (w : World) :
    Calls Tryz.prog 173 #[.int .i32 r] w fun e w' => e = .returned (.bool (isR r)) ∧ w = w' := by
  by_cases h1 : 0 ≤ r
  · by_cases h2 : r < 55296
    · rw [isR_of (by omega)]
      go_enter Tryz.func173, Tryz.ntmps173
      go_wp2
      go_ret
      exact ⟨rfl, rfl⟩
    · by_cases h3 : 57343 < r
      · by_cases h4 : r ≤ 1114111
        · rw [isR_of (by omega)]
          go_enter Tryz.func173, Tryz.ntmps173
          go_wp2
          go_ret
          exact ⟨rfl, rfl⟩
        · rw [isR_not (by omega)]
          go_enter Tryz.func173, Tryz.ntmps173
          go_wp2
          go_ret
          exact ⟨rfl, rfl⟩
      · rw [isR_not (by omega)]
        go_enter Tryz.func173, Tryz.ntmps173
        go_wp2
        go_ret
        exact ⟨rfl, rfl⟩
  · have h3 : ¬ 57343 < r := by omega
    rw [isR_not (by omega)]
    go_enter Tryz.func173, Tryz.ntmps173
    go_wp2
    go_ret
    exact ⟨rfl, rfl⟩
theorem is_c (r : Int) (w : World) :
    Calls Tryz.prog 136 #[.int .i32 r] w fun e w' => e = .returned (.bool (isR r)) ∧ w = w' := by
  go_enter Tryz.func136, Tryz.ntmps136
  go_wp2_with (go_at_call 173; refine (validRune_c _ _).mono ?_; rintro e w' ⟨rfl, rfl⟩)
  go_ret
  exact ⟨rfl, rfl⟩
theorem bytes_c (r : Int) (w : World) :
    Calls Tryz.prog 98 #[.int .i32 r] w fun e w' => e = .returned (.string (bsOf r)) ∧ w = w' := by
  have hi := is_c r w
  by_cases h : isR r = true
  · have hb : bsOf r = Utf8.encode r := by unfold bsOf; rw [if_pos h]
    rw [hb]
    rw [h] at hi
    clear hb h
    go_enter Tryz.func98, Tryz.ntmps98
    go_wp2_with (go_at_call 136; refine hi.mono ?_; rintro e w' ⟨rfl, rfl⟩)
    go_ret
    exact ⟨rfl, rfl⟩
  · have h' : isR r = false := by simpa using h
    rw [bsOf_none h']
    rw [h'] at hi
    clear h h'
    go_enter Tryz.func98, Tryz.ntmps98
    go_wp2_with (go_at_call 136; refine hi.mono ?_; rintro e w' ⟨rfl, rfl⟩)
    go_ret
    exact ⟨rfl, rfl⟩
end Go.Proofs.YtfioknaadbgjlaaGreatDoor.F
namespace Go.Proofs.YtfioknaadbgjlaaGreatDoor.F
open Go.RowKit
def Tabs (w : World) : Prop := Lib.Utf8Tabs 2 3 w
theorem Tabs.below {B : Nat} {w w' : World} (h : Tabs w) (hB : 2 < B ∧ 3 < B) (hb : Below B w w') : Tabs w' :=
  ⟨fun c hc => by rw [hb.cell (p := ⟨_, c, none⟩) hB.1]; exact h.1 c hc,
   fun i hi => ⟨by rw [hb.cell (p := ⟨_, 2 * i, none⟩) hB.2]; exact (h.2 i hi).1, by rw [hb.cell (p := ⟨_, 2 * i + 1, none⟩) hB.2]; exact (h.2 i hi).2⟩⟩
theorem cell_lt {w : World} {b c : Nat} {v : Value} (h : w.cell? ⟨b, c, none⟩ = some v) : b < w.heap.size := by
  apply Decidable.byContradiction
  intro hn
  unfold World.cell? at h
  rw [Array.getElem?_eq_none (by show w.heap.size ≤ b; omega)] at h
  simp at h
theorem Tabs.lt {w : World} (h : Tabs w) : 2 < w.heap.size ∧ 3 < w.heap.size := ⟨cell_lt (h.1 0 (by omega)), cell_lt (h.2 0 (by omega)).1⟩
theorem Tabs.step {w w' : World} (h : Tabs w) (hb : Below w.heap.size w w') : Tabs w' := h.below h.lt hb
set_option maxHeartbeats 1000000 in
theorem next_c (b : ByteArray) (at' : Int) (hlo : -9223372036854775808 ≤ at') (hhi : at' ≤ 9223372036854775807) (hs : b.size ≤ 9223372036854775807) (w : World) (hT : Tabs w) :
    Calls Tryz.prog 167 #[.string b, .int .i64 at'] w fun e w' => e = .returned (.tuple #[.int .i32 (nextG b at').1, .int .i64 (nextG b at').2]) ∧ Below w.heap.size w w' := by
  by_cases h0 : at' < 0
  · rw [nextG_out (Or.inl h0)]
    clear hT
    go_enter Tryz.func167, Tryz.ntmps167
    go_wp2
    go_ret2
    exact ⟨rfl, Below.refl _ _⟩
  · by_cases h1 : (b.size : Int) ≤ at'
    · rw [nextG_out (Or.inr h1)]
      clear hT
      go_enter Tryz.func167, Tryz.ntmps167
      go_wp2
      go_ret2
      exact ⟨rfl, Below.refl _ _⟩
    · have hin : ¬ (at' < 0 ∨ (b.size : Int) ≤ at') := by omega
      obtain ⟨k, rfl⟩ : ∃ k : Nat, at' = (k : Int) := ⟨at'.toNat, by omega⟩
      have hk : k < b.size := by omega
      have hn : ((k : Int)).toNat = k := by omega
      have cD := Tryz.utf8_DecodeRuneInString (b.extract k b.size) w hT
      rw [decodeGo_ext b k hk] at cD
      by_cases hbad : (Utf8.decode b k).1 = 65533 ∧ (Utf8.decode b k).2 = 1
      · rw [nextG_bad hin (by rw [hn]; exact hbad)]
        rw [hbad.1, hbad.2] at cD
        clear hbad hin hn hT
        go_enter Tryz.func167, Tryz.ntmps167
        go_wp2_with (go_at_call 150; refine cD.mono ?_; rintro e w' ⟨rfl, hb⟩)
        go_ret2
        exact ⟨rfl, hb⟩
      · rw [nextG_good hin (by rw [hn]; exact hbad), hn]
        clear hin hn hT
        generalize (Utf8.decode b k).1 = R at *
        generalize (Utf8.decode b k).2 = K at *
        by_cases hR : R = 65533
        · subst hR
          have hK : ((K : Int) == 1) = false := by
            rw [beq_eq_false_iff_ne]; intro h; exact hbad ⟨rfl, by omega⟩
          clear hbad
          go_enter Tryz.func167, Tryz.ntmps167
          go_wp2_with (go_at_call 150; refine cD.mono ?_; rintro e w' ⟨rfl, hb⟩)
          go_ret2
          exact ⟨rfl, hb⟩
        · have hR' : ((R : Int) == 65533) = false := by
            rw [beq_eq_false_iff_ne]; intro h; exact hR (by omega)
          clear hbad hR
          go_enter Tryz.func167, Tryz.ntmps167
          go_wp2_with (go_at_call 150; refine cD.mono ?_; rintro e w' ⟨rfl, hb⟩)
          go_ret2
          exact ⟨rfl, hb⟩
end Go.Proofs.YtfioknaadbgjlaaGreatDoor.F
namespace Go.Proofs.YtfioknaadbgjlaaGreatDoor.F
open Go.RowKit
theorem at_round {b : ByteArray} {pos : Nat} {rest : List Int} (hp : pos < b.size) (hr : runesL (b.data.toList.drop pos) = some rest) :
    ∃ R K rest', Utf8.decode b pos = (R, K) ∧ rest = (R : Int) :: rest' ∧ 1 ≤ K ∧ pos + K ≤ b.size ∧ R ≤ 1114111 ∧ runesL (b.data.toList.drop (pos + K)) = some rest' := by
  have hz : b.data.toList.length = b.size := by simp
  have hne : b.data.toList.drop pos ≠ [] := by
    intro h
    have := congrArg List.length h
    rw [List.length_drop, List.length_nil] at this
    omega
  rw [runesL_step hne] at hr
  rcases nextL_facts (b.data.toList.drop pos) with h0 | ⟨_, hd, hR, h1, h4, hle, he⟩
  · rw [h0, if_pos rfl] at hr; cases hr
  · rw [if_neg (by omega), List.drop_drop] at hr
    obtain ⟨rest', h', rfl⟩ := Option.map_eq_some_iff.1 hr
    have hdd := Lib.decodeL_drop b pos
    rw [hd, hdd] at h1 hle hR h'
    rw [List.length_drop, hz] at hle
    have hi := isR_is hR
    exact ⟨(Utf8.decode b pos).1, (Utf8.decode b pos).2, rest', rfl, by rw [hd, hdd], h1, by omega, by omega, h'⟩
set_option maxHeartbeats 1000000 in
theorem at_c (f : Int) (b : ByteArray) (rs : List Int) (x : Int) (hr : runesL b.data.toList = some rs) (hs : b.size ≤ 4000) (hf : 0 ≤ f) (hf' : f ≤ 256) (hx : 0 ≤ x) (hx' : x ≤ 255) (w : World) :
    Calls Tryz.prog 169 #[.agg #[.int .i64 f, .string b], .int .u8 x] w fun e w' => e = .returned (.tuple #[.int .i32 ((atL rs (x - f)).getD 0), .bool (atL rs (x - f)).isSome]) ∧ Below w.heap.size w w' := by
  have HR := Lib.hid hr
  clear hr
  go_enter Tryz.func169, Tryz.ntmps169
  go_wp2
  obtain ⟨W0, hW0⟩ : ∃ W0, w.alloc (.cells #[.int .i64 f, .string b] 218) = W0 := ⟨_, rfl⟩
  rw [hW0]
  have hz0 : W0.heap.size = w.heap.size + 1 := by rw [← hW0]; simp
  have hb0 : ∀ p, Below w.heap.size w (W0.iter b p) := fun p => by rw [← hW0]; exact ((Below.refl _ _).alloc (Nat.le_refl _) _).alloc (by simp) _
  clear hW0
  go_loopw [6] (fun n w' => ∃ (pos : Nat) (a : Int) (rest : List Int), w' = W0.iter b pos ∧ n = .int .i64 a ∧ pos ≤ b.size ∧ a ≤ 255 ∧ -256 - (pos : Int) ≤ a ∧ runesL (b.data.toList.drop pos) = some rest ∧ atL rest a = atL rs (x - f)) (fun _ w' => b.size - w'.iterPos W0.heap.size)
  case atStart => exact ⟨0, x - f, rs, rfl, by go_num, by omega, by omega, by omega, by rw [List.drop_zero]; exact HR.out, rfl⟩
  case round =>
    obtain ⟨pos, a, rest, rfl, rfl, hp0, ha, ha', hrest, hat⟩ := hrel
    have HA := Lib.hid hat
    have HS := Lib.hid hrest
    clear hat hrest
    by_cases hp : pos < b.size
    · have hnx : ∀ ty, (Instr.next (.pointer (some ⟨w.heap.size + 1, 0, none⟩)) true ty).run Tryz.prog (W0.iter b pos) = _ := fun ty => hz0 ▸ run_next_any W0 b pos ty hp
      obtain ⟨R, K, rest', hd, hrr, hK, hK', hR, hr'⟩ := at_round hp HS.out
      rw [hd] at hnx
      have HR' := Lib.hid hr'
      clear hr' hd
      by_cases h0 : a = 0
      · subst h0
        by_cases h46 : (R : Int) = 46
        · have HX := Lib.hid (show atL rest' (-1) = atL rs (x - f) by rw [← HA.out, hrr]; show _ = (if _ then _ else _); rw [if_neg (by omega)]; rfl)
          clear hrr
          rw [h46] at hnx
          go_wp2
          go_roundw
          case rel => exact ⟨pos + K, -1, rest', rfl, rfl, by omega, by omega, by omega, HR'.out, HX.out⟩
          case measure => simp; omega
        · have HX := Lib.hid (show atL rs (x - f) = some (R : Int) by rw [← HA.out, hrr]; show (if _ then _ else _) = _; rw [if_pos ⟨rfl, h46⟩])
          have h46' : ((R : Int) == 46) = false := by rw [beq_eq_false_iff_ne]; exact h46
          clear hrr h46
          go_wp2
          go_ret2
          exact ⟨by rw [HX.out]; rfl, hb0 _⟩
      · have HX := Lib.hid (show atL rest' (a - 1) = atL rs (x - f) by rw [← HA.out, hrr]; show _ = (if _ then _ else _); rw [if_neg (by omega)])
        have h0' : (a == 0) = false := by rw [beq_eq_false_iff_ne]; exact h0
        clear hrr h0
        go_wp2
        go_roundw
        case rel => exact ⟨pos + K, a - 1, rest', rfl, by go_num, by omega, by omega, by omega, HR'.out, HX.out⟩
        case measure => simp; omega
    · have hnx : ∀ ty, (Instr.next (.pointer (some ⟨w.heap.size + 1, 0, none⟩)) true ty).run Tryz.prog (W0.iter b pos) = _ := fun ty => hz0 ▸ run_next_end W0 b pos ty hp
      have HX := Lib.hid (show atL rs (x - f) = none by
        have h1 := HS.out
        rw [List.drop_eq_nil_of_le (by simp; omega), runesL_nil] at h1
        cases h1
        rw [← HA.out]
        rfl)
      go_wp2
      go_ret2
      exact ⟨by rw [HX.out]; rfl, hb0 _⟩
end Go.Proofs.YtfioknaadbgjlaaGreatDoor.F
namespace Go.Proofs.YtfioknaadbgjlaaGreatDoor.F
open Go.RowKit
/-- What a row's value holds: where it begins, and a text of its characters. -/
def RowIs (v : Value) (f : Int) (l : List Int) : Prop := ∃ b : ByteArray, v = .agg #[.int .i64 f, .string b] ∧ b.data.toList = joinL l
def SinglePost (enc : Int) (w : World) (e : Ending) (w' : World) : Prop := ∃ v, e = .returned v ∧ RowIs v (singleF enc) (singleL enc) ∧ Below w.heap.size w w'
def DoublePost (enc x : Int) (w : World) (e : Ending) (w' : World) : Prop := ∃ v, e = .returned v ∧ RowIs v (doubleF enc x) (doubleL enc x) ∧ Below w.heap.size w w'
set_option maxHeartbeats 1000000 in
set_option maxRecDepth 100000 in
theorem single_c (enc : Int) (h0 : 0 ≤ enc) (h6 : enc ≤ 6) (w : World) : Calls Tryz.prog 199 #[.int .i64 enc] w (SinglePost enc w) := by
  obtain rfl | rfl | rfl | rfl | rfl | rfl | rfl : enc = 0 ∨ enc = 1 ∨ enc = 2 ∨ enc = 3 ∨ enc = 4 ∨ enc = 5 ∨ enc = 6 := by omega
  all_goals
    go_enter Tryz.func199, Tryz.ntmps199
    go_wp2
    refine bodyPost_ret (results_cell_row Tryz.results199 _ _ _ _ _ _ _ rfl (heap_alloc_new _ _) Tryz.underlying218 rfl (by kernel_rfl)) rfl ⟨_, rfl, ⟨_, rfl, by decide +kernel⟩, (Below.refl _ _).alloc (Nat.le_refl _) _⟩
set_option maxHeartbeats 1000000 in
set_option maxRecDepth 100000 in
theorem double_c (enc x : Int) (w : World) : Calls Tryz.prog 168 #[.int .i64 enc, .int .u8 x] w (DoublePost enc x w) := by
  by_cases h : enc = 6
  · subst h
    by_cases h1 : x = 130
    · subst h1
      go_enter Tryz.func168, Tryz.ntmps168
      go_wp2
      refine bodyPost_ret (results_cell_row Tryz.results168 _ _ _ _ _ _ _ rfl (heap_alloc_new _ _) Tryz.underlying218 rfl (by kernel_rfl)) rfl ⟨_, rfl, ⟨_, rfl, by decide +kernel⟩, (Below.refl _ _).alloc (Nat.le_refl _) _⟩
    · by_cases h2 : x = 131
      · subst h2
        clear h1
        go_enter Tryz.func168, Tryz.ntmps168
        go_wp2
        refine bodyPost_ret (results_cell_row Tryz.results168 _ _ _ _ _ _ _ rfl (heap_alloc_new _ _) Tryz.underlying218 rfl (by kernel_rfl)) rfl ⟨_, rfl, ⟨_, rfl, by decide +kernel⟩, (Below.refl _ _).alloc (Nat.le_refl _) _⟩
      · by_cases h3 : x = 132
        · subst h3
          clear h1 h2
          go_enter Tryz.func168, Tryz.ntmps168
          go_wp2
          refine bodyPost_ret (results_cell_row Tryz.results168 _ _ _ _ _ _ _ rfl (heap_alloc_new _ _) Tryz.underlying218 rfl (by kernel_rfl)) rfl ⟨_, rfl, ⟨_, rfl, by decide +kernel⟩, (Below.refl _ _).alloc (Nat.le_refl _) _⟩
        · have HX := Lib.hid (show doubleF 6 x = 0 ∧ doubleL 6 x = [] by
            unfold doubleF doubleL
            rw [if_neg (by omega), if_pos rfl, if_neg h1, if_neg h2, if_neg h3]
            exact ⟨rfl, rfl⟩)
          have e1 : (x == 130) = false := by rw [beq_eq_false_iff_ne]; exact h1
          have e2 : (x == 131) = false := by rw [beq_eq_false_iff_ne]; exact h2
          have e3 : (x == 132) = false := by rw [beq_eq_false_iff_ne]; exact h3
          clear h1 h2 h3
          go_enter Tryz.func168, Tryz.ntmps168
          go_wp2
          refine bodyPost_ret (results_cell_row Tryz.results168 _ _ _ _ _ _ _ rfl (heap_alloc_new _ _) Tryz.underlying218 rfl (by kernel_rfl)) rfl ⟨_, rfl, ⟨_, by rw [HX.out.1], by rw [HX.out.2]; rfl⟩, (Below.refl _ _).alloc (Nat.le_refl _) _⟩
  · have HX := Lib.hid (show doubleF enc x = 0 ∧ doubleL enc x = [] by
      unfold doubleF doubleL
      rw [if_neg (by rintro ⟨a, _⟩; exact h a), if_neg h]
      exact ⟨rfl, rfl⟩)
    have e1 : (enc == 6) = false := by rw [beq_eq_false_iff_ne]; exact h
    clear h
    go_enter Tryz.func168, Tryz.ntmps168
    go_wp2
    refine bodyPost_ret (results_cell_row Tryz.results168 _ _ _ _ _ _ _ rfl (heap_alloc_new _ _) Tryz.underlying218 rfl (by kernel_rfl)) rfl ⟨_, rfl, ⟨_, by rw [HX.out.1], by rw [HX.out.2]; rfl⟩, (Below.refl _ _).alloc (Nat.le_refl _) _⟩
end Go.Proofs.YtfioknaadbgjlaaGreatDoor.F
namespace Go.Proofs.YtfioknaadbgjlaaGreatDoor.F
open Go.RowKit
theorem row_runes {l : List Int} {b : ByteArray} (hl : l.filter isR = l) (hb : b.data.toList = joinL l) : runesL b.data.toList = some l := by rw [hb, runes_join, hl]
theorem row_size {l : List Int} {b : ByteArray} (hl : l.length ≤ 200) (hb : b.data.toList = joinL l) : b.size ≤ 4000 := by
  have h1 := joinL_length l
  have h2 : b.data.toList.length = b.size := by simp
  rw [hb] at h2
  omega
/-- What is answered for a character t, or -1. -/
def readR (t : Int) : Int := if 0 ≤ t then t else 0
def readB (t : Int) : Bool := decide (0 ≤ t)
theorem readR_at {l : List Int} (hl : l.filter isR = l) (k : Int) : (atL l k).getD 0 = readR ((atL l k).getD (-1)) := by
  cases h : atL l k with
  | none => rfl
  | some r =>
    have := isR_is (atL_isR hl h)
    unfold readR
    simp only [Option.getD_some]
    rw [if_pos (by omega)]
theorem readB_at {l : List Int} (hl : l.filter isR = l) (k : Int) : (atL l k).isSome = readB ((atL l k).getD (-1)) := by
  cases h : atL l k with
  | none => rfl
  | some r =>
    have := isR_is (atL_isR hl h)
    unfold readB
    simp only [Option.getD_some, Option.isSome_some]
    rw [decide_eq_true (by omega)]
theorem atRow_c {v : Value} {f : Int} {l : List Int} (hv : RowIs v f l) (hl : l.filter isR = l) (hn : l.length ≤ 200) (hf : 0 ≤ f) (hf' : f ≤ 256) (x : Int) (hx : 0 ≤ x) (hx' : x ≤ 255) (w : World) :
    Calls Tryz.prog 169 #[v, .int .u8 x] w fun e w' => e = .returned (.tuple #[.int .i32 (readR ((atL l (x - f)).getD (-1))), .bool (readB ((atL l (x - f)).getD (-1)))]) ∧ Below w.heap.size w w' := by
  obtain ⟨b, rfl, hb⟩ := hv
  rw [← readR_at hl, ← readB_at hl]
  exact at_c f b l x (row_runes hl hb) (row_size hn hb) hf hf' hx hx' w
def rowV (f : Int) (l : List Int) : Value := .agg #[.int .i64 f, .string ⟨(joinL l).toArray⟩]
theorem rowV_is (f : Int) (l : List Int) : RowIs (rowV f l) f l := ⟨_, rfl, rfl⟩
theorem RowIs.eq {v : Value} {f : Int} {l : List Int} (h : RowIs v f l) : v = rowV f l := by
  obtain ⟨b, rfl, hb⟩ := h
  unfold rowV
  rw [← hb]
theorem doubleV_c (enc x : Int) (w : World) : Calls Tryz.prog 168 #[.int .i64 enc, .int .u8 x] w fun e w' => e = .returned (rowV (doubleF enc x) (doubleL enc x)) ∧ Below w.heap.size w w' :=
  (double_c enc x w).mono fun e w' ⟨v, he, hv, hb⟩ => ⟨by rw [he, hv.eq], hb⟩
set_option maxHeartbeats 1000000 in
theorem readOne_c (enc x : Int) (h0 : 0 ≤ enc) (h6 : enc ≤ 6) (hx : 0 ≤ x) (hx' : x ≤ 255) (w : World) :
    Calls Tryz.prog 170 #[.int .i64 enc, .int .u8 x] w fun e w' => e = .returned (.tuple #[.int .i32 (readR (oneI enc x)), .bool (readB (oneI enc x))]) ∧ Below w.heap.size w w' := by
  rw [← oneP_eq h0 h6 hx hx']
  have cS := single_c enc h0 h6
  have hf := single_fit enc
  have hl := singleL_ok enc
  have cA := fun (v : Value) (hv : RowIs v (singleF enc) (singleL enc)) w => atRow_c hv hl.1 hl.2 hf.1 (by omega) x hx hx' w
  obtain ⟨F, hF⟩ : ∃ F, singleF enc = F := ⟨_, rfl⟩
  by_cases hlt : x < F
  · have HX := Lib.hid (show readR (oneP enc x) = x ∧ readB (oneP enc x) = true by
      have : oneP enc x = x := by unfold oneP; rw [hF, if_pos hlt]
      rw [this]
      exact ⟨by unfold readR; rw [if_pos hx], decide_eq_true hx⟩)
    clear cA hl
    have HF := Lib.hid hF
    clear hF
    go_enter Tryz.func170, Tryz.ntmps170
    go_wp2_with fail
    refine (cS _).mono ?_
    rintro e w1 ⟨v, rfl, ⟨b, rfl, hb⟩, hb1⟩
    rw [HF.out]
    clear hb
    go_wp2
    go_ret2
    exact ⟨by rw [HX.out.1, HX.out.2]; rfl, hb1.alloc hb1.size _⟩
  · have HX := Lib.hid (show oneP enc x = (atL (singleL enc) (x - F)).getD (-1) by unfold oneP; rw [hF, if_neg hlt])
    rw [hF] at cA
    have HF := Lib.hid hF
    clear hF hl
    go_enter Tryz.func170, Tryz.ntmps170
    go_wp2_with fail
    refine (cS _).mono ?_
    rintro e w1 ⟨v, rfl, hv, hb1⟩
    rw [HF.out] at hv
    have cA' := cA v hv
    obtain ⟨b, rfl, hb⟩ := hv
    clear hb cA
    go_wp2_with (go_at_call 169; refine (cA' _).mono ?_; rintro e w2 ⟨rfl, hb2⟩)
    go_ret2
    exact ⟨by rw [HX.out]; rfl, (hb1.alloc hb1.size _).trans (hb2.mono (by have := hb1.size; simp; omega))⟩
end Go.Proofs.YtfioknaadbgjlaaGreatDoor.F
namespace Go.Proofs.YtfioknaadbgjlaaGreatDoor.F
open Go.RowKit
def readL (enc : Int) (l : List UInt8) : Int × Int :=
  if 7 ≤ enc then (((nextL l).1 : Int), ((nextL l).2 : Int))
  else if enc = 6 ∧ 2 ≤ l.length ∧ 0 ≤ twoI (gB l 0) (gB l 1) then (twoI (gB l 0) (gB l 1), 2)
  else if 0 ≤ oneI enc (gB l 0) then (oneI enc (gB l 0), 1) else (0, 0)
/-- The piece at the head, said by what is read. -/
theorem piece_read {enc : Int} {l : List UInt8} (h0 : 0 ≤ enc) (hne : l ≠ []) : (((readL enc l).2 = 0 ∧ ((pieceL enc l).1, ((pieceL enc l).2 : Int)) = (-1, 1)) ∨ ((readL enc l).2 ≠ 0 ∧ ((pieceL enc l).1, ((pieceL enc l).2 : Int)) = readL enc l)) := by
  unfold readL pieceL
  by_cases h7 : 7 ≤ enc
  · simp only [if_pos h7]
    by_cases hz : (nextL l).2 = 0
    · left; rw [hz, if_pos rfl]; exact ⟨rfl, rfl⟩
    · right; rw [if_neg hz]; exact ⟨by omega, rfl⟩
  · simp only [if_neg h7]
    by_cases h2 : enc = 6 ∧ 2 ≤ l.length ∧ 0 ≤ twoI (gB l 0) (gB l 1)
    · right; rw [if_pos h2, if_pos h2]; exact ⟨by show (2 : Int) ≠ 0; decide, Prod.ext rfl rfl⟩
    · rw [if_neg h2, if_neg h2]
      have hb := gB_lt l 0
      have hO := oneI_ok (enc := enc) (b := gB l 0) h0 (by omega) (by omega) (by omega)
      generalize oneI enc (gB l 0) = t at *
      by_cases hp : 0 ≤ t
      · right; rw [if_pos hp]; exact ⟨by show (1 : Int) ≠ 0; decide, Prod.ext rfl rfl⟩
      · left; rw [if_neg hp]; exact ⟨rfl, Prod.ext (by show t = -1; omega) rfl⟩
theorem isUTF_c (enc : Int) (w : World) : Calls Tryz.prog 166 #[.int .i64 enc] w fun e w' => e = .returned (.bool (decide (enc = 7 ∨ enc = 8))) ∧ w = w' := by
  by_cases h7 : enc = 7
  · subst h7
    go_enter Tryz.func166, Tryz.ntmps166
    go_wp2
    go_ret
    exact ⟨rfl, rfl⟩
  · have e7 : (enc == 7) = false := by rw [beq_eq_false_iff_ne]; exact h7
    by_cases h8 : enc = 8
    · subst h8
      go_enter Tryz.func166, Tryz.ntmps166
      go_wp2
      go_ret
      exact ⟨rfl, rfl⟩
    · have e8 : (enc == 8) = false := by rw [beq_eq_false_iff_ne]; exact h8
      have HX := Lib.hid (show decide (enc = 7 ∨ enc = 8) = false from decide_eq_false (by omega))
      clear h7 h8
      go_enter Tryz.func166, Tryz.ntmps166
      go_wp2
      go_ret
      exact ⟨by rw [HX.out]; rfl, rfl⟩
set_option maxHeartbeats 1000000 in
theorem read_utf (enc : Int) (h7 : 7 ≤ enc) (h8 : enc ≤ 8) (s : ByteArray) (hs : 0 < s.size) (hs' : s.size ≤ 9223372036854775807) (w : World) (hT : Tabs w) :
    Calls Tryz.prog 132 #[.int .i64 enc, .string s] w fun e w' => e = .returned (.tuple #[.int .i32 (readL enc s.data.toList).1, .int .i64 (readL enc s.data.toList).2]) ∧ Below w.heap.size w w' := by
  have cU := isUTF_c enc
  rw [decide_eq_true (show enc = 7 ∨ enc = 8 by omega)] at cU
  have cN := next_c s 0 (by omega) (by omega) hs' w hT
  have hg := nextG_L (b := s) (k := 0) hs
  rw [List.drop_zero] at hg
  rw [show (0 : Int) = ((0 : Nat) : Int) from rfl, hg] at cN
  have HX := Lib.hid (show readL enc s.data.toList = (((nextL s.data.toList).1 : Int), ((nextL s.data.toList).2 : Int)) by unfold readL; rw [if_pos h7])
  generalize nextL s.data.toList = d at *
  obtain ⟨d1, d2⟩ := d
  clear hg hT hs hs' h7 h8
  go_enter Tryz.func132, Tryz.ntmps132
  go_wp2_with (first | (go_at_call 166; refine (cU _).mono ?_; rintro e w' ⟨rfl, rfl⟩) | (go_at_call 167; refine cN.mono ?_; rintro e w1 ⟨rfl, hb1⟩))
  go_ret2
  exact ⟨by rw [HX.out]; rfl, hb1⟩
set_option maxHeartbeats 1000000 in
theorem read_one (enc : Int) (h0 : 0 ≤ enc) (h6 : enc ≤ 6) (s : ByteArray) (hs : s.size = 1) (w : World) :
    Calls Tryz.prog 132 #[.int .i64 enc, .string s] w fun e w' => e = .returned (.tuple #[.int .i32 (readL enc s.data.toList).1, .int .i64 (readL enc s.data.toList).2]) ∧ Below w.heap.size w w' := by
  have cU := isUTF_c enc
  rw [decide_eq_false (show ¬ (enc = 7 ∨ enc = 8) by omega)] at cU
  have hB := Go.PlainAid.get_bt s
  have hg0 : (gB s.data.toList 0 : Int) = Go.PlainAid.bt s 0 := by have := gB_bt s 0 0; rwa [List.drop_zero] at this
  have g0 := Go.PlainAid.bt_nonneg s 0
  have g1 := Go.PlainAid.bt_le s 0
  have hl : s.data.toList.length = s.size := by simp
  obtain ⟨x, hx⟩ : ∃ x : Int, Go.PlainAid.bt s 0 = x := ⟨_, rfl⟩
  rw [hx] at g0 g1 hg0
  have cO := fun w => readOne_c enc x h0 h6 g0 g1 w
  have HX := Lib.hid (show readL enc s.data.toList = if 0 ≤ oneI enc x then (oneI enc x, 1) else (0, 0) by
    unfold readL
    rw [if_neg (by omega), if_neg (by rintro ⟨_, h, _⟩; omega), hg0])
  have hsz : (s.size : Int) = 1 := by omega
  generalize oneI enc x = t at *
  have hlt : 0 < s.size := by omega
  clear hg0 hl h0 h6
  by_cases ht : 0 ≤ t
  · rw [if_pos ht] at HX
    have eR : readR t = t := by unfold readR; rw [if_pos ht]
    have eB : readB t = true := decide_eq_true ht
    rw [eR, eB] at cO
    clear eR eB
    go_enter Tryz.func132, Tryz.ntmps132
    go_wp2_with (first | (go_at_call 166; refine (cU _).mono ?_; rintro e w' ⟨rfl, rfl⟩) | (go_at_call 170; refine (cO _).mono ?_; rintro e w1 ⟨rfl, hb1⟩))
    go_ret2
    exact ⟨by rw [HX.out]; rfl, hb1⟩
  · rw [if_neg ht] at HX
    have eB : readB t = false := decide_eq_false ht
    rw [eB] at cO
    clear eB
    go_enter Tryz.func132, Tryz.ntmps132
    go_wp2_with (first | (go_at_call 166; refine (cU _).mono ?_; rintro e w' ⟨rfl, rfl⟩) | (go_at_call 170; refine (cO _).mono ?_; rintro e w1 ⟨rfl, hb1⟩))
    go_ret2
    exact ⟨by rw [HX.out]; rfl, hb1⟩
set_option maxHeartbeats 2000000 in
theorem read_two (enc : Int) (h0 : 0 ≤ enc) (h6 : enc ≤ 6) (s : ByteArray) (hs : 1 < s.size) (hs' : s.size ≤ 9223372036854775807) (w : World) :
    Calls Tryz.prog 132 #[.int .i64 enc, .string s] w fun e w' => e = .returned (.tuple #[.int .i32 (readL enc s.data.toList).1, .int .i64 (readL enc s.data.toList).2]) ∧ Below w.heap.size w w' := by
  have cU := isUTF_c enc
  rw [decide_eq_false (show ¬ (enc = 7 ∨ enc = 8) by omega)] at cU
  have hB := Go.PlainAid.get_bt s
  have hg0 : (gB s.data.toList 0 : Int) = Go.PlainAid.bt s 0 := by have := gB_bt s 0 0; rwa [List.drop_zero] at this
  have hg1 : (gB s.data.toList 1 : Int) = Go.PlainAid.bt s 1 := by have := gB_bt s 0 1; rwa [List.drop_zero] at this
  have g0 := Go.PlainAid.bt_nonneg s 0
  have g1 := Go.PlainAid.bt_le s 0
  have g2 := Go.PlainAid.bt_nonneg s 1
  have g3 := Go.PlainAid.bt_le s 1
  have hl : s.data.toList.length = s.size := by simp
  obtain ⟨x, hx⟩ : ∃ x : Int, Go.PlainAid.bt s 0 = x := ⟨_, rfl⟩
  obtain ⟨y, hy⟩ : ∃ y : Int, Go.PlainAid.bt s 1 = y := ⟨_, rfl⟩
  rw [hx] at g0 g1 hg0
  rw [hy] at g2 g3 hg1
  have cD := fun w => doubleV_c enc x w
  have hdf := double_fit enc x
  have hdl := doubleL_ok enc x
  have cA := fun w => atRow_c (rowV_is (doubleF enc x) (doubleL enc x)) hdl.1 hdl.2 hdf.1 (by omega) y g2 g3 w
  have hT : (atL (doubleL enc x) (y - doubleF enc x)).getD (-1) = if enc = 6 then twoI x y else -1 := by
    by_cases he : enc = 6
    · subst he; rw [if_pos rfl, ← twoP_eq g2 g3]; rfl
    · rw [if_neg he]; unfold doubleL; rw [if_neg he]; rfl
  have cO := fun w => readOne_c enc x h0 h6 g0 g1 w
  have HX := Lib.hid (show readL enc s.data.toList = if 0 ≤ (if enc = 6 then twoI x y else -1) then ((if enc = 6 then twoI x y else -1), 2) else if 0 ≤ oneI enc x then (oneI enc x, 1) else (0, 0) by
    unfold readL
    rw [if_neg (by omega), hg0, hg1, hl]
    by_cases he : enc = 6
    · simp only [he, true_and, if_true]
      by_cases ht : 0 ≤ twoI x y
      · rw [if_pos ⟨hs, ht⟩, if_pos ht]
      · rw [if_neg (fun h => ht h.2), if_neg ht]
    · rw [if_neg (fun h => he h.1), if_neg he, if_neg (show ¬ (0 : Int) ≤ -1 by decide)])
  rw [hT] at cA
  generalize (if enc = 6 then twoI x y else -1) = u at *
  generalize oneI enc x = t at *
  generalize rowV (doubleF enc x) (doubleL enc x) = R at *
  clear hT hg0 hg1 hl h0 h6 hdf hdl
  have hlt0 : 0 < s.size := by omega
  have hsz : (1 : Int) < (s.size : Int) := by omega
  have hsz' : (s.size : Int) ≤ 9223372036854775807 := by omega
  by_cases hu : 0 ≤ u
  · rw [if_pos hu] at HX
    have eR : readR u = u := by unfold readR; rw [if_pos hu]
    have eB : readB u = true := decide_eq_true hu
    rw [eR, eB] at cA
    clear eR eB cO hu
    go_enter Tryz.func132, Tryz.ntmps132
    go_wp2_with (go_at_call 166; refine (cU _).mono ?_; rintro e w' ⟨rfl, rfl⟩)
    go_region_held3 (fun w' => Below w.heap.size w w') (first | assumption | exact (Below.refl _ _).drew | exact Below.drew ‹_› | exact below_step ‹_› ‹_›) (first | (go_at_call 168; refine (cD _).mono ?_; rintro e w' ⟨rfl, hb⟩) | (go_at_call 169; refine (cA _).mono ?_; rintro e w' ⟨rfl, hb⟩))
    all_goals
      go_wp2
      go_ret2
      exact ⟨by rw [HX.out]; rfl, by assumption⟩
  · rw [if_neg hu] at HX
    have eB : readB u = false := decide_eq_false hu
    rw [eB] at cA
    generalize readR u = ru at *
    clear eB hu
    by_cases ht : 0 ≤ t
    · rw [if_pos ht] at HX
      have eR : readR t = t := by unfold readR; rw [if_pos ht]
      have eB : readB t = true := decide_eq_true ht
      rw [eR, eB] at cO
      clear eR eB ht
      go_enter Tryz.func132, Tryz.ntmps132
      go_wp2_with (go_at_call 166; refine (cU _).mono ?_; rintro e w' ⟨rfl, rfl⟩)
      go_region_held3 (fun w' => Below w.heap.size w w') (first | assumption | exact (Below.refl _ _).drew | exact Below.drew ‹_› | exact below_step ‹_› ‹_›) (first | (go_at_call 168; refine (cD _).mono ?_; rintro e w' ⟨rfl, hb⟩) | (go_at_call 169; refine (cA _).mono ?_; rintro e w' ⟨rfl, hb⟩))
      all_goals
        go_wp2_with (go_at_call 170; refine (cO _).mono ?_; rintro e w1 ⟨rfl, hb1⟩)
        go_ret2
        exact ⟨by rw [HX.out]; rfl, below_step ‹_› hb1⟩
    · rw [if_neg ht] at HX
      have eB : readB t = false := decide_eq_false ht
      rw [eB] at cO
      generalize readR t = rt at *
      clear eB ht
      go_enter Tryz.func132, Tryz.ntmps132
      go_wp2_with (go_at_call 166; refine (cU _).mono ?_; rintro e w' ⟨rfl, rfl⟩)
      go_region_held3 (fun w' => Below w.heap.size w w') (first | assumption | exact (Below.refl _ _).drew | exact Below.drew ‹_› | exact below_step ‹_› ‹_›) (first | (go_at_call 168; refine (cD _).mono ?_; rintro e w' ⟨rfl, hb⟩) | (go_at_call 169; refine (cA _).mono ?_; rintro e w' ⟨rfl, hb⟩))
      all_goals
        go_wp2_with (go_at_call 170; refine (cO _).mono ?_; rintro e w1 ⟨rfl, hb1⟩)
        go_ret2
        exact ⟨by rw [HX.out]; rfl, below_step ‹_› hb1⟩
theorem read_c (enc : Int) (h0 : 0 ≤ enc) (h8 : enc ≤ 8) (s : ByteArray) (hs : 0 < s.size) (hs' : s.size ≤ 9223372036854775807) (w : World) (hT : Tabs w) :
    Calls Tryz.prog 132 #[.int .i64 enc, .string s] w fun e w' => e = .returned (.tuple #[.int .i32 (readL enc s.data.toList).1, .int .i64 (readL enc s.data.toList).2]) ∧ Below w.heap.size w w' := by
  by_cases h7 : 7 ≤ enc
  · exact read_utf enc h7 h8 s hs hs' w hT
  · by_cases h1 : s.size = 1
    · exact read_one enc h0 (by omega) s h1 w
    · exact read_two enc h0 (by omega) s (by omega) hs' w
end Go.Proofs.YtfioknaadbgjlaaGreatDoor.F
namespace Go.Proofs.YtfioknaadbgjlaaGreatDoor.F
open Go.RowKit
theorem right_c (enc : Int) (w : World) : Calls Tryz.prog 93 #[.int .i64 enc] w fun e w' => e = .returned (.bool (decide (0 ≤ enc ∧ enc ≤ 8))) ∧ w = w' := by
  by_cases h0 : 0 ≤ enc
  · by_cases h8 : enc ≤ 8
    · rw [decide_eq_true ⟨h0, h8⟩]
      go_enter Tryz.func93, Tryz.ntmps93
      go_wp2
      go_ret
      exact ⟨rfl, rfl⟩
    · rw [decide_eq_false (fun h => h8 h.2)]
      go_enter Tryz.func93, Tryz.ntmps93
      go_wp2
      go_ret
      exact ⟨rfl, rfl⟩
  · rw [decide_eq_false (fun h => h0 h.1)]
    go_enter Tryz.func93, Tryz.ntmps93
    go_wp2
    go_ret
    exact ⟨rfl, rfl⟩
/-- The piece at a place of bytes, zero where there is none. -/
def pieceZ (enc : Int) (b : ByteArray) (k : Int) : Int × Int :=
  if 0 ≤ enc ∧ enc ≤ 8 ∧ 0 ≤ k ∧ k < b.size then ((pieceL enc (b.data.toList.drop k.toNat)).1, ((pieceL enc (b.data.toList.drop k.toNat)).2 : Int)) else (0, 0)
theorem pieceZ_in {enc : Int} {b : ByteArray} {k : Nat} (h0 : 0 ≤ enc) (h8 : enc ≤ 8) (hk : k < b.size) : pieceZ enc b k = ((pieceL enc (b.data.toList.drop k)).1, ((pieceL enc (b.data.toList.drop k)).2 : Int)) := by
  unfold pieceZ
  rw [if_pos ⟨h0, h8, by omega, by omega⟩, show ((k : Int)).toNat = k by omega]
theorem pieceZ_out {enc : Int} {b : ByteArray} {k : Int} (h : ¬ (0 ≤ enc ∧ enc ≤ 8 ∧ 0 ≤ k ∧ k < b.size)) : pieceZ enc b k = (0, 0) := by
  unfold pieceZ
  rw [if_neg h]
theorem ext_drop (b : ByteArray) (k : Nat) : (b.extract k b.size).data.toList = b.data.toList.drop k := by
  rw [ByteArray.data_extract, Array.toList_extract]
  simp only [List.extract_eq_take_drop]
  rw [List.take_of_length_le (by simp)]
def pieceV (p : Int × Int) : Value := .agg #[.int .i32 p.1, .int .i64 p.2]
set_option maxHeartbeats 1000000 in
theorem next2_c (enc : Int) (b : ByteArray) (k : Int) (hlo : -9223372036854775808 ≤ k) (hhi : k ≤ 9223372036854775807) (hs : b.size ≤ 9223372036854775807) (w : World) (hT : Tabs w) :
    Calls Tryz.prog 94 #[.int .i64 enc, .string b, .int .i64 k] w fun e w' => e = .returned (pieceV (pieceZ enc b k)) ∧ Below w.heap.size w w' := by
  have cR := right_c enc
  by_cases he : 0 ≤ enc ∧ enc ≤ 8
  · rw [decide_eq_true he] at cR
    by_cases h0 : k < 0
    · have HX := Lib.hid (show pieceZ enc b k = (0, 0) from pieceZ_out (by omega))
      clear hT
      go_enter Tryz.func94, Tryz.ntmps94
      go_wp2_with (go_at_call 93; refine (cR _).mono ?_; rintro e w' ⟨rfl, rfl⟩)
      refine bodyPost_ret (results_cell_row Tryz.results94 _ _ _ _ _ _ _ rfl (heap_alloc_new _ _) Tryz.underlying155 rfl (by kernel_rfl)) rfl ⟨by rw [HX.out]; rfl, (Below.refl _ _).alloc (Nat.le_refl _) _⟩
    · by_cases h1 : (b.size : Int) ≤ k
      · have HX := Lib.hid (show pieceZ enc b k = (0, 0) from pieceZ_out (by omega))
        clear hT
        go_enter Tryz.func94, Tryz.ntmps94
        go_wp2_with (go_at_call 93; refine (cR _).mono ?_; rintro e w' ⟨rfl, rfl⟩)
        refine bodyPost_ret (results_cell_row Tryz.results94 _ _ _ _ _ _ _ rfl (heap_alloc_new _ _) Tryz.underlying155 rfl (by kernel_rfl)) rfl ⟨by rw [HX.out]; rfl, (Below.refl _ _).alloc (Nat.le_refl _) _⟩
      · obtain ⟨n, rfl⟩ : ∃ n : Nat, k = (n : Int) := ⟨k.toNat, by omega⟩
        have hn : n < b.size := by omega
        have hne : b.data.toList.drop n ≠ [] := by
          intro h
          have := congrArg List.length h
          have hz : b.data.toList.length = b.size := by simp
          rw [List.length_drop, List.length_nil] at this
          omega
        have hp := piece_read (enc := enc) he.1 hne
        have hx := pieceZ_in (b := b) he.1 he.2 hn
        have cD := fun w hT => read_c enc he.1 he.2 (b.extract n b.size) (by rw [ByteArray.size_extract]; omega) (by rw [ByteArray.size_extract]; omega) w hT
        simp only [ext_drop] at cD
        have hT1 : ∀ o, Tabs (w.alloc o) := fun o => hT.step ((Below.refl _ _).alloc (Nat.le_refl _) _)
        generalize readL enc (b.data.toList.drop n) = d at *
        obtain ⟨R, K⟩ := d
        have hsz0 : ∀ o, (w.alloc o).heap.size = w.heap.size + 1 := fun o => by simp
        by_cases hK : K = 0
        · subst hK
          have HX := Lib.hid (show pieceZ enc b n = (-1, 1) by
            rcases hp with ⟨_, h⟩ | ⟨h, _⟩
            · rw [hx, h]
            · exact absurd rfl h)
          clear hp hx hne hT
          go_enter Tryz.func94, Tryz.ntmps94
          go_wp2_with (first | (go_at_call 93; refine (cR _).mono ?_; rintro e w' ⟨rfl, rfl⟩))
          refine (cD _ (hT1 _)).mono ?_
          rintro e w1 ⟨rfl, hb1'⟩
          have hb1 : Below (w.heap.size + 1) (w.alloc (Obj.cells #[Value.int IntKind.i32 0, Value.int IntKind.i64 0] 155)) w1 := by first | exact hb1' | simpa using hb1'
          clear hb1'
          have hlt : w.heap.size < w1.heap.size := by have := hb1.size; simp at this; omega
          have hB : Below w.heap.size w w1 := ((Below.refl _ w).alloc (Nat.le_refl _) _).trans (hb1.mono (by omega))
          have q0 : w1.cell? ⟨w.heap.size, 0, none⟩ = some (.int .i32 0) := (hb1.cell (p := ⟨w.heap.size, 0, none⟩) (by simp)).trans (by simp)
          have q1 : w1.cell? ⟨w.heap.size, 1, none⟩ = some (.int .i64 0) := (hb1.cell (p := ⟨w.heap.size, 1, none⟩) (by simp)).trans (by simp)
          have z0 : w1.frozen? ⟨w.heap.size, 0, none⟩ = false := (hb1.frozen (p := ⟨w.heap.size, 0, none⟩) (by simp)).trans (by simp)
          have z1 : w1.frozen? ⟨w.heap.size, 1, none⟩ = false := (hb1.frozen (p := ⟨w.heap.size, 1, none⟩) (by simp)).trans (by simp)
          clear hb1
          go_wp2
          refine bodyPost_ret (v := .agg #[.int .i32 (-1), .int .i64 1]) (by simp [results, Tryz.results94, go_sem, q0, q1]) rfl ⟨by rw [HX.out]; rfl, (hB.setCell (Nat.le_refl _) _).setCell (Nat.le_refl _) _⟩
        · have HX := Lib.hid (show pieceZ enc b n = (R, K) by
            rcases hp with ⟨h, _⟩ | ⟨_, h⟩
            · exact absurd h hK
            · rw [hx, h])
          have hK' : (K == 0) = false := by rw [beq_eq_false_iff_ne]; exact hK
          clear hp hx hne hT hK
          go_enter Tryz.func94, Tryz.ntmps94
          go_wp2_with (first | (go_at_call 93; refine (cR _).mono ?_; rintro e w' ⟨rfl, rfl⟩))
          refine (cD _ (hT1 _)).mono ?_
          rintro e w1 ⟨rfl, hb1'⟩
          have hb1 : Below (w.heap.size + 1) (w.alloc (Obj.cells #[Value.int IntKind.i32 0, Value.int IntKind.i64 0] 155)) w1 := by first | exact hb1' | simpa using hb1'
          clear hb1'
          have hlt : w.heap.size < w1.heap.size := by have := hb1.size; simp at this; omega
          have hB : Below w.heap.size w w1 := ((Below.refl _ w).alloc (Nat.le_refl _) _).trans (hb1.mono (by omega))
          have q0 : w1.cell? ⟨w.heap.size, 0, none⟩ = some (.int .i32 0) := (hb1.cell (p := ⟨w.heap.size, 0, none⟩) (by simp)).trans (by simp)
          have q1 : w1.cell? ⟨w.heap.size, 1, none⟩ = some (.int .i64 0) := (hb1.cell (p := ⟨w.heap.size, 1, none⟩) (by simp)).trans (by simp)
          have z0 : w1.frozen? ⟨w.heap.size, 0, none⟩ = false := (hb1.frozen (p := ⟨w.heap.size, 0, none⟩) (by simp)).trans (by simp)
          have z1 : w1.frozen? ⟨w.heap.size, 1, none⟩ = false := (hb1.frozen (p := ⟨w.heap.size, 1, none⟩) (by simp)).trans (by simp)
          clear hb1
          go_wp2
          refine bodyPost_ret (v := .agg #[.int .i32 R, .int .i64 K]) (by simp [results, Tryz.results94, go_sem, q0, q1]) rfl ⟨by rw [HX.out]; rfl, (hB.setCell (Nat.le_refl _) _).setCell (Nat.le_refl _) _⟩
  · rw [decide_eq_false he] at cR
    have HX := Lib.hid (show pieceZ enc b k = (0, 0) from pieceZ_out (by omega))
    clear hT
    go_enter Tryz.func94, Tryz.ntmps94
    go_wp2_with (go_at_call 93; refine (cR _).mono ?_; rintro e w' ⟨rfl, rfl⟩)
    refine bodyPost_ret (results_cell_row Tryz.results94 _ _ _ _ _ _ _ rfl (heap_alloc_new _ _) Tryz.underlying155 rfl (by kernel_rfl)) rfl ⟨by rw [HX.out]; rfl, (Below.refl _ _).alloc (Nat.le_refl _) _⟩
end Go.Proofs.YtfioknaadbgjlaaGreatDoor.F
namespace Go.Proofs.YtfioknaadbgjlaaGreatDoor.F
open Go.RowKit
theorem pieceL_range {enc : Int} {l : List UInt8} (h0 : 0 ≤ enc) (hne : l ≠ []) : -1 ≤ (pieceL enc l).1 ∧ (pieceL enc l).1 ≤ 1114111 ∧ 1 ≤ (pieceL enc l).2 ∧ (pieceL enc l).2 ≤ l.length := by
  have hlp : 0 < l.length := List.length_pos_iff.2 hne
  rcases piece_enc h0 hne with ⟨h1, h2⟩ | ⟨h1, h2, h3, h4⟩
  · omega
  · have hr : isR (pieceL enc l).1 = true := by
      apply Decidable.byContradiction
      intro hn
      unfold encB encI at h4
      rw [if_pos (by simpa using hn)] at h4
      cases h4
    have := isR_is hr
    omega
end Go.Proofs.YtfioknaadbgjlaaGreatDoor.F
namespace Go.Proofs.YtfioknaadbgjlaaGreatDoor.F
open Go.RowKit
def piecesGo (enc : Int) : Nat → List UInt8 → List (Int × Nat)
  | 0, _ => []
  | n + 1, l => if l = [] then [] else pieceL enc l :: piecesGo enc n (l.drop (pieceL enc l).2)
def piecesL (enc : Int) (l : List UInt8) : List (Int × Nat) := piecesGo enc l.length l
theorem piecesGo_more {enc : Int} (h0 : 0 ≤ enc) : ∀ (n m : Nat) (l : List UInt8), l.length ≤ n → n ≤ m → piecesGo enc m l = piecesGo enc n l
  | 0, 0, l, h, _ => rfl
  | 0, m + 1, l, h, _ => by
    have : l = [] := List.eq_nil_of_length_eq_zero (by omega)
    subst this
    rfl
  | n + 1, 0, l, h, h' => by omega
  | n + 1, m + 1, l, h, h' => by
    simp only [piecesGo]
    by_cases hne : l = []
    · rw [if_pos hne, if_pos hne]
    · rw [if_neg hne, if_neg hne]
      have h1 := (pieceL_range h0 hne).2.2.1
      have h2 : 0 < l.length := List.length_pos_iff.2 hne
      rw [piecesGo_more h0 n m _ (by rw [List.length_drop]; omega) (by omega)]
theorem piecesL_nil (enc : Int) : piecesL enc [] = [] := rfl
theorem piecesL_step {enc : Int} (h0 : 0 ≤ enc) {l : List UInt8} (hne : l ≠ []) : piecesL enc l = pieceL enc l :: piecesL enc (l.drop (pieceL enc l).2) := by
  have hl : 0 < l.length := List.length_pos_iff.2 hne
  have h1 := (pieceL_range h0 hne).2.2.1
  obtain ⟨n, hn⟩ : ∃ n, l.length = n + 1 := ⟨l.length - 1, by omega⟩
  unfold piecesL
  rw [hn]
  simp only [piecesGo]
  rw [if_neg hne, piecesGo_more h0 (l.drop (pieceL enc l).2).length n _ (Nat.le_refl _) (by rw [List.length_drop]; omega)]
def cellsP (ps : List (Int × Nat)) : List Value := ps.flatMap fun p => [.int .i32 p.1, .int .i64 p.2]
theorem cellsP_snoc (ps : List (Int × Nat)) (p : Int × Nat) : cellsP (ps ++ [p]) = cellsP ps ++ [.int .i32 p.1, .int .i64 p.2] := by
  simp [cellsP]
theorem cellsP_at : ∀ (ps : List (Int × Nat)) (j : Nat) (hj : j < ps.length), (cellsP ps)[j * 2]? = some (.int .i32 ps[j].1) ∧ (cellsP ps)[j * 2 + 1]? = some (.int .i64 ps[j].2)
  | [], j, hj => by simp at hj
  | p :: ps, 0, _ => by simp [cellsP]
  | p :: ps, j + 1, hj => by
    have h := cellsP_at ps j (by simpa using hj)
    have e : cellsP (p :: ps) = .int .i32 p.1 :: .int .i64 p.2 :: cellsP ps := rfl
    rw [e, show (j + 1) * 2 = j * 2 + 1 + 1 by omega]
    simpa using h
/-- The slice v holds the pieces ps. -/
def PiecesIs (w : World) (v : Value) (ps : List (Int × Nat)) : Prop :=
  (ps = [] ∧ ∃ a cap, v = .slice a 0 cap) ∨
  (∃ g cap, g < w.heap.size ∧ v = .slice (some ⟨g, 0, none⟩) ps.length cap ∧ ∀ j (hj : j < ps.length), w.cell? ⟨g, j * 2, none⟩ = some (.int .i32 ps[j].1) ∧ w.cell? ⟨g, j * 2 + 1, none⟩ = some (.int .i64 ps[j].2))
theorem PiecesIs.kept {w w' : World} {v : Value} {l : List (Int × Nat)} (h : PiecesIs w v l) (hb : Below w.heap.size w w') : PiecesIs w' v l := by
  rcases h with h | ⟨g, cap, hg, hv, hc⟩
  · exact Or.inl h
  · exact Or.inr ⟨g, cap, by have := hb.size; omega, hv, fun j hj => ⟨by rw [hb.cell (p := ⟨g, j * 2, none⟩) hg]; exact (hc j hj).1, by rw [hb.cell (p := ⟨g, j * 2 + 1, none⟩) hg]; exact (hc j hj).2⟩⟩
theorem PiecesIs.len {w : World} {v : Value} {l : List (Int × Nat)} (h : PiecesIs w v l) : ∃ a cap, v = .slice a l.length cap := by
  rcases h with ⟨rfl, a, cap, hv⟩ | ⟨g, cap, hg, hv, hc⟩
  · exact ⟨a, cap, hv⟩
  · exact ⟨_, cap, hv⟩
theorem PiecesIs.own {w : World} {base e : Nat} {v : Value} {l : List (Int × Nat)} (h : w.ownsRow base e 2 v l.length (cellsP l)) : PiecesIs w v l := by
  rcases h.2 with ⟨hv, h0⟩ | ⟨g, cap, cur, hv, hg, hb, hn, hm, hs, ht⟩
  · exact Or.inl ⟨List.eq_nil_of_length_eq_zero h0, none, 0, by rw [hv]⟩
  · refine Or.inr ⟨g, cap, ?_, hv, fun j hj => ?_⟩
    · exact (h.lt g (by rw [hv]; rfl)).2
    · have hcell : ∀ i, i < l.length * 2 → w.cell? ⟨g, i, none⟩ = (cellsP l)[i]? := by
        intro i hi
        have h1 : w.cell? ⟨g, i, none⟩ = cur[i]? := by simp [World.cell?, hb]
        rw [h1, ← Array.getElem?_toList, ← ht, List.getElem?_take, if_pos hi]
      obtain ⟨h1, h2⟩ := cellsP_at l j hj
      exact ⟨by rw [hcell _ (by omega)]; exact h1, by rw [hcell _ (by omega)]; exact h2⟩
theorem infoPiece : (Tryz.prog.info? 155).map (fun i => (i.zero, i.size, i.bytes)) = some (some (.agg #[.int .i32 0, .int .i64 0]), 2, 16) := by kernel_rfl
def PiecesPost (ps : List (Int × Nat)) (w0 : World) (e : Ending) (w' : World) : Prop :=
  ∃ v, e = .returned v ∧ PiecesIs w' v ps ∧ Below w0.heap.size w0 w'
/-- What holds at the head of a round: 'done' are the pieces ahead of place k. -/
def RelPc (enc : Int) (l : List UInt8) (w0 : World) (ov av : Value) (wr : World) : Prop :=
  ∃ (k : Nat) (done : List (Int × Nat)), k ≤ l.length ∧ av = .int .i64 k ∧ done.length ≤ k ∧ piecesL enc l = done ++ piecesL enc (l.drop k) ∧
    wr.ownsRow w0.heap.size 155 2 ov done.length (cellsP done) ∧ Below w0.heap.size w0 wr
set_option maxHeartbeats 2000000 in
theorem pieces_in (enc : Int) (h0 : 0 ≤ enc) (h8 : enc ≤ 8) (b : ByteArray) (hs : b.size ≤ 4000) (w : World) (hT : Tabs w) :
    Calls Tryz.prog 51 #[.int .i64 enc, .string b] w (PiecesPost (piecesL enc b.data.toList) w) := by
  obtain ⟨i0, hi, hz0, hz1, hz2⟩ := info_parts infoPiece
  have hsz : b.data.toList.length = b.size := by simp
  have HZ := Lib.hid hsz
  clear hsz
  have cR := right_c enc
  rw [decide_eq_true (show 0 ≤ enc ∧ enc ≤ 8 by omega)] at cR
  go_enter Tryz.func51, Tryz.ntmps51
  go_wp2_with (go_at_call 93; refine (cR _).mono ?_; rintro e w' ⟨rfl, rfl⟩)
  go_loopw [5, 6] (fun ov av wr => RelPc enc b.data.toList w ov av wr) (fun _ av _ => b.size - (intOf av).toNat)
  case atStart => exact ⟨0, [], by omega, rfl, by simp, by simp, World.ownsRow_nil _ _ _ _, Below.refl _ _⟩
  case round =>
    obtain ⟨k, done, hk, rfl, hdk, hru, hown, hbel⟩ := hrel
    rw [HZ.out] at hk
    have HR := Lib.hid hru
    have HO := Lib.hid hown
    clear hru hown
    by_cases hlt : k < b.size
    · have hne : b.data.toList.drop k ≠ [] := by
        intro h
        have := congrArg List.length h
        rw [List.length_drop, HZ.out, List.length_nil] at this
        omega
      have hst := piecesL_step h0 hne
      have hrg := pieceL_range h0 hne
      have cN := fun w hT => next2_c enc b (k : Int) (by omega) (by omega) (by omega) w hT
      simp only [pieceZ_in h0 h8 hlt] at cN
      rw [List.length_drop, HZ.out] at hrg
      obtain ⟨p, hp⟩ : ∃ p, pieceL enc (b.data.toList.drop k) = p := ⟨_, rfl⟩
      rw [hp, List.drop_drop] at hst
      rw [hp] at hrg
      simp only [hp] at cN
      obtain ⟨P, K⟩ := p
      have cN' : ∀ w, Tabs w → Calls Tryz.prog 94 #[.int .i64 enc, .string b, .int .i64 k] w fun e w' => e = .returned (.agg #[.int .i32 P, .int .i64 K]) ∧ Below w.heap.size w w' := cN
      obtain ⟨g1, g2, g3, g4⟩ : -1 ≤ P ∧ P ≤ 1114111 ∧ 1 ≤ K ∧ K ≤ b.size - k := hrg
      have HN : Hid (piecesL enc b.data.toList = (done ++ [(P, K)]) ++ piecesL enc (b.data.toList.drop (k + K))) := by
        rw [HR.out, hst, List.append_assoc]
        rfl
      have hltz : (k : Int) < (b.size : Int) := by omega
      have hw0 : (0 : Int) ≤ (k : Int) + (K : Int) := by omega
      have hw1 : (k : Int) + (K : Int) ≤ 4000 := by omega
      have hTr := hT.step hbel
      clear hst cN hp hne
      go_wp2_with fail
      refine (cN' _ hTr).mono ?_
      rintro e w1 ⟨rfl, hb1⟩
      have hown1 := HO.out.kept (grown_of_below hb1 none) (by cases h : u5.ownBlock with | none => exact Or.inl rfl | some x => exact Or.inr (by simp))
      go_wp2_with (at_builtin; refine wpList_append_own _ rfl _ _ 107 rfl w.heap.size 155 i0 (.agg #[.int .i32 0, .int .i64 0]) 2 16 Tryz.underlying107 hi hz0 hz1 hz2 rfl (by decide) _ _ _ rfl ((hown1.alloc _).alloc _) ⟨w1.heap.size + 1, 0, none⟩ 1 1 [.int .i32 P, .int .i64 K] rfl rfl ?c1 ?c2 ?c3 ?c4 ?c5 ?_)
      case c1 =>
        intro j u hj
        match j, hj with
        | 0, hj => simp at hj; subst hj; simp [Addr.add]
        | 1, hj => simp at hj; subst hj; simp [Addr.add]
      case c2 => intro u hu; simp at hu; rcases hu with rfl | rfl <;> rfl
      case c3 => unfold maxLen; omega
      case c4 => omega
      case c5 => have h1 := hb1.size; have h2 := hbel.size; simp; omega
      intro v' w2 hown' hgrow _
      have hz1' : w.heap.size ≤ w1.heap.size := by have h1 := hb1.size; have h2 := hbel.size; omega
      have hnb : u5.ownBlock ≠ some w1.heap.size := by
        intro h
        have h1 := (HO.out.lt _ h).2
        have h2 := hb1.size
        omega
      have c9 : w2.cell? ⟨w1.heap.size, 1, none⟩ = some (.int .i64 K) := by
        have h := hgrow.block w1.heap.size (by simp; omega) hnb.symm
        rw [World.cell?_of_block (a := ⟨w1.heap.size, 1, none⟩) h]
        simp
      have hB2 := ((((below_step hbel hb1).alloc hz1' (.cells #[.int .i32 P, .int .i64 K] 155)).alloc (by simp; omega) (.cells #[.int .i32 P, .int .i64 K] 155))).grown hgrow (by simp; omega) (fun j hj => (HO.out.lt j hj).1)
      have HO2 := Lib.hid hown'
      have HB2 := Lib.hid hB2
      clear hown' hgrow hown1 hnb hB2
      go_wp2
      go_roundw
      case rel =>
        exact ⟨k + K, done ++ [(P, K)], by rw [HZ.out]; omega, by go_num, by simp; omega, HN.out, by rw [cellsP_snoc]; simpa using HO2.out, HB2.out⟩
      case measure => simp [intOf]; omega
    · have hkn : k = b.size := by omega
      have HN := Lib.hid (show piecesL enc b.data.toList = done by
        rw [HR.out, List.drop_eq_nil_of_le (by rw [HZ.out]; omega), piecesL_nil, List.append_nil])
      have hge : ¬ ((k : Int) < (b.size : Int)) := by omega
      clear hkn
      go_wp2
      go_ret
      exact ⟨_, rfl, by rw [HN.out]; exact PiecesIs.own HO.out, hbel⟩
end Go.Proofs.YtfioknaadbgjlaaGreatDoor.F
namespace Go.Proofs.YtfioknaadbgjlaaGreatDoor.F
open Go.RowKit
theorem sizeBuilder : (Tryz.prog.info? 112).map (·.size) = some 2 := by kernel_rfl
theorem infoByteBu : (Tryz.prog.info? 5).map (fun i => (i.zero, i.size, i.bytes)) = some (some (.int .u8 0), 1, 1) := by kernel_rfl
theorem cellsByte : Tryz.prog.cellsOf 5 = 1 := by kernel_rfl
/-- A Builder at the head of block b, of type T, with the cells R behind it. -/
def Bld (T : TypeId) (R : List Value) (B b : Nat) (p : Value) (bs : List Value) (w : World) : Prop :=
  B ≤ b ∧ ∃ v, w.heap[b]? = some (.cells ⟨p :: v :: R⟩ T (0, 0)) ∧ w.ownsRow B 5 1 v bs.length bs ∧ v.ownBlock ≠ some b
def IsBld (T : TypeId) (R : List Value) (B b : Nat) (bs : List Value) (w : World) : Prop :=
  Bld T R B b (.pointer none) bs w ∨ Bld T R B b (.pointer (some ⟨b, 0, none⟩)) bs w
/-- A type of which a Builder is the first field. -/
structure HasBld (T : TypeId) (n : Nat) : Prop where
  ne8 : T ≠ 5
  lies : liesAt Tryz.prog Tryz.prog.depth T ((n + 2) / Tryz.prog.cellsOf T) 0 112 1 = true
/-- Blocks of this type stay. -/
def KeptT (T0 : TypeId) (w w' : World) : Prop := ∀ (k : Nat) (cs : Array Value) (fr : Nat × Nat), w.heap[k]? = some (.cells cs T0 fr) → w'.heap[k]? = some (.cells cs T0 fr)
theorem KeptT.refl {T0 : TypeId} (w : World) : KeptT T0 w w := fun _ _ _ h => h
theorem KeptT.trans {T0 : TypeId} {a b c : World} (h : KeptT T0 a b) (h' : KeptT T0 b c) : KeptT T0 a c := fun k cs fr hk => h' k cs fr (h k cs fr hk)
theorem KeptT.set {T0 : TypeId} {w : World} {b j : Nat} {cs : Array Value} {T : TypeId} {fr : Nat × Nat} (hb : w.heap[b]? = some (.cells cs T fr)) (hT : T0 ≠ T) (x : Value) : KeptT T0 w (w.setCell ⟨b, j, none⟩ x) := fun k cs' fr' hk => by
  by_cases e : k = b
  · subst e
    rw [hb] at hk
    simp only [Option.some.injEq, Obj.cells.injEq] at hk
    exact absurd hk.2.1.symm hT
  · rw [show (w.setCell ⟨b, j, none⟩ x).heap[k]? = w.heap[k]? from Below.heap_setCell _ _ _ _ (fun h => e h)]
    exact hk
theorem lt_of_get {w : World} {k : Nat} {o : Obj} (hk : w.heap[k]? = some o) : k < w.heap.size := by
  rcases Nat.lt_or_ge k w.heap.size with h' | h'
  · exact h'
  · simp [Array.getElem?_eq_none h'] at hk
theorem KeptT.alloc {T0 : TypeId} {w : World} (o : Obj) : KeptT T0 w (w.alloc o) := fun k cs fr hk => by
  rw [Lib.alloc_old w o k (lt_of_get hk)]; exact hk
theorem KeptT.below {T0 : TypeId} {w w' : World} (h : Below w.heap.size w w') : KeptT T0 w w' := fun k cs fr hk => by rw [h.block k (lt_of_get hk)]; exact hk
theorem KeptT.grown {T0 : TypeId} {w w' : World} {v : Value} {B n : Nat} {xs : List Value} (h : w.grownBy w' v.ownBlock) (hown : w.ownsRow B 5 1 v n xs) (h8 : T0 ≠ 5) : KeptT T0 w w' := fun k cs fr hk => by
  rw [h.block k (lt_of_get hk) (fun e => Lib.ownBlock_ne hown hk h8 e.symm)]
  exact hk
theorem KeptT.cell {T0 : TypeId} {w w' : World} (h : KeptT T0 w w') {k j : Nat} {cs : Array Value} {fr : Nat × Nat} (hk : w.heap[k]? = some (.cells cs T0 fr)) : w'.cell? ⟨k, j, none⟩ = cs[j]? := Lib.cell_of_heap (h k cs fr hk) j
/-- .. and so do all blocks but bytes' and those of the struct that holds the Builder. -/
def Fr (T : TypeId) (w w' : World) : Prop := ∀ T0 : TypeId, T0 ≠ 5 → T0 ≠ T → KeptT T0 w w'
theorem Bld.cell0 {T : TypeId} {R : List Value} {B b : Nat} {p : Value} {bs : List Value} {w : World} (h : Bld T R B b p bs w) : w.cell? ⟨b, 0, none⟩ = some p := by
  obtain ⟨_, v, hb, _⟩ := h
  rw [Lib.cell_of_heap hb]; rfl
theorem Bld.shape {T : TypeId} {R : List Value} {B b : Nat} {p : Value} {bs : List Value} {w : World} (h : Bld T R B b p bs w) : w.shape? b = some (T, R.length + 2) := by
  obtain ⟨_, v, hb, _⟩ := h
  simp [World.shape?, hb]
theorem Bld.lt {T : TypeId} {R : List Value} {B b : Nat} {p : Value} {bs : List Value} {w : World} (h : Bld T R B b p bs w) : b < w.heap.size := by
  obtain ⟨_, v, hb, _⟩ := h
  exact lt_of_get hb
theorem Bld.frozen0 {T : TypeId} {R : List Value} {B b : Nat} {p : Value} {bs : List Value} {w : World} (h : Bld T R B b p bs w) : w.frozen? ⟨b, 0, none⟩ = false := by
  obtain ⟨_, v, hb, _⟩ := h
  exact Lib.frozen_of_heap hb 0
theorem Bld.used {T : TypeId} {R : List Value} {B b : Nat} {p : Value} {bs : List Value} {w : World} (h : Bld T R B b p bs w) (q : Value) : Bld T R B b q bs (w.setCell ⟨b, 0, none⟩ q) := by
  have hlt := h.lt
  obtain ⟨hB, v, hb, hown, hne⟩ := h
  refine ⟨hB, v, ?_, ?_, hne⟩
  · simp [World.setCell, Array.getElem?_modify, hb]
  · refine hown.kept (row := some b) ⟨rfl, rfl, rfl, by simp [World.setCell], fun k _ hk => Below.heap_setCell _ _ _ _ (fun e => hk (by simp [e]))⟩ ?_
    exact Or.inr hne
theorem Bld.put {T : TypeId} {R : List Value} {B b : Nat} {p v v' : Value} {bs' : List Value} {w : World} (hB : B ≤ b) (hb : w.heap[b]? = some (.cells ⟨p :: v :: R⟩ T (0, 0))) (hown : w.ownsRow B 5 1 v' bs'.length bs') (hT : T ≠ 5) :
    Bld T R B b p bs' (w.setCell ⟨b, 1, none⟩ v') := by
  have hne := Lib.ownBlock_ne hown hb hT
  refine ⟨hB, v', ?_, ?_, hne⟩
  · simp [World.setCell, Array.getElem?_modify, hb]
  · exact hown.kept (row := some b) ⟨rfl, rfl, rfl, by simp [World.setCell], fun k _ hk => Below.heap_setCell _ _ _ _ (fun e => hk (by simp [e]))⟩ (Or.inr hne)
set_option maxHeartbeats 1000000 in
set_option maxRecDepth 100000 in
theorem copyCheck_used (b : Nat) (w : World) (h0 : w.cell? ⟨b, 0, none⟩ = some (.pointer (some ⟨b, 0, none⟩))) :
    Calls Tryz.prog 135 #[.pointer (some ⟨b, 0, none⟩)] w fun e w' => e = .returned (.tuple #[]) ∧ w' = w := by
  obtain ⟨j, hj, _⟩ := Option.map_eq_some_iff.1 sizeBuilder
  go_enter Tryz.func135, Tryz.ntmps135
  go_wp2
  rw [Lib.run_neq_ptr_same w _ Tryz.underlying109 hj]
  go_wp2
  go_end0
  exact ⟨rfl, rfl⟩
set_option maxHeartbeats 1000000 in
set_option maxRecDepth 100000 in
theorem copyCheck_fresh (T : TypeId) (n : Nat) (b : Nat) (w : World) (h0 : w.cell? ⟨b, 0, none⟩ = some (.pointer none)) (hsh : w.shape? b = some (T, n + 2)) (hl : liesAt Tryz.prog Tryz.prog.depth T ((n + 2) / Tryz.prog.cellsOf T) 0 112 1 = true) (hfz : w.frozen? ⟨b, 0, none⟩ = false) :
    Calls Tryz.prog 135 #[.pointer (some ⟨b, 0, none⟩)] w fun e w' => e = .returned (.tuple #[]) ∧ w' = w.setCell ⟨b, 0, none⟩ (.pointer (some ⟨b, 0, none⟩)) := by
  obtain ⟨j, hj, hjs⟩ := Option.map_eq_some_iff.1 sizeBuilder
  go_enter Tryz.func135, Tryz.ntmps135
  go_wp2
  rw [Lib.run_to_unsafe w ⟨b, 0, none⟩ Tryz.underlying109 Tryz.underlying223 hj (by rw [hjs]; decide) hsh (Nat.zero_lt_succ _)]
  simp only [Result.andThen]
  rw [Oper.upon_value]
  go_wp2
  rw [run_callFunc_extern Tryz.func172 (by kernel_rfl) (by kernel_rfl) (by kernel_rfl) (e := Extern.AbiNoEscape.same) (by kernel_rfl)]
  rw [Lib.run_noEscape]
  simp only [Result.andThen]
  rw [Oper.upon_value]
  go_wp2
  rw [Lib.run_from_unsafe w ⟨b, 0, none⟩ Tryz.underlying223 Tryz.underlying109 hj hsh hl]
  simp only [Result.andThen]
  rw [Oper.upon_value]
  go_wp2
  go_end0
  exact ⟨rfl, rfl⟩
theorem copyCheck_c {T : TypeId} {R : List Value} (hT : HasBld T R.length) (B b : Nat) (bs : List Value) (w : World) (h : IsBld T R B b bs w) :
    Calls Tryz.prog 135 #[.pointer (some ⟨b, 0, none⟩)] w fun e w' => e = .returned (.tuple #[]) ∧ (Bld T R B b (.pointer (some ⟨b, 0, none⟩)) bs w' ∧ Below B w w' ∧ Fr T w w') := by
  rcases h with h | h
  · refine (copyCheck_fresh T R.length b w h.cell0 h.shape hT.lies h.frozen0).mono ?_
    rintro e w' ⟨rfl, rfl⟩
    refine ⟨rfl, h.used _, (Below.refl B w).setCell (p := ⟨b, 0, none⟩) h.1 _, ?_⟩
    obtain ⟨_, v, hb, _⟩ := h
    exact fun T0 h8 hT0 => KeptT.set hb hT0 _
  · refine (copyCheck_used b w h.cell0).mono ?_
    rintro e w' ⟨rfl, rfl⟩
    exact ⟨rfl, h, Below.refl B _, fun T0 h8 hT0 => KeptT.refl _⟩
set_option maxHeartbeats 2000000 in
set_option maxRecDepth 100000 in
theorem wstr_c {T : TypeId} {R : List Value} (hT : HasBld T R.length) (B b : Nat) (bs : List Value) (s : ByteArray) (w : World) (h : IsBld T R B b bs w) (hlen : bs.length + s.size ≤ 140737488355328) (hBw : B ≤ w.heap.size) :
    Calls Tryz.prog 97 #[.pointer (some ⟨b, 0, none⟩), .string s] w fun e w' => e = .returned (.tuple #[.int .i64 s.size, .nilIface]) ∧ (Bld T R B b (.pointer (some ⟨b, 0, none⟩)) (bs ++ Lib.strCells s) w' ∧ Below B w w' ∧ Fr T w w') := by
  obtain ⟨i0, hi, hz0, hz1, hz2⟩ := info_parts infoByteBu
  have HT := Lib.hid hT
  clear hT
  go_enter Tryz.func97, Tryz.ntmps97
  go_wp2_with (go_at_call 135; refine (copyCheck_c HT.out B b bs _ h).mono ?_)
  rintro e w1 ⟨rfl, h1, hb1, hk1⟩
  obtain ⟨hB, v, hbk, hown, hne⟩ := h1
  have c0 : w1.cell? ⟨b, 0, none⟩ = some (.pointer (some ⟨b, 0, none⟩)) := by rw [Lib.cell_of_heap hbk]; rfl
  have c1 : w1.cell? ⟨b, 1, none⟩ = some v := by rw [Lib.cell_of_heap hbk]; rfl
  go_wp2_with (at_builtin; refine Lib.wpList_append_own_string _ rfl _ _ 110 9 rfl B 5 i0 Tryz.underlying110 Tryz.underlying9 hi hz0 hz1 hz2 _ _ _ rfl hown s rfl ?c3 ?c4 ?c5 ?_)
  case c3 => unfold maxLen; omega
  case c4 => omega
  case c5 => have := hb1.size; omega
  intro v' w2 hown' hgrow _
  have hlt : b < w1.heap.size := lt_of_get hbk
  have hb2 : w2.heap[b]? = some (.cells ⟨.pointer (some ⟨b, 0, none⟩) :: v :: R⟩ T (0, 0)) := by
    rw [hgrow.block b hlt (fun e => hne e.symm)]
    exact hbk
  have d0 : w2.cell? ⟨b, 0, none⟩ = some (.pointer (some ⟨b, 0, none⟩)) := by rw [Lib.cell_of_heap hb2]; rfl
  have d1 : w2.cell? ⟨b, 1, none⟩ = some v := by rw [Lib.cell_of_heap hb2]; rfl
  have f1 : w2.frozen? ⟨b, 1, none⟩ = false := Lib.frozen_of_heap hb2 1
  obtain ⟨ao, n', cap, rfl⟩ : ∃ ao n' cap, v' = .slice ao n' cap := by
    rcases hown'.2 with ⟨hv, _⟩ | ⟨g, cap, cur, hv, _⟩
    · exact ⟨_, _, _, hv⟩
    · exact ⟨_, _, _, hv⟩
  go_wp2
  go_ret2
  refine ⟨rfl, ?_, ?_, ?_⟩
  · exact Bld.put hB hb2 (bs' := bs ++ Lib.strCells s) (by simpa [Lib.strCells_length] using hown') HT.out.ne8
  · exact (hb1.grown hgrow (by have := hb1.size; omega) (fun k hk => (hown.lt k hk).1)).setCell (p := ⟨b, 1, none⟩) hB _
  · exact fun T0 h8 hT0 => ((hk1 T0 h8 hT0).trans (KeptT.grown hgrow hown h8)).trans (KeptT.set hb2 hT0 _)
set_option maxHeartbeats 2000000 in
set_option maxRecDepth 100000 in
theorem wbyte_c {T : TypeId} {R : List Value} (hT : HasBld T R.length) (B b : Nat) (bs : List Value) (c : Int) (w : World) (h : IsBld T R B b bs w) (hlen : bs.length + 1 ≤ 140737488355328) (hBw : B ≤ w.heap.size) :
    Calls Tryz.prog 134 #[.pointer (some ⟨b, 0, none⟩), .int .u8 c] w fun e w' => e = .returned .nilIface ∧ (Bld T R B b (.pointer (some ⟨b, 0, none⟩)) (bs ++ [.int .u8 c]) w' ∧ Below B w w' ∧ Fr T w w') := by
  obtain ⟨i0, hi, hz0, hz1, hz2⟩ := info_parts infoByteBu
  have HT := Lib.hid hT
  clear hT
  go_enter Tryz.func134, Tryz.ntmps134
  go_wp2_with (go_at_call 135; refine (copyCheck_c HT.out B b bs _ h).mono ?_)
  rintro e w1 ⟨rfl, h1, hb1, hk1⟩
  obtain ⟨hB, v, hbk, hown, hne⟩ := h1
  have c0 : w1.cell? ⟨b, 0, none⟩ = some (.pointer (some ⟨b, 0, none⟩)) := by rw [Lib.cell_of_heap hbk]; rfl
  have c1 : w1.cell? ⟨b, 1, none⟩ = some v := by rw [Lib.cell_of_heap hbk]; rfl
  go_wp2_with (at_builtin; refine wpList_append_own _ rfl _ _ 110 rfl B 5 i0 (.int .u8 0) 1 1 Tryz.underlying110 hi hz0 hz1 hz2 rfl (by decide) _ _ _ rfl (hown.alloc _) ⟨w1.heap.size, 0, none⟩ 1 1 [.int .u8 c] rfl rfl ?c1 ?c2 ?c3 ?c4 ?c5 ?_)
  case c1 =>
    intro j u hj
    match j, hj with
    | 0, hj => simp at hj; subst hj; simp [Addr.add]
  case c2 => intro u hu; simp at hu; subst hu; rfl
  case c3 => unfold maxLen; omega
  case c4 => omega
  case c5 => have := hb1.size; simp; omega
  intro v' w2 hown' hgrow _
  have hlt : b < w1.heap.size := lt_of_get hbk
  have hb2 : w2.heap[b]? = some (.cells ⟨.pointer (some ⟨b, 0, none⟩) :: v :: R⟩ T (0, 0)) := by
    rw [hgrow.block b (by simp; omega) (fun e => hne e.symm), Lib.alloc_old w1 _ b hlt]
    exact hbk
  have d0 : w2.cell? ⟨b, 0, none⟩ = some (.pointer (some ⟨b, 0, none⟩)) := by rw [Lib.cell_of_heap hb2]; rfl
  have d1 : w2.cell? ⟨b, 1, none⟩ = some v := by rw [Lib.cell_of_heap hb2]; rfl
  have f1 : w2.frozen? ⟨b, 1, none⟩ = false := Lib.frozen_of_heap hb2 1
  obtain ⟨g, cap, rfl⟩ : ∃ g cap, v' = .slice (some ⟨g, 0, none⟩) (bs.length + 1) cap := by
    rcases hown'.2 with ⟨_, h0⟩ | ⟨g, cap, cur, hv, _⟩
    · omega
    · exact ⟨g, cap, hv⟩
  go_wp2
  go_ret
  refine ⟨rfl, ?_, ?_, ?_⟩
  · exact Bld.put hB hb2 (bs' := bs ++ [.int .u8 c]) (by simpa using hown') HT.out.ne8
  · exact ((hb1.alloc (by have := hb1.size; omega) _).grown hgrow (by have := hb1.size; simp; omega) (fun k hk => (hown.lt k hk).1)).setCell (p := ⟨b, 1, none⟩) hB _
  · exact fun T0 h8 hT0 => (((hk1 T0 h8 hT0).trans (KeptT.alloc _)).trans (KeptT.grown hgrow (hown.alloc _) h8)).trans (KeptT.set hb2 hT0 _)
theorem unsafeString_none (W : World) (q : Option Addr) : (Builtin.unsafeString_ #[173, 3] 9 #[.pointer q, .int .i64 0]).run Tryz.prog W = .ok (.string .empty) W :=
  Lib.run_unsafeString_none W _ _ _ q
set_option maxHeartbeats 2000000 in
set_option maxRecDepth 100000 in
theorem str_some {T : TypeId} {R : List Value} (B b : Nat) (l : List UInt8) (w : World) (h : IsBld T R B b (Lib.byteCells l) w) (h0 : l ≠ []) :
    Calls Tryz.prog 102 #[.pointer (some ⟨b, 0, none⟩)] w fun e w' => e = .returned (.string ⟨l.toArray⟩) ∧ Below B w w' := by
  obtain ⟨p, hB, v, hbk, hown, hne⟩ : ∃ p, Bld T R B b p (Lib.byteCells l) w := by
    rcases h with h | h
    · exact ⟨_, h⟩
    · exact ⟨_, h⟩
  have hl0 : l.length ≠ 0 := by simpa using h0
  rw [Lib.byteCells_length] at hown
  obtain ⟨g, cap, cur, rfl, hbg, hg, hnc, hcm, hcs, htake⟩ : ∃ g cap cur, v = .slice (some ⟨g, 0, none⟩) l.length cap ∧ B ≤ g ∧ w.heap[g]? = some (.cells cur 5 (0, 0)) ∧ l.length ≤ cap ∧ cap ≤ maxLen ∧ cur.size = cap * 1 ∧ cur.toList.take (l.length * 1) = Lib.byteCells l := by
    rcases hown.2 with ⟨_, hz⟩ | ⟨g, cap, cur, hv, r⟩
    · exact absurd hz hl0
    · exact ⟨g, cap, cur, hv, r⟩
  have c1 : w.drew.cell? ⟨b, 1, none⟩ = some (.slice (some ⟨g, 0, none⟩) l.length cap) := by
    have : w.drew.heap[b]? = some (.cells ⟨p :: .slice (some ⟨g, 0, none⟩) l.length cap :: R⟩ T (0, 0)) := hbk
    rw [Lib.cell_of_heap this]; rfl
  have hSD : (Builtin.unsafeSliceData_ #[110] 173 #[.slice (some ⟨g, 0, none⟩) l.length cap]).run Tryz.prog w.drew = .ok (.pointer (some ⟨g, 0, none⟩)) w.drew :=
    Lib.run_unsafeSliceData_row _ _ _ _ _ _ (by omega)
  have hUS : (Builtin.unsafeString_ #[173, 3] 9 #[.pointer (some ⟨g, 0, none⟩), .int .i64 l.length]).run Tryz.prog w.drew = .ok (.string ⟨l.toArray⟩) (w.drew.freeze ⟨g, 0, none⟩ l.length) := by
    refine Lib.run_unsafeString_row w.drew 173 3 9 5 Tryz.underlying173 cellsByte g cur.size (by have hg' : w.drew.heap[g]? = some (.cells cur 5 (0, 0)) := hg; simp [World.shape?, hg']) l h0 (by omega) (by unfold maxLen at hcm; omega) ?_
    intro j x hx
    have := hown.cells (g := g) rfl j (.int .u8 x.toNat) (by simp [Lib.byteCells, hx])
    exact this
  have mixed : Tryz.prog.follows .mixedOrders = true := by kernel_rfl
  go_enter Tryz.func102, Tryz.ntmps102
  go_wp2
  go_region_o
  all_goals (go_wp2; go_ret; exact ⟨rfl, Lib.below_freeze (Below.drew (Below.refl B w)) (p := ⟨g, 0, none⟩) hbg _⟩)
set_option maxHeartbeats 2000000 in
set_option maxRecDepth 100000 in
theorem str_nil {T : TypeId} {R : List Value} (B b : Nat) (p : Value) (w : World) (hbk : w.heap[b]? = some (.cells ⟨p :: .slice none 0 0 :: R⟩ T (0, 0))) :
    Calls Tryz.prog 102 #[.pointer (some ⟨b, 0, none⟩)] w fun e w' => e = .returned (.string ⟨#[]⟩) ∧ Below B w w' := by
  have hUS := unsafeString_none
  have c1 : w.drew.cell? ⟨b, 1, none⟩ = some (.slice none 0 0) := by
    have : w.drew.heap[b]? = some (.cells ⟨p :: .slice none 0 0 :: R⟩ T (0, 0)) := hbk
    rw [Lib.cell_of_heap this]; rfl
  have hSD : (Builtin.unsafeSliceData_ #[110] 173 #[.slice none 0 0]).run Tryz.prog w.drew = .ok (.pointer none) w.drew := rfl
  have mixed : Tryz.prog.follows .mixedOrders = true := by kernel_rfl
  go_enter Tryz.func102, Tryz.ntmps102
  go_wp2
  go_region_o
  all_goals (go_wp2; go_ret; exact ⟨rfl, Below.drew (Below.refl B w)⟩)
set_option maxHeartbeats 2000000 in
set_option maxRecDepth 100000 in
theorem str_noroom {T : TypeId} {R : List Value} (B b g : Nat) (p : Value) (cur : Array Value) (w : World) (hBw : B ≤ w.heap.size) (hbk : w.heap[b]? = some (.cells ⟨p :: .slice (some ⟨g, 0, none⟩) 0 0 :: R⟩ T (0, 0))) (hg : w.heap[g]? = some (.cells cur 5 (0, 0))) :
    Calls Tryz.prog 102 #[.pointer (some ⟨b, 0, none⟩)] w fun e w' => e = .returned (.string ⟨#[]⟩) ∧ Below B w w' := by
  have hUS := unsafeString_none
  have hlt : b < w.heap.size := lt_of_get hbk
  have c1 : w.drew.cell? ⟨b, 1, none⟩ = some (.slice (some ⟨g, 0, none⟩) 0 0) := by
    have : w.drew.heap[b]? = some (.cells ⟨p :: .slice (some ⟨g, 0, none⟩) 0 0 :: R⟩ T (0, 0)) := hbk
    rw [Lib.cell_of_heap this]; rfl
  have hSD : (Builtin.unsafeSliceData_ #[110] 173 #[.slice (some ⟨g, 0, none⟩) 0 0]).run Tryz.prog w.drew = .ok (.pointer (some ⟨w.drew.heap.size, 0, none⟩)) (w.drew.alloc (.view ⟨g, 0, none⟩ 5)) :=
    Lib.run_unsafeSliceData_zero w.drew _ _ 5 Tryz.underlying173 ⟨g, 0, none⟩ 0 (5, cur.size) (by have hg' : w.drew.heap[g]? = some (.cells cur 5 (0, 0)) := hg; simp [World.shape?, hg'])
  have c2 : (w.drew.alloc (.view ⟨g, 0, none⟩ 5)).cell? ⟨b, 1, none⟩ = some (.slice (some ⟨g, 0, none⟩) 0 0) := by
    have : (w.drew.alloc (.view ⟨g, 0, none⟩ 5)).heap[b]? = _ := (Lib.alloc_old w.drew _ b hlt).trans hbk
    rw [Lib.cell_of_heap this]; rfl
  have c3 : (w.alloc (.view ⟨g, 0, none⟩ 5)).drew.cell? ⟨b, 1, none⟩ = some (.slice (some ⟨g, 0, none⟩) 0 0) := c2
  have c0 : w.cell? ⟨b, 1, none⟩ = some (.slice (some ⟨g, 0, none⟩) 0 0) := c1
  have mixed : Tryz.prog.follows .mixedOrders = true := by kernel_rfl
  go_enter Tryz.func102, Tryz.ntmps102
  go_wp2
  go_region_o
  all_goals (go_wp2; go_ret; exact ⟨rfl, (Below.drew (Below.refl B w)).alloc hBw _⟩)
set_option maxHeartbeats 2000000 in
set_option maxRecDepth 100000 in
theorem str_room {T : TypeId} {R : List Value} (B b g cap : Nat) (p : Value) (w : World) (hc0 : cap ≠ 0) (hbk : w.heap[b]? = some (.cells ⟨p :: .slice (some ⟨g, 0, none⟩) 0 cap :: R⟩ T (0, 0))) :
    Calls Tryz.prog 102 #[.pointer (some ⟨b, 0, none⟩)] w fun e w' => e = .returned (.string ⟨#[]⟩) ∧ Below B w w' := by
  have hUS := unsafeString_none
  have c1 : w.drew.cell? ⟨b, 1, none⟩ = some (.slice (some ⟨g, 0, none⟩) 0 cap) := by
    have : w.drew.heap[b]? = some (.cells ⟨p :: .slice (some ⟨g, 0, none⟩) 0 cap :: R⟩ T (0, 0)) := hbk
    rw [Lib.cell_of_heap this]; rfl
  have hSD : (Builtin.unsafeSliceData_ #[110] 173 #[.slice (some ⟨g, 0, none⟩) 0 cap]).run Tryz.prog w.drew = .ok (.pointer (some ⟨g, 0, none⟩)) w.drew :=
    Lib.run_unsafeSliceData_row _ _ _ _ _ _ hc0
  clear hc0
  have mixed : Tryz.prog.follows .mixedOrders = true := by kernel_rfl
  go_enter Tryz.func102, Tryz.ntmps102
  go_wp2
  go_region_o
  all_goals (go_wp2; go_ret; exact ⟨rfl, Below.drew (Below.refl B w)⟩)
theorem str_c {T : TypeId} {R : List Value} (B b : Nat) (l : List UInt8) (w : World) (h : IsBld T R B b (Lib.byteCells l) w) (hBw : B ≤ w.heap.size) :
    Calls Tryz.prog 102 #[.pointer (some ⟨b, 0, none⟩)] w fun e w' => e = .returned (.string ⟨l.toArray⟩) ∧ Below B w w' := by
  cases l with
  | cons x r => exact str_some B b (x :: r) w h (by simp)
  | nil =>
    obtain ⟨p, hB, v, hbk, hown, hne⟩ : ∃ p, Bld T R B b p [] w := by
      rcases h with h | h
      · exact ⟨_, h⟩
      · exact ⟨_, h⟩
    rcases hown.2 with ⟨rfl, _⟩ | ⟨g, cap, cur, rfl, hbg, hg, _, _, _, _⟩
    · exact str_nil B b p w hbk
    · by_cases hc0 : cap = 0
      · subst hc0
        exact str_noroom B b g p cur w hBw hbk hg
      · exact str_room B b g cap p w hc0 hbk
theorem hasBuilder : HasBld 112 0 := ⟨by decide, by kernel_rfl⟩
/-- A Builder that was just made. -/
theorem bld_fresh (w : World) : IsBld 112 [] w.heap.size w.heap.size [] (w.alloc (.cells #[.pointer none, .slice none 0 0] 112)) :=
  Or.inl ⟨Nat.le_refl _, .slice none 0 0, heap_alloc_new w _, World.ownsRow_nil _ _ _ _, by simp [Value.ownBlock]⟩
theorem IsBld.below {T : TypeId} {R : List Value} {B b : Nat} {bs : List Value} {w w' : World} (h : IsBld T R B b bs w) (hb : Below w.heap.size w w') : IsBld T R B b bs w' := by
  have key : ∀ p, Bld T R B b p bs w → Bld T R B b p bs w' := by
    rintro p ⟨hB, v, hbk, hown, hne⟩
    refine ⟨hB, v, by rw [hb.block b (lt_of_get hbk)]; exact hbk, hown.kept (row := none) ⟨hb.os, hb.tape, hb.output, hb.size, fun k hk _ => hb.block k hk⟩ ?_, hne⟩
    cases h : v.ownBlock with
    | none => exact Or.inl rfl
    | some x => exact Or.inr (by simp)
  rcases h with h | h
  · exact Or.inl (key _ h)
  · exact Or.inr (key _ h)
end Go.Proofs.YtfioknaadbgjlaaGreatDoor.F
namespace Go.Proofs.YtfioknaadbgjlaaGreatDoor.F
open Go.RowKit
theorem bsOf_list (r : Int) : (bsOf r).data.toList = if isR r = true then Lib.encodeRune r else [] := by
  by_cases h : isR r = true
  · rw [if_pos h, bsOf_toList h]
  · rw [if_neg h, bsOf_none (by simpa using h)]
theorem strCells_eq (s : ByteArray) : Lib.strCells s = Lib.byteCells s.data.toList := by
  unfold Lib.strCells Lib.byteCells
  simp
theorem byteCells_app (a b : List UInt8) : Lib.byteCells (a ++ b) = Lib.byteCells a ++ Lib.byteCells b := by
  unfold Lib.byteCells
  simp
theorem byteCells_len (a : List UInt8) : (Lib.byteCells a).length = a.length := by
  unfold Lib.byteCells
  simp
theorem join_more {l : List Int} {i : Nat} {x : Int} (hi : i < l.length) (hx : l.getD i 0 = x) : Lib.byteCells (joinL (l.take i)) ++ Lib.strCells (bsOf x) = Lib.byteCells (joinL (l.take (i + 1))) := by
  have ht : l.take (i + 1) = l.take i ++ [x] := by
    rw [List.take_add_one, List.getElem?_eq_getElem hi]
    have : l[i] = x := by rw [← hx]; simp [List.getD_eq_getElem?_getD, List.getElem?_eq_getElem hi]
    rw [this]; rfl
  rw [ht, joinL_snoc, byteCells_app, strCells_eq, bsOf_list]
def RelJ (l : List Int) (w0 : World) (iv : Value) (wr : World) : Prop :=
  ∃ i : Nat, i ≤ l.length ∧ iv = .int .i64 i ∧ IsBld 112 [] w0.heap.size w0.heap.size (Lib.byteCells (joinL (l.take i))) wr ∧ Below w0.heap.size w0 wr
set_option maxHeartbeats 1000000 in
theorem join_in (l : List Int) (hs : l.length ≤ 1000) (g off cap : Nat) (w : World) (hg : g < w.heap.size)
    (hc : ∀ j, j < l.length → w.cell? ⟨g, off + j, none⟩ = some (.int .i32 (l.getD j 0))) :
    Calls Tryz.prog 139 #[.slice (some ⟨g, off, none⟩) l.length cap] w fun e w' => e = .returned (.string ⟨(joinL l).toArray⟩) ∧ Below w.heap.size w w' := by
  obtain ⟨n, hn⟩ : ∃ n, l.length = n := ⟨_, rfl⟩
  have HC := Lib.hid hc
  clear hc
  rw [hn]
  rw [hn] at hs
  have HN := Lib.hid hn
  clear hn
  go_enter Tryz.func139, Tryz.ntmps139
  go_wp2
  go_loopw [8] (fun iv wr => RelJ l w iv wr) (fun iv _ => n - (intOf iv).toNat)
  case atStart => exact ⟨0, by omega, rfl, bld_fresh w, (Below.refl _ _).alloc (Nat.le_refl _) _⟩
  case round =>
    obtain ⟨i, hi, rfl, hbu, hbel⟩ := hrel
    rw [HN.out] at hi
    have HB := Lib.hid hbu
    clear hbu
    by_cases hlt : i < n
    · obtain ⟨x, hx⟩ : ∃ x, l.getD i 0 = x := ⟨_, rfl⟩
      have c1 : wr.cell? ⟨g, off + i, none⟩ = some (.int .i32 x) := by rw [hbel.cell (p := ⟨g, off + i, none⟩) hg, HC.out i (by rw [HN.out]; exact hlt), hx]
      have hltz : (i : Int) < (n : Int) := by omega
      have hlen : (Lib.byteCells (joinL (l.take i))).length ≤ 4000 := by
        have := joinL_length (l.take i)
        rw [byteCells_len]
        have h2 : (l.take i).length ≤ i := List.length_take_le _ _
        omega
      have hb4 := bsOf_size x
      have HM := Lib.hid (join_more (by rw [HN.out]; exact hlt) hx)
      clear hx
      go_wp2_with fail
      refine (bytes_c _ _).mono ?_
      rintro e w' ⟨rfl, rfl⟩
      go_wp2_with fail
      refine (wstr_c hasBuilder w.heap.size w.heap.size _ _ _ HB.out (by omega) hbel.size).mono ?_
      rintro e w2 ⟨rfl, hb2, hbel2, hik2⟩
      clear hik2
      rw [HM.out] at hb2
      have HB2 := Lib.hid hb2
      clear hb2
      go_wp2
      go_roundw
      case rel => exact ⟨i + 1, by rw [HN.out]; omega, by go_num, Or.inr HB2.out, hbel.trans hbel2⟩
      case measure => simp [intOf]; omega
    · have hin : i = n := by omega
      have HT : Hid (l.take i = l) := List.take_of_length_le (by rw [HN.out]; omega)
      have hge : ¬ ((i : Int) < (n : Int)) := by omega
      clear hin
      go_wp2_with fail
      refine (str_c w.heap.size w.heap.size (joinL (l.take i)) _ HB.out hbel.size).mono ?_
      rintro e w2 ⟨rfl, hbel2⟩
      go_wp2
      go_ret
      exact ⟨by rw [HT.out]; rfl, hbel.trans hbel2⟩
set_option maxHeartbeats 1000000 in
theorem join_nil (a : Option Addr) (cap : Nat) (w : World) :
    Calls Tryz.prog 139 #[.slice a 0 cap] w fun e w' => e = .returned (.string ⟨#[]⟩) ∧ Below w.heap.size w w' := by
  have cS := str_c w.heap.size w.heap.size [] _ (bld_fresh w) (by show w.heap.size ≤ (w.heap.push _).size; simp)
  go_enter Tryz.func139, Tryz.ntmps139
  go_wp2
  refine wp_loop_rounds 1 ?_
  rw [rounds_succ]
  go_wp2_with fail
  refine cS.mono ?_
  rintro e w2 ⟨rfl, hbel2⟩
  go_wp2
  go_ret
  exact ⟨rfl, ((Below.refl _ _).alloc (Nat.le_refl _) _).trans hbel2⟩
theorem join_c {v : Value} {l : List Int} {w : World} (h : SliceIs w v l) (hs : l.length ≤ 1000) :
    Calls Tryz.prog 139 #[v] w fun e w' => e = .returned (.string ⟨(joinL l).toArray⟩) ∧ Below w.heap.size w w' := by
  rcases h with ⟨rfl, a, cap, rfl⟩ | ⟨g, off, cap, hg, rfl, hc⟩
  · exact join_nil a cap w
  · exact join_in l hs g off cap w hg hc
end Go.Proofs.YtfioknaadbgjlaaGreatDoor.F
namespace Go.Proofs.YtfioknaadbgjlaaGreatDoor.F
open Go.RowKit
end Go.Proofs.YtfioknaadbgjlaaGreatDoor.F
