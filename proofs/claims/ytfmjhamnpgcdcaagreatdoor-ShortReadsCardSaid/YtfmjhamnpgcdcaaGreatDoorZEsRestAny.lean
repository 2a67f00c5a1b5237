/-
  The contract of escape's Restore at any text of up to 300 bytes: it answers; of a text whose first escape is none it answers ErrName.
-/
import Derived.Test.YtfmjhamnpgcdcaaGreatDoorZEsRdN
import Derived.Test.YtfmjhamnpgcdcaaGreatDoorZEsAsciiM
namespace Go.Proofs.YtfmjhamnpgcdcaaGreatDoor
open Go.RowKit Go.Sort
set_option linter.unusedVariables false

theorem readC_len {enc : Int} (h0 : 0 ≤ enc) : ∀ (n : Nat) (l : List Int) (x : List UInt8), l.length ≤ n → okD l = true → readC enc l [] = some x → x.length ≤ 12 * l.length := by
  intro n
  induction n with
  | zero =>
    intro l x hl hok hx
    have : l = [] := List.eq_nil_of_length_eq_zero (by omega)
    subst this
    rw [readC_nil, bytesC_nil] at hx
    cases hx; simp
  | succ n ih =>
    intro l x hl hok hx
    rcases first37 l with hno | ⟨k, hk, hno, h37⟩
    · exact bytesC_len h0 (read_last hno hx)
    · obtain ⟨a, b, t, y, z', hd, ha, hb, hot, hy, hz, rfl⟩ := read_esc hk hno h37 hok hx
      have h1 := bytesC_len h0 hy
      have hlen := congrArg List.length hd
      rw [List.length_drop] at hlen
      simp at hlen
      have h2 := ih t z' (by omega) hot hz
      rw [List.length_take] at h1
      simp
      omega
set_option maxHeartbeats 1000000 in
theorem uall_none (b : ByteArray) (ho : runesL b.data.toList = none) (hs : b.size ≤ 4000) (w : World) (hT : Tabs w) :
    Calls Tryz.prog 30 #[.string b] w fun e w' => (∃ v, e = .returned (.tuple #[v, .bool false])) ∧ Below w.heap.size w w' := by
  refine (uall_c b hs w hT).mono ?_
  rintro e w' ⟨v, he, _, hb⟩
  rw [ho] at he
  exact ⟨⟨v, he⟩, hb⟩
set_option maxHeartbeats 1000000 in
theorem read4_nr (enc : Int) (b : ByteArray) (ho : runesL b.data.toList = none) (hs : b.size ≤ 4000) (w : World) (hT : Tabs w) :
    Calls Tryz.prog 17 #[.int .i64 enc, .string b] w fun e w' => e = .returned (.tuple #[.string ⟨#[]⟩, .bool false]) ∧ Below w.heap.size w w' := by
  have cA := uall_none b ho hs w hT
  clear ho hs hT
  go_enter Tryz.func17, Tryz.ntmps17
  go_wp2_with fail
  refine cA.mono ?_
  rintro e w1 ⟨⟨v, rfl⟩, hb⟩
  have HB := Lib.hid hb
  clear cA hb
  go_wp2
  go_ret2
  exact ⟨rfl, HB.out⟩
set_option maxHeartbeats 1000000 in
theorem restore_fail (enc : Int) (b : ByteArray) (w : World) (cR : Calls Tryz.prog 17 #[.int .i64 enc, .string b] w fun e w' => e = .returned (.tuple #[.string ⟨#[]⟩, .bool false]) ∧ Below w.heap.size w w') :
    Calls Tryz.prog 8 #[.int .i64 enc, .string b] w fun e w' => e = .returned (.tuple #[.string ⟨#[]⟩, .int .i64 3]) ∧ Below w.heap.size w w' := by
  go_enter Tryz.func8, Tryz.ntmps8
  go_wp2_with fail
  refine cR.mono ?_
  rintro e w1 ⟨rfl, hb⟩
  have HB := Lib.hid hb
  clear cR hb
  go_wp2
  go_ret2
  exact ⟨rfl, HB.out⟩
set_option maxHeartbeats 1000000 in
theorem restore_bad (enc : Int) (h0 : 0 ≤ enc) (h8 : enc ≤ 8) (b : ByteArray) (x : List UInt8) (hr : Reads enc b x) (hg : goodB ⟨x.toArray⟩ = false) (w : World) (hT : Tabs w) :
    Calls Tryz.prog 8 #[.int .i64 enc, .string b] w fun e w' => e = .returned (.tuple #[.string ⟨#[]⟩, .int .i64 3]) ∧ Below w.heap.size w w' := by
  obtain ⟨rs, h1, h2, h3, h4, h5, h6⟩ := hr
  have cR := read4_c enc h0 h8 b rs h1 h2 h3 h4 x h5 h6 w hT
  have HG : Hid (∀ w1, Calls Tryz.prog 18 #[.string ⟨x.toArray⟩] w1 fun e w' => e = .returned (.bool false) ∧ Below w1.heap.size w1 w') := Lib.hid (fun w1 => by
    have := esGood_c ⟨x.toArray⟩ (by show x.toArray.size ≤ _; simp; omega) w1
    rw [hg] at this
    exact this)
  generalize (⟨x.toArray⟩ : ByteArray) = X at *
  clear hT h0 h8 h1 h2 h3 h4 h5 h6 hg
  go_enter Tryz.func8, Tryz.ntmps8
  go_wp2_with fail
  refine cR.mono ?_
  rintro e w1 ⟨rfl, hb1⟩
  have cG := HG.out w1
  go_wp2_with fail
  refine cG.mono ?_
  rintro e w2 ⟨rfl, hb2⟩
  have HB := Lib.hid (below_step hb1 hb2)
  clear hb1 hb2 cR cG
  go_wp2
  go_ret2
  exact ⟨rfl, HB.out⟩
/-- What Restore answers, whatever is asked. -/
def RestPost (N : Prop) (w : World) (e : Ending) (w' : World) : Prop := ∃ (s : ByteArray) (r : Int), e = .returned (.tuple #[.string s, .int .i64 r]) ∧ (N → r = 3) ∧ Below w.heap.size w w'
theorem restore_any (enc : Int) (h0 : 0 ≤ enc) (h8 : enc ≤ 8) (b : ByteArray) (hs : b.size ≤ 300) (N : Prop) (hN : N → ∀ rs, runesL b.data.toList = some rs → Bad enc rs) (w : World) (hT : Tabs w) :
    Calls Tryz.prog 8 #[.int .i64 enc, .string b] w (RestPost N w) := by
  have fails : ∀ {R : Ending → World → Prop}, Calls Tryz.prog 8 #[.int .i64 enc, .string b] w (fun e w' => e = .returned (.tuple #[.string ⟨#[]⟩, .int .i64 3]) ∧ Below w.heap.size w w') → Calls Tryz.prog 8 #[.int .i64 enc, .string b] w (RestPost N w) :=
    fun h => h.mono fun e w' ⟨h1, h2⟩ => ⟨_, 3, h1, fun _ => rfl, h2⟩
  cases hr : runesL b.data.toList with
  | none => exact fails (R := fun _ _ => True) (restore_fail enc b w (read4_nr enc b hr (by omega) w hT))
  | some rs =>
    have hbl : b.data.toList.length = b.size := rfl
    have hrl := runesL_len _ _ rs (Nat.le_refl _) hr
    have hrb : ∀ r ∈ rs, -2147483648 ≤ r ∧ r ≤ 2147483647 := fun r hm => by
      have := isR_is (runesL_chars _ _ rs (Nat.le_refl _) hr r hm)
      omega
    by_cases hbad : Bad enc rs
    · exact fails (R := fun _ _ => True) (restore_fail enc b w (read4_no enc h0 h8 b rs hr (by omega) (by omega) hbad hrb w hT))
    · have hok : okD rs = true := by
        cases h : okD rs with
        | true => rfl
        | false => exact absurd (Or.inl h) hbad
      cases hx : readC enc rs [] with
      | none => exact absurd (Or.inr hx) hbad
      | some x =>
        have hxl := readC_len h0 _ rs x (Nat.le_refl _) hok hx
        have hR : Reads enc b x := ⟨rs, hr, by omega, by omega, hok, hx, by omega⟩
        cases hg : goodB ⟨x.toArray⟩ with
        | false => exact fails (R := fun _ _ => True) (restore_bad enc h0 h8 b x hR hg w hT)
        | true =>
          have hx255 : x.length ≤ 255 := by
            have h1 := hg
            rw [good_says] at h1
            simp only [Bool.and_eq_true, decide_eq_true_iff] at h1
            have h2 : (⟨x.toArray⟩ : ByteArray).size = x.length := by show x.toArray.size = _; simp
            omega
          by_cases hp : presL enc x = b.data.toList
          · exact (restore_yes enc h0 h8 b x hR hg (by omega) hp w hT).mono fun e w' ⟨h1, h2⟩ => ⟨_, 0, h1, fun hn => absurd (hN hn rs hr) hbad, h2⟩
          · exact fails (R := fun _ _ => True) (restore_no enc h0 h8 b x hR (by omega) hp w hT)
end Go.Proofs.YtfmjhamnpgcdcaaGreatDoor
