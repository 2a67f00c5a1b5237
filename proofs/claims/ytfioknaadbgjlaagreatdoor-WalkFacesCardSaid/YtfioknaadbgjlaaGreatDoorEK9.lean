/- Kit. -/
import Derived.Test.YtfioknaadbgjlaaGreatDoorEK8
import Derived.Test.YtfioknaadbgjlaaGreatDoorEShelf
import Derived.WalkKit
import Derived.WalkSpells
import Derived.IntWalk
import Derived.PlainAid
import Derived.Laws.RangeString
import Derived.LoopTactic
import Derived.Lib.Hide
import Derived.Deep.QuietTactic
import Derived.BigQuiet
import Derived.WalkMore
import Derived.Test.YtfioknaadbgjlaaGreatDoorEK1
import Derived.Lib.OthersKept
import Derived.Lib.TrimUEq
import Derived.Laws.RangeAny
import Derived.Deep.WholeRow
import Derived.Deep.LoopGhost
import Derived.Test.YtfioknaadbgjlaaGreatDoorEK7
import Derived.Laws.BitsLemmas
import Derived.StillTailTactics
import Derived.Deep.AppendLies
import Derived.Deep.RegionLaw
import Derived.OwnWalk
set_option maxRecDepth 100000
set_option linter.unusedVariables false
set_option linter.unusedSimpArgs false
namespace Go.Proofs.YtfioknaadbgjlaaGreatDoor.F
open Go.RowKit Go.Lib
def Ascii (s : ByteArray) : Prop := ∀ (j : Nat) b, s.data.toList[j]? = some b → b.toNat < 128
theorem Ascii.at' {s : ByteArray} (h : Ascii s) (j : Nat) (hj : j < s.size) : (s[j]'hj).toNat < 128 := by
  refine h j (s[j]'hj) ?_
  rw [List.getElem?_eq_getElem (by simpa using hj)]
  simp [ByteArray.getElem_eq_getElem_data]
def idxR (s : ByteArray) (r : Int) : Int := if 0 ≤ r ∧ r < 128 then Lib.indexByte s.data.toList r.toNat.toUInt8 else -1
theorem index_none : ∀ (l : List UInt8) (c : UInt8), (∀ x ∈ l, x ≠ c) → Lib.indexByte l c = -1
  | [], _, _ => rfl
  | x :: l, c, h => by
    have h1 : (x == c) = false := by rw [beq_eq_false_iff_ne]; exact h x (by simp)
    have h2 := index_none l c (fun y hy => h y (by simp [hy]))
    unfold Lib.indexByte
    rw [h1, h2]; rfl
theorem len_list (b : ByteArray) : b.data.toList.length = b.size := by simp
theorem last_of {b : ByteArray} {l : List UInt8} {x : UInt8} (he : b.data.toList = l ++ [x]) (hx : 128 ≤ x.toNat) : 128 ≤ Go.PlainAid.bt b (b.size - 1) := by
  have hs : b.size = l.length + 1 := by rw [← len_list, he]; simp
  have hk : b.size - 1 < b.size := by omega
  have h2 := Go.PlainAid.get_bt b _ hk
  have h3 : b[b.size - 1]'hk = x := by
    have h4 : b.data.toList[b.size - 1]? = some x := by rw [he, hs]; simp
    rw [List.getElem?_eq_getElem (by simpa using hk)] at h4
    have := Option.some.inj h4
    rw [← this]
    simp [ByteArray.getElem_eq_getElem_data]
  rw [h3] at h2
  omega
theorem enc_last {r : Int} (h : isR r = true) (h1 : 128 ≤ r) : 2 ≤ (Utf8.encode r).size ∧ (Utf8.encode r).size ≤ 4 ∧ 128 ≤ Go.PlainAid.bt (Utf8.encode r) ((Utf8.encode r).size - 1) := by
  have he := encode_toList r h
  have hi := isR_is h
  have hz := len_list (Utf8.encode r)
  obtain ⟨n, rfl⟩ : ∃ n : Nat, r = (n : Int) := ⟨r.toNat, by omega⟩
  by_cases h2 : n < 2048
  · have e := enc2 n (by omega) h2
    rw [e] at he
    refine ⟨by rw [← hz, he]; simp, by rw [← hz, he]; simp, last_of (l := [UInt8.ofNat (192 + n / 64)]) he (by rw [u8n _ (by omega)]; omega)⟩
  · by_cases h3 : n < 65536
    · have e := enc3 n (by omega) h3 (by omega)
      rw [e] at he
      refine ⟨by rw [← hz, he]; simp, by rw [← hz, he]; simp, last_of (l := [UInt8.ofNat (224 + n / 4096), UInt8.ofNat (128 + n / 64 % 64)]) he (by rw [u8n _ (by omega)]; omega)⟩
    · have e := enc4 n (by omega) (by omega)
      rw [e] at he
      refine ⟨by rw [← hz, he]; simp, by rw [← hz, he]; simp, last_of (l := [UInt8.ofNat (240 + n / 262144), UInt8.ofNat (128 + n / 4096 % 64), UInt8.ofNat (128 + n / 64 % 64)]) he (by rw [u8n _ (by omega)]; omega)⟩
set_option maxHeartbeats 1000000 in
set_option maxRecDepth 100000 in
/-- U+FFFD, in a text of ASCII. -/
theorem idx_bad (s : ByteArray) (has : Ascii s) (hs : s.size ≤ 1000) (w : World) :
    Calls Tryz.prog 200 #[.string s, .int .i32 65533] w fun e w' => e = .returned (.int .i64 (-1)) ∧ Below w.heap.size w w' := by
  have HA := Lib.hid has
  clear has
  have hb0 : ∀ p, Below w.heap.size w (w.iter s p) := fun p => (Below.refl _ _).alloc (Nat.le_refl _) _
  go_enter Tryz.func200, Tryz.ntmps200
  go_wp2
  go_loopw [5] (fun _ w' => ∃ pos : Nat, w' = w.iter s pos ∧ pos ≤ s.size) (fun _ w' => s.size - w'.iterPos w.heap.size)
  case atStart => exact ⟨0, rfl, by omega⟩
  case round =>
    obtain ⟨pos, rfl, hp0⟩ := hrel
    by_cases hp : pos < s.size
    · have h8 := HA.out.at' pos hp
      have hnx : ∀ ty, (Instr.next (.pointer (some ⟨w.heap.size, 0, none⟩)) true ty).run Tryz.prog (w.iter s pos) = _ := fun ty => run_next_ascii w s pos ty hp h8
      obtain ⟨A, hA⟩ : ∃ A : Nat, (s[pos]'hp).toNat = A := ⟨_, rfl⟩
      rw [hA] at h8
      simp only [hA] at hnx
      have hne : ((A : Int) == 65533) = false := by rw [beq_eq_false_iff_ne]; omega
      clear hA
      go_wp2
      go_roundw
      case rel => exact ⟨pos + 1, rfl, by omega⟩
      case measure => simp; omega
    · have hnx : ∀ ty, (Instr.next (.pointer (some ⟨w.heap.size, 0, none⟩)) true ty).run Tryz.prog (w.iter s pos) = _ := fun ty => run_next_end w s pos ty hp
      go_wp2
      go_ret
      exact ⟨rfl, hb0 _⟩
set_option maxHeartbeats 2000000 in
set_option maxRecDepth 100000 in
/-- A character that is none of ASCII. -/
theorem idx_far1 (s : ByteArray) {r : Int} (has : Ascii s) (hs : s.size ≤ 1000) (h4 : (Utf8.encode r).size ≤ s.size) (hr : isR r = true) (h1 : 128 ≤ r) (h2 : ¬ r = 65533) (w : World) :
    Calls Tryz.prog 200 #[.string s, .int .i32 r] w fun e w' => e = .returned (.int .i64 (-1)) ∧ Below w.heap.size w w' := by
  obtain ⟨hn2, hn4, hb⟩ := enc_last hr h1
  have cV := validRune_c r
  rw [hr] at cV
  have hi := isR_is hr
  obtain ⟨n, hn⟩ : ∃ n, (Utf8.encode r).size = n + 1 := ⟨(Utf8.encode r).size - 1, by omega⟩
  have hn1 : (Utf8.encode r).size - 1 = n := by omega
  rw [hn1] at hb
  obtain ⟨x, hx⟩ : ∃ x : Int, Go.PlainAid.bt s n = x := ⟨_, rfl⟩
  obtain ⟨y, hy⟩ : ∃ y : Int, Go.PlainAid.bt (Utf8.encode r) n = y := ⟨_, rfl⟩
  have hyle : y ≤ 255 := by rw [← hy]; exact Go.PlainAid.bt_le (Utf8.encode r) n
  rw [hy] at hb
  have hxl : x < 128 := by
    have h5 := has.at' n (by omega)
    have h6 := Go.PlainAid.get_bt s n (by omega)
    omega
  have hB := Go.PlainAid.get_bt s
  have hB' := Go.PlainAid.get_bt (Utf8.encode r)
  have hxy : (x != y) = true := by rw [bne_iff_ne]; omega
  have hz : ((Utf8.encode r).size : Int) = (n : Int) + 1 := by omega
  have hw1 : IntKind.i64.wrap ((n : Int) + 1 - 1) = (n : Int) := by rw [IntKind.wrap_i64]; omega
  have hw2 : IntKind.i64.wrap ((n : Int) + 1) = (n : Int) + 1 := by rw [IntKind.wrap_i64]; omega
  have hlt : (n : Int) < (s.size : Int) := by omega
  have hle : (n : Int) + 1 ≤ (s.size : Int) := by omega
  have n0 : (0 : Int) ≤ (n : Int) := by omega
  have nn1 : (n : Int) < (n : Int) + 1 := by omega
  have nn2 : n < (Utf8.encode r).size := by omega
  have nn3 : (n : Int) < ((Utf8.encode r).size : Int) := by omega
  have nn4 : n < n + 1 := by omega
  have n1 : (0 : Int) ≤ (n : Int) + 1 := by omega
  have nt : ((n : Int)).toNat = n := by omega
  have nt1 : ((n : Int) + 1).toNat = n + 1 := by omega
  have e1 : ¬ (r < 128) := by omega
  have e2 : (r == 65533) = false := by rw [beq_eq_false_iff_ne]; exact h2
  have r0 : (0 : Int) ≤ r := by omega
  have cI : ∀ w, Calls Tryz.prog 218 #[.string (s.extract (n + 1) s.size), .int .u8 y] w fun e w' => e = .returned (.int .i64 (-1)) ∧ w' = w := fun w => by
    have h7 := Tryz.strings_IndexByte (s.extract (n + 1) s.size) y w
    rw [index_none _ _ (fun z hz' => by
      have h8 : z ∈ s.data.toList := by
        rw [show (s.extract (n + 1) s.size).data.toList = s.data.toList.drop (n + 1) by simp [List.take_of_length_le]] at hz'
        exact List.mem_of_mem_drop hz'
      obtain ⟨j, hj, h9⟩ := List.getElem_of_mem h8
      have h10 := has j z (by rw [List.getElem?_eq_getElem hj, h9])
      intro h11
      rw [h11] at h10
      have : (y.toNat.toUInt8).toNat = y.toNat := by simp; omega
      omega)] at h7
    exact h7
  clear has hr h1 h2 hi hn2 hn4 hn1 hyle h4
  go_enter Tryz.func200, Tryz.ntmps200
  go_wp2_with (first | (go_at_call 173; refine (cV _).mono ?_; rintro e w' ⟨rfl, rfl⟩))
  go_step3
  go_wp2_with fail
  refine wp_loop_rounds 1 ?_
  rw [rounds_succ]
  go_wp2_with fail
  go_step3
  go_wp2_with fail
  go_quiet (fail)
  have HBq : Hid (Below w.heap.size w (w.drewN nq)) := Lib.hid (below_drewN' (Below.refl _ _) nq)
  generalize w.drewN nq = wq at *
  go_wp2_with fail
  go_quiet ((go_at_call 218; exact Calls.quiet_of_same ((cI _).mono fun _ _ h => ⟨h.1, h.2⟩)))
  go_wp2_with fail
  simp only [Exit.noGoto, Exit.inBlock, Exit.then]
  go_ret
  exact ⟨rfl, below_drewN' HBq.out _⟩
set_option maxHeartbeats 2000000 in
set_option maxRecDepth 100000 in
/-- .. and longer than the text. -/
theorem idx_far0 (s : ByteArray) {r : Int} (h4 : s.size < (Utf8.encode r).size) (hr : isR r = true) (h1 : 128 ≤ r) (h2 : ¬ r = 65533) (w : World) :
    Calls Tryz.prog 200 #[.string s, .int .i32 r] w fun e w' => e = .returned (.int .i64 (-1)) ∧ Below w.heap.size w w' := by
  obtain ⟨hn2, hn4, hb⟩ := enc_last hr h1
  have cV := validRune_c r
  rw [hr] at cV
  have hi := isR_is hr
  obtain ⟨n, hn⟩ : ∃ n, (Utf8.encode r).size = n + 1 := ⟨(Utf8.encode r).size - 1, by omega⟩
  have hn3 : n ≤ 3 := by omega
  have n0 : (0 : Int) ≤ (n : Int) := by omega
  have hz : ((Utf8.encode r).size : Int) = (n : Int) + 1 := by omega
  have hw1 : IntKind.i64.wrap ((n : Int) + 1 - 1) = (n : Int) := by rw [IntKind.wrap_i64]; omega
  have hge : ¬ ((n : Int) < (s.size : Int)) := by omega
  have e1 : ¬ (r < 128) := by omega
  have e2 : (r == 65533) = false := by rw [beq_eq_false_iff_ne]; exact h2
  have r0 : (0 : Int) ≤ r := by omega
  clear hr h1 h2 hi hn2 hn4 h4 hb hn
  go_enter Tryz.func200, Tryz.ntmps200
  go_wp2_with (first | (go_at_call 173; refine (cV _).mono ?_; rintro e w' ⟨rfl, rfl⟩))
  go_step3
  go_wp2_with fail
  refine wp_loop_rounds 1 ?_
  rw [rounds_succ]
  go_wp2_with fail
  rw [Exit.noGoto_ret]
  go_ret
  exact ⟨rfl, Below.refl _ _⟩
theorem idx_far (s : ByteArray) (has : Ascii s) (hs : s.size ≤ 1000) (r : Int) (hr : isR r = true) (h1 : 128 ≤ r) (h2 : ¬ r = 65533) (w : World) :
    Calls Tryz.prog 200 #[.string s, .int .i32 r] w fun e w' => e = .returned (.int .i64 (-1)) ∧ Below w.heap.size w w' := by
  by_cases h4 : (Utf8.encode r).size ≤ s.size
  · exact idx_far1 s has hs h4 hr h1 h2 w
  · exact idx_far0 s (by omega) hr h1 h2 w
set_option maxRecDepth 100000 in
theorem idxRune_c (s : ByteArray) (has : Ascii s) (hs : s.size ≤ 1000) (r : Int) (w : World) :
    Calls Tryz.prog 200 #[.string s, .int .i32 r] w fun e w' => e = .returned (.int .i64 (idxR s r)) ∧ Below w.heap.size w w' := by
  unfold idxR
  by_cases h0 : 0 ≤ r ∧ r < 128
  · rw [if_pos h0]
    refine (Tryz.strings_IndexRune_ascii s r w h0.1 h0.2).mono ?_
    rintro e w' ⟨rfl, rfl⟩
    exact ⟨rfl, Below.refl _ _⟩
  · rw [if_neg h0]
    by_cases hb : r = 65533
    · subst hb
      exact idx_bad s has hs w
    · cases hr : isR r with
      | true => exact idx_far s has hs r hr (by have := isR_is hr; omega) hb w
      | false =>
        have cV := validRune_c r
        rw [hr] at cV
        have hb' : (r == 65533) = false := by rw [beq_eq_false_iff_ne]; exact hb
        by_cases hn : r < 0
        · have hn' : ¬ (0 ≤ r) := by omega
          clear hr hb h0
          go_enter Tryz.func200, Tryz.ntmps200
          go_wp2_with (first | (go_at_call 173; refine (cV _).mono ?_; rintro e w' ⟨rfl, rfl⟩))
          go_ret
          exact ⟨rfl, Below.refl _ _⟩
        · have hn' : 0 ≤ r := by omega
          have hn2 : ¬ (r < 128) := by omega
          clear hr hb h0 hn
          go_enter Tryz.func200, Tryz.ntmps200
          go_wp2_with (first | (go_at_call 173; refine (cV _).mono ?_; rintro e w' ⟨rfl, rfl⟩))
          go_ret
          exact ⟨rfl, Below.refl _ _⟩
set_option maxRecDepth 100000 in
theorem hasRune_c (s : ByteArray) (has : Ascii s) (hs : s.size ≤ 1000) (r : Int) (w : World) :
    Calls Tryz.prog 171 #[.string s, .int .i32 r] w fun e w' => e = .returned (.bool (decide (0 ≤ idxR s r))) ∧ Below w.heap.size w w' := by
  have c := idxRune_c s has hs r w
  clear has hs
  go_enter Tryz.func171, Tryz.ntmps171
  go_wp2_with fail
  refine c.mono ?_
  rintro e w' ⟨rfl, hb⟩
  go_wp2
  go_ret
  exact ⟨rfl, hb⟩
end Go.Proofs.YtfioknaadbgjlaaGreatDoor.F
namespace Go.Proofs.YtfioknaadbgjlaaGreatDoor.F
open Go.RowKit Go.Lib
theorem bt_list {b : ByteArray} {k : Nat} (hk : k < b.size) : b.data.toList[k]? = some (b[k]'hk) ∧ Go.PlainAid.bt b k = ((b[k]'hk).toNat : Int) := by
  refine ⟨?_, (Go.PlainAid.get_bt b k hk).symm⟩
  rw [List.getElem?_eq_getElem (by simpa using hk)]
  simp [ByteArray.getElem_eq_getElem_data]
theorem enc_high {r : Int} (h : isR r = true) (h1 : 128 ≤ r) : ∀ x ∈ encodeRune r, 128 ≤ x.toNat := by
  have hi := isR_is h
  obtain ⟨n, rfl⟩ : ∃ n : Nat, r = (n : Int) := ⟨r.toNat, by omega⟩
  by_cases h2 : n < 2048
  · rw [enc2 n (by omega) h2]
    intro x hx
    simp only [List.mem_cons, List.not_mem_nil, or_false] at hx
    rcases hx with rfl | rfl <;> rw [u8n _ (by omega)] <;> omega
  · by_cases h3 : n < 65536
    · rw [enc3 n (by omega) h3 (by omega)]
      intro x hx
      simp only [List.mem_cons, List.not_mem_nil, or_false] at hx
      rcases hx with rfl | rfl | rfl <;> rw [u8n _ (by omega)] <;> omega
    · rw [enc4 n (by omega) (by omega)]
      intro x hx
      simp only [List.mem_cons, List.not_mem_nil, or_false] at hx
      rcases hx with rfl | rfl | rfl | rfl <;> rw [u8n _ (by omega)] <;> omega
/-- What a range over bytes finds at a place: a byte of ASCII, or a character above it that swallows none of ASCII. -/
theorem scan_step {b : ByteArray} {pos : Nat} (hp : pos < b.size) :
    (Go.PlainAid.bt b pos < 128 ∧ ((Utf8.decode b pos).1 : Int) = Go.PlainAid.bt b pos ∧ (Utf8.decode b pos).2 = 1) ∨
    (128 ≤ (Utf8.decode b pos).1 ∧ 1 ≤ (Utf8.decode b pos).2 ∧ pos + (Utf8.decode b pos).2 ≤ b.size ∧ ∀ k, pos ≤ k → k < pos + (Utf8.decode b pos).2 → 128 ≤ Go.PlainAid.bt b k) := by
  have hB := (bt_list hp).2
  by_cases h8 : Go.PlainAid.bt b pos < 128
  · left
    have h9 := decode_ascii b pos hp (by omega)
    rw [h9]
    exact ⟨h8, hB.symm, rfl⟩
  · right
    have hdd := Lib.decodeL_drop b pos
    have hz := len_list b
    have hne : b.data.toList.drop pos ≠ [] := by
      intro h
      have := congrArg List.length h
      rw [List.length_drop, List.length_nil] at this
      omega
    have hat : ∀ k, pos ≤ k → k < b.size → (b.data.toList.drop pos)[k - pos]? = some (UInt8.ofNat (Go.PlainAid.bt b k).toNat) := fun k h1 h2 => by
      rw [List.getElem?_drop, show pos + (k - pos) = k by omega, (bt_list h2).1, (bt_list h2).2]
      simp
    rcases nextL_facts (b.data.toList.drop pos) with h0 | ⟨_, hd, hR, h1, h4, hle, he⟩
    · rw [nextL_dec hne, hdd] at h0
      by_cases hb : (Utf8.decode b pos).1 = 65533 ∧ (Utf8.decode b pos).2 = 1
      · rw [hb.1, hb.2]
        exact ⟨by omega, by omega, by omega, fun k h1 h2 => by have : k = pos := by omega
                                                               subst this; omega⟩
      · rw [if_neg hb] at h0
        exfalso
        have hw := (decode_high b pos hp (by omega)).2
        rw [h0] at hw
        exact absurd hw (by decide)
    · rw [hd, hdd] at hR h1 h4 hle he
      rw [List.length_drop, hz] at hle
      have hmem : ∀ k, pos ≤ k → k < pos + (Utf8.decode b pos).2 → UInt8.ofNat (Go.PlainAid.bt b k).toNat ∈ encodeRune ((Utf8.decode b pos).1 : Int) := fun k h1 h2 => by
        rw [he]
        have h3 := hat k h1 (by omega)
        refine List.mem_of_getElem? (i := k - pos) ?_
        rw [List.getElem?_take, if_pos (by omega)]
        exact h3
      have hge : 128 ≤ (Utf8.decode b pos).1 := by
        by_cases hge : 128 ≤ (Utf8.decode b pos).1
        · exact hge
        · exfalso
          have h5 := hmem pos (Nat.le_refl _) (by omega)
          rw [enc1 _ (by omega)] at h5
          simp only [List.mem_cons, List.not_mem_nil, or_false] at h5
          have h6 := congrArg UInt8.toNat h5
          have h7 := Go.PlainAid.bt_le b pos
          have h8' := Go.PlainAid.bt_nonneg b pos
          rw [u8n _ (by omega), u8n _ (by omega)] at h6
          omega
      refine ⟨hge, h1, by omega, fun k h5 h6 => ?_⟩
      have h7 := enc_high hR (by omega) _ (hmem k h5 h6)
      have h8' := Go.PlainAid.bt_le b k
      have h9 := Go.PlainAid.bt_nonneg b k
      rw [u8n _ (by omega)] at h7
      omega
def twoZ : ByteArray := ⟨#[0, 47]⟩
theorem idx_two (r : Int) : (0 ≤ idxR twoZ r) ↔ (r = 0 ∨ r = 47) := by
  unfold idxR
  by_cases h : 0 ≤ r ∧ r < 128
  · rw [if_pos h]
    obtain ⟨n, rfl⟩ : ∃ n : Nat, r = (n : Int) := ⟨r.toNat, by omega⟩
    have key : ∀ m : Nat, m < 128 → ((0 ≤ Lib.indexByte twoZ.data.toList m.toUInt8) ↔ (m = 0 ∨ m = 47)) := by decide +kernel
    have := key n (by omega)
    rw [show ((n : Int)).toNat = n by omega, this]
    omega
  · rw [if_neg h]; omega
end Go.Proofs.YtfioknaadbgjlaaGreatDoor.F
namespace Go.Proofs.YtfioknaadbgjlaaGreatDoor.F
open Go.RowKit Go.Lib
def resS : ByteArray := ⟨#[34, 37, 42, 47, 58, 60, 62, 63, 92, 124]⟩
theorem resS_ascii : Ascii resS := by
  have key : ∀ j : Nat, j < 10 → ∀ b, resS.data.toList[j]? = some b → b.toNat < 128 := by decide +kernel
  intro j b h
  by_cases hj : j < 10
  · exact key j hj b h
  · rw [List.getElem?_eq_none (by show (10 : Nat) ≤ j; omega)] at h
    cases h
theorem idx_res (r : Int) : (0 ≤ idxR resS r) ↔ r ∈ resT := by
  unfold idxR
  by_cases h : 0 ≤ r ∧ r < 128
  · rw [if_pos h]
    obtain ⟨n, rfl⟩ : ∃ n : Nat, r = (n : Int) := ⟨r.toNat, by omega⟩
    have key : ∀ m : Nat, m < 128 → ((0 ≤ Lib.indexByte resS.data.toList m.toUInt8) ↔ (m : Int) ∈ resT) := by decide +kernel
    have := key n (by omega)
    rw [show ((n : Int)).toNat = n by omega, this]
  · rw [if_neg h]
    refine ⟨fun h1 => absurd h1 (by decide), fun h1 => ?_⟩
    simp [resT] at h1
    omega
set_option maxRecDepth 100000 in
theorem esRes_c (r : Int) (w : World) : Calls Tryz.prog 133 #[.int .i32 r] w fun e w' => e = .returned (.bool (reservedI r)) ∧ Below w.heap.size w w' := by
  have cH := hasRune_c ⟨#[34, 37, 42, 47, 58, 60, 62, 63, 92, 124]⟩ resS_ascii (by decide) r w
  have hi := idx_res r
  unfold resS at hi
  by_cases h32 : 0 ≤ r ∧ r < 32
  · have HX : Hid (reservedI r = true) := Lib.hid (decide_eq_true (Or.inr (Or.inl h32)))
    obtain ⟨h0, h1⟩ := h32
    clear cH hi
    go_enter Tryz.func133, Tryz.ntmps133
    go_wp2
    go_ret
    exact ⟨by rw [HX.out]; rfl, Below.refl _ _⟩
  · by_cases h127 : r = 127
    · have HX : Hid (reservedI r = true) := Lib.hid (decide_eq_true (Or.inr (Or.inr h127)))
      subst h127
      clear cH hi h32
      go_enter Tryz.func133, Tryz.ntmps133
      go_wp2
      go_ret
      exact ⟨by rw [HX.out]; rfl, Below.refl _ _⟩
    · have HX : Hid (reservedI r = decide (0 ≤ idxR ⟨#[34, 37, 42, 47, 58, 60, 62, 63, 92, 124]⟩ r)) := Lib.hid (by
        unfold reservedI
        rw [decide_eq_decide, hi]
        exact ⟨fun h => by rcases h with h | h | h
                           · exact h
                           · exact absurd h h32
                           · exact absurd h h127, Or.inl⟩)
      have e127 : (r == 127) = false := by rw [beq_eq_false_iff_ne]; exact h127
      clear hi
      generalize decide (0 ≤ idxR ⟨#[34, 37, 42, 47, 58, 60, 62, 63, 92, 124]⟩ r) = D at *
      by_cases h0 : 0 ≤ r
      · have h1 : ¬ (r < 32) := fun h => h32 ⟨h0, h⟩
        clear h32 h127
        go_enter Tryz.func133, Tryz.ntmps133
        go_wp2_with (first | (go_at_call 171; refine cH.mono ?_; rintro e w' ⟨rfl, hb⟩))
        go_ret
        exact ⟨by rw [HX.out]; rfl, hb⟩
      · clear h32 h127
        go_enter Tryz.func133, Tryz.ntmps133
        go_wp2_with (first | (go_at_call 171; refine cH.mono ?_; rintro e w' ⟨rfl, hb⟩))
        go_ret
        exact ⟨by rw [HX.out]; rfl, hb⟩
/-- Is a piece escaped on every disk? -/
def hidI (r : Int) (last : Bool) : Bool := (last && decide (r = 46 ∨ r = 32)) || (decide (r < 0) || reservedI r)
set_option maxRecDepth 100000 in
theorem hidden_c (r : Int) (s : ByteArray) (last : Bool) (w : World) : Calls Tryz.prog 95 #[.agg #[.int .i32 r, .string s, .bool last]] w fun e w' => e = .returned (.bool (hidI r last)) ∧ Below w.heap.size w w' := by
  have cR := esRes_c r
  have HB : Hid (∀ o, Below w.heap.size w (w.alloc o)) := Lib.hid fun o => (Below.refl _ _).alloc (Nat.le_refl _) o
  have key : ∀ e46 e32 : Bool, (r == 46) = e46 → (r == 32) = e32 → ∀ e0 : Bool, decide (r < 0) = e0 → ∀ R : Bool, reservedI r = R → hidI r last = ((last && (e46 || e32)) || (e0 || R)) := by
    intro e46 e32 h46 h32 e0 h0 R hR
    unfold hidI
    rw [h0, hR, ← h46, ← h32]
    congr 2
    by_cases a : r = 46
    · subst a; rfl
    · by_cases b : r = 32
      · subst b; rfl
      · rw [decide_eq_false (by omega), beq_eq_false_iff_ne.2 a, beq_eq_false_iff_ne.2 b]; rfl
  have HK := Lib.hid key
  clear key
  cases last with
  | true =>
    by_cases h46 : r = 46
    · subst h46
      have HX : Hid (hidI 46 true = true) := Lib.hid rfl
      clear cR HK
      go_enter Tryz.func95, Tryz.ntmps95
      go_wp2
      go_ret
      exact ⟨by rw [HX.out]; rfl, HB.out _⟩
    · by_cases h32 : r = 32
      · subst h32
        have HX : Hid (hidI 32 true = true) := Lib.hid rfl
        clear cR HK h46
        go_enter Tryz.func95, Tryz.ntmps95
        go_wp2
        go_ret
        exact ⟨by rw [HX.out]; rfl, HB.out _⟩
      · have e46 : (r == 46) = false := by rw [beq_eq_false_iff_ne]; exact h46
        have e32 : (r == 32) = false := by rw [beq_eq_false_iff_ne]; exact h32
        clear h46 h32
        by_cases h0 : r < 0
        · have HX := Lib.hid (HK.out _ _ e46 e32 _ (decide_eq_true h0) _ rfl)
          clear HK
          go_enter Tryz.func95, Tryz.ntmps95
          go_wp2
          go_ret
          exact ⟨by rw [HX.out]; rfl, HB.out _⟩
        · have HX := Lib.hid (HK.out _ _ e46 e32 _ (decide_eq_false h0) _ rfl)
          clear HK
          go_enter Tryz.func95, Tryz.ntmps95
          go_wp2_with (first | (go_at_call 133; refine (cR _).mono ?_; rintro e w' ⟨rfl, hb⟩))
          go_ret
          exact ⟨by rw [HX.out]; rfl, (HB.out _).trans (hb.mono (HB.out _).size)⟩
  | false =>
    by_cases h0 : r < 0
    · have HX := Lib.hid (HK.out _ _ rfl rfl _ (decide_eq_true h0) _ rfl)
      clear HK
      go_enter Tryz.func95, Tryz.ntmps95
      go_wp2
      go_ret
      exact ⟨by rw [HX.out]; rfl, HB.out _⟩
    · have HX := Lib.hid (HK.out _ _ rfl rfl _ (decide_eq_false h0) _ rfl)
      clear HK
      go_enter Tryz.func95, Tryz.ntmps95
      go_wp2_with (first | (go_at_call 133; refine (cR _).mono ?_; rintro e w' ⟨rfl, hb⟩))
      go_ret
      exact ⟨by rw [HX.out]; rfl, (HB.out _).trans (hb.mono (HB.out _).size)⟩
end Go.Proofs.YtfioknaadbgjlaaGreatDoor.F
namespace Go.Proofs.YtfioknaadbgjlaaGreatDoor.F
open Go.RowKit Go.Sort
theorem hasWriter : HasBld 115 1 := ⟨by decide, by kernel_rfl⟩
/-- The writer in block b: its text, and the characters that wait. -/
def WS (B b : Nat) (text : List UInt8) (wait : List Int) (w : World) : Prop := ∃ vw, IsBld 115 [vw] B b (Lib.byteCells text) w ∧ OwnI B w vw wait
theorem OwnI.intKept {B : Nat} {w w' : World} {v : Value} {xs : List Int} (h : OwnI B w v xs) (hk : KeptT 21 w w') : OwnI B w' v xs := by
  refine ⟨h.1, ?_⟩
  rcases h.2 with h0 | ⟨g, cap, cur, hv, hg, hb, rest⟩
  · exact Or.inl h0
  · exact Or.inr ⟨g, cap, cur, hv, hg, hk _ _ _ hb, rest⟩
theorem byteCells_one (x : UInt8) : Lib.byteCells [x] = [.int .u8 (x.toNat : Int)] := rfl
theorem WS.byte {B b : Nat} {text : List UInt8} {wait : List Int} {w : World} (h : WS B b text wait w) (x : UInt8) (c : Int) (hc : c = (x.toNat : Int)) (hl : text.length ≤ 100000) (hBw : B ≤ w.heap.size) :
    Calls Tryz.prog 134 #[.pointer (some ⟨b, 0, none⟩), .int .u8 c] w fun e w' => e = .returned .nilIface ∧ WS B b (text ++ [x]) wait w' ∧ Below B w w' := by
  obtain ⟨vw, hb, ho⟩ := h
  subst hc
  refine (wbyte_c hasWriter B b _ _ w hb (by rw [Lib.byteCells_length]; omega) hBw).mono ?_
  rintro e w' ⟨rfl, hb', hbel, hk⟩
  refine ⟨rfl, ⟨vw, Or.inr ?_, ho.intKept (hk _ (by decide) (by decide))⟩, hbel⟩
  rw [Lib.byteCells_append, byteCells_one]
  exact hb'
theorem WS.str {B b : Nat} {text : List UInt8} {wait : List Int} {w : World} (h : WS B b text wait w) (s : ByteArray) (hl : text.length + s.size ≤ 1000000) (hBw : B ≤ w.heap.size) :
    Calls Tryz.prog 97 #[.pointer (some ⟨b, 0, none⟩), .string s] w fun e w' => e = .returned (.tuple #[.int .i64 s.size, .nilIface]) ∧ WS B b (text ++ s.data.toList) wait w' ∧ Below B w w' ∧ KeptT 158 w w' := by
  obtain ⟨vw, hb, ho⟩ := h
  refine (wstr_c hasWriter B b _ s w hb (by rw [Lib.byteCells_length]; omega) hBw).mono ?_
  rintro e w' ⟨rfl, hb', hbel, hk⟩
  refine ⟨rfl, ⟨vw, Or.inr ?_, ho.intKept (hk _ (by decide) (by decide))⟩, hbel, hk _ (by decide) (by decide)⟩
  rw [Lib.byteCells_append, ← Lib.strCells_eq]
  exact hb'
theorem WS.drew {B b : Nat} {text : List UInt8} {wait : List Int} {w : World} (h : WS B b text wait w) : WS B b text wait w.drew := by
  obtain ⟨vw, hb, ho⟩ := h
  exact ⟨vw, hb.below ((Below.refl _ _).drew), ho.below ((Below.refl _ _).drew)⟩
theorem hexB_at : ∀ u : Nat, u < 16 → Go.PlainAid.bt ⟨#[48, 49, 50, 51, 52, 53, 54, 55, 56, 57, 97, 98, 99, 100, 101, 102]⟩ u = ((hexT.getD u 0).toNat : Int) := by decide +kernel
set_option maxHeartbeats 2000000 in
set_option maxRecDepth 100000 in
theorem esc_c (B b : Nat) (text : List UInt8) (wait : List Int) (s : ByteArray) (w : World) (h : WS B b text wait w) (hs : s.size ≤ 1000) (hl : text.length ≤ 50000) (hBw : B ≤ w.heap.size) :
    Calls Tryz.prog 96 #[.pointer (some ⟨b, 0, none⟩), .string s] w fun e w' => e = .returned (.tuple #[]) ∧ WS B b (text ++ escL s.data.toList) wait w' ∧ Below B w w' := by
  have hB := Go.PlainAid.get_bt s
  have HW := Lib.hid h
  have HBw := Lib.hid hBw
  clear h hBw
  go_enter Tryz.func96, Tryz.ntmps96
  go_wp2
  go_loopg [8] s.size (fun g iv wr => ∃ i : Nat, i + g = s.size ∧ iv = .int .i64 i ∧ WS B b (text ++ escL (s.data.toList.take i)) wait wr ∧ Below B w wr)
  case atStart => exact ⟨0, by omega, rfl, by simpa [escL] using HW.out, Below.refl _ _⟩
  case round =>
    obtain ⟨i, hig, rfl, hws, hbel⟩ := hrel
    have HS := Lib.hid hws
    clear hws
    by_cases hlt : i < s.size
    · have hz : (i : Int) < (s.size : Int) := by omega
      obtain ⟨A, hA⟩ : ∃ A : Int, Go.PlainAid.bt s i = A := ⟨_, rfl⟩
      have a0 : 0 ≤ A := by have := Go.PlainAid.bt_nonneg s i; omega
      have a1 : A ≤ 255 := by have := Go.PlainAid.bt_le s i; omega
      obtain ⟨x, hx⟩ : ∃ x : Nat, A = (x : Int) := ⟨A.toNat, by omega⟩
      subst hx
      have hlen : (text ++ escL (s.data.toList.take i)).length ≤ 60000 := by
        rw [List.length_append, escL_length, List.length_take]; omega
      obtain ⟨t0, ht0⟩ : ∃ t0, text ++ escL (s.data.toList.take i) = t0 := ⟨_, rfl⟩
      have HST := Lib.hid (esc_step hlt hA)
      rw [ht0] at HS hlen
      have hB' := Go.PlainAid.get_bt ⟨#[48, 49, 50, 51, 52, 53, 54, 55, 56, 57, 97, 98, 99, 100, 101, 102]⟩
      have c1 := HS.out.byte 37 37 rfl (by omega) (by have := hbel.size; have := HBw.out; omega)
      go_wp2_with (first | (go_at_call 134; refine c1.mono ?_; rintro e w1 ⟨rfl, hs1, hb1⟩))
      obtain ⟨u, hu⟩ : ∃ u : Nat, x / 16 = u := ⟨_, rfl⟩
      obtain ⟨v, hv⟩ : ∃ v : Nat, x % 16 = v := ⟨_, rfl⟩
      have hu1 : (x : Int) / 16 = (u : Int) := by omega
      have hv1 : (x : Int) % 16 = (v : Int) := by omega
      have ha15 : bits BinOp.and IntKind.u8 (x : Int) 15 = (v : Int) := (Go.bits_mask .u8 8 (by decide) wraps_u8 4 (by decide) (x : Int) (by omega) (by omega)).trans hv1
      have hul : (u : Int) < 16 := by omega
      have hvl : (v : Int) < 16 := by omega
      have u0 : (0 : Int) ≤ (u : Int) := by omega
      have v0 : (0 : Int) ≤ (v : Int) := by omega
      have ut : ((u : Int)).toNat = u := by omega
      have vt : ((v : Int)).toNat = v := by omega
      have hbu := hexB_at u (by omega)
      have hbv := hexB_at v (by omega)
      rw [hu, hv] at HST
      generalize hexT.getD u 0 = D at *
      generalize hexT.getD v 0 = E at *
      have c2 := hs1.drew.byte D (D.toNat : Int) rfl (by rw [List.length_append]; simp; omega) (by have := hbel.size; have := hb1.size; have := HBw.out; show B ≤ w1.heap.size; omega)
      go_region_with (go_at_call 134; refine c2.mono ?_; rintro e w2 ⟨rfl, hs2, hb2⟩)
      have hbw2 : Below B w w2 := (hbel.trans hb1).trans ((Below.refl B w1).drew.trans hb2)
      have c3 := hs2.drew.byte E (E.toNat : Int) rfl (by simp only [List.length_append, List.length_cons, List.length_nil]; omega) (by have := hbw2.size; have := HBw.out; show B ≤ w2.heap.size; omega)
      clear hb2 hb1 c2 c1 hs1 hs2
      have HF : Hid (∀ w3, WS B b (t0 ++ [37] ++ [D] ++ [E]) wait w3 → WS B b (text ++ escL (s.data.toList.take (i + 1))) wait w3) := Lib.hid (fun w3 h3 => by
        rw [HST.out, ← List.append_assoc, ht0]
        have e9 : t0 ++ [37, D, E] = t0 ++ [37] ++ [D] ++ [E] := by simp
        rw [e9]
        exact h3)
      go_wp2_with fail
      go_still_tail 6, (by kernel_rfl)
      go_wp2_with (first | (go_at_call 134; refine c3.mono ?_; rintro e w3 ⟨rfl, hs3, hb3⟩))
      have HF3 := Lib.hid (HF.out _ hs3)
      have HB3 : Hid (Below B w w3) := Lib.hid (hbw2.trans ((Below.refl B w2).drew.trans hb3))
      clear hs3 hb3 c3 hbw2 HF
      go_wp2
      go_roundg (s.size - (i + 1))
      case measure => omega
      case rel => exact ⟨i + 1, by omega, by first | rfl | go_num, HF3.out, HB3.out⟩
    · have hie : i = s.size := by omega
      have HF : Hid (WS B b (text ++ escL s.data.toList) wait wr) := Lib.hid (by
        have := HS.out
        rwa [List.take_of_length_le (by simp; omega)] at this)
      have hge : ¬ ((i : Int) < (s.size : Int)) := by omega
      clear hie hlt hig
      go_wp2
      go_end0
      exact ⟨rfl, HF.out, hbel⟩
end Go.Proofs.YtfioknaadbgjlaaGreatDoor.F
namespace Go.Proofs.YtfioknaadbgjlaaGreatDoor.F
open Go.RowKit Go.Sort
theorem WS.below {B b : Nat} {text : List UInt8} {wait : List Int} {w w' : World} (h : WS B b text wait w) (hb : Below w.heap.size w w') : WS B b text wait w' := by
  obtain ⟨vw, hb1, ho⟩ := h
  exact ⟨vw, hb1.below hb, ho.below hb⟩
theorem WS.alloc {B b : Nat} {text : List UInt8} {wait : List Int} {w : World} (h : WS B b text wait w) (o : Obj) : WS B b text wait (w.alloc o) := h.below ((Below.refl _ _).alloc (Nat.le_refl _) o)
theorem box_cell {w w2 : World} {cs : Array Value} {t : TypeId} (hb : Below (w.alloc (.cells cs t)).heap.size (w.alloc (.cells cs t)) w2) (j : Nat) : w2.cell? ⟨w.heap.size, j, none⟩ = cs[j]? := by
  rw [hb.cell (p := ⟨w.heap.size, j, none⟩) (by show w.heap.size < (w.heap.push _).size; simp)]
  exact World.cell?_alloc_at _ _ _ _ rfl
abbrev boxP (w : World) (r : Int) (s : ByteArray) (last : Bool) : World := w.alloc (.cells #[.int .i32 r, .string s, .bool last] 158)
set_option maxHeartbeats 1000000 in
set_option maxRecDepth 100000 in
theorem take_c (B b : Nat) (text : List UInt8) (wait : List Int) (r : Int) (s : ByteArray) (last : Bool) (w : World) (h : WS B b text wait w) (hs : s.size ≤ 1000) (hl : text.length ≤ 50000) (hBw : B ≤ w.heap.size) :
    Calls Tryz.prog 53 #[.pointer (some ⟨b, 0, none⟩), .agg #[.int .i32 r, .string s, .bool last]] w fun e w' => e = .returned (.tuple #[]) ∧ WS B b (text ++ (if hidI r last = true then escL s.data.toList else (bsOf r).data.toList)) wait w' ∧ Below B w w' := by
  have cH := hidden_c r s last (boxP w r s last)
  have hw1 := h.alloc (.cells #[.int .i32 r, .string s, .bool last] 158)
  have hb1 : Below B w (boxP w r s last) := (Below.refl B w).alloc hBw _
  have hsz : B ≤ (boxP w r s last).heap.size := by have := hb1.size; omega
  have HB := Lib.hid hBw
  have h4 := bsOf_size r
  cases hD : hidI r last with
  | true =>
    rw [hD] at cH
    rw [if_pos rfl]
    clear hD h
    go_enter Tryz.func53, Tryz.ntmps53
    go_wp2_with (first | (go_at_call 95; refine cH.mono ?_; rintro e w2 ⟨rfl, hb2⟩; have k1 := box_cell hb2 1))
    have c3 := esc_c B b text wait s w2 (hw1.below hb2) hs hl (by have := hb2.size; omega)
    have k1' : w2.cell? ⟨w.heap.size, 1, none⟩ = some (.string s) := k1
    clear k1
    go_wp2_with (first | (go_at_call 96; refine c3.mono ?_; rintro e w3 ⟨rfl, hs3, hb3⟩))
    ((try simp only [Exit.inBlock, Exit.then]); refine bodyPost_ret (results_none rfl _ _ _) rfl ?_)
    exact ⟨rfl, hs3, (hb1.trans (hb2.mono hsz)).trans hb3⟩
  | false =>
    rw [hD] at cH
    rw [if_neg (by decide)]
    clear hD h
    go_enter Tryz.func53, Tryz.ntmps53
    go_wp2_with (first | (go_at_call 95; refine cH.mono ?_; rintro e w2 ⟨rfl, hb2⟩; have k1 := box_cell hb2 0))
    have hw2 := (hw1.below hb2).drew
    have c3 := bytes_c r w2.drew
    have k1' : w2.cell? ⟨w.heap.size, 0, none⟩ = some (.int .i32 r) := k1
    have k2' : w2.drew.cell? ⟨w.heap.size, 0, none⟩ = some (.int .i32 r) := k1
    have c4 := hw2.str (bsOf r) (by omega) (by have := hb2.size; show B ≤ w2.heap.size; omega)
    clear k1
    go_region_with (first | (go_at_call 98; refine c3.mono ?_; rintro e w' ⟨rfl, rfl⟩) | (go_at_call 97; refine c4.mono ?_; rintro e w4 ⟨rfl, hs4, hb4, _⟩))
    all_goals go_end0
    all_goals exact ⟨rfl, hs4, (hb1.trans (hb2.mono hsz)).trans ((Below.refl B w2).drew.trans hb4)⟩
set_option maxHeartbeats 1000000 in
set_option maxRecDepth 100000 in
theorem takeIrr_c (B b : Nat) (text : List UInt8) (wait : List Int) (r : Int) (s : ByteArray) (last : Bool) (w : World) (h : WS B b text wait w) (hs : s.size ≤ 1000) (hs0 : 0 < s.size) (hl : text.length ≤ 50000) (hBw : B ≤ w.heap.size) :
    Calls Tryz.prog 56 #[.pointer (some ⟨b, 0, none⟩), .agg #[.int .i32 r, .string s, .bool last]] w fun e w' => e = .returned (.tuple #[]) ∧ WS B b (text ++ (if 128 ≤ Go.PlainAid.bt s 0 ∨ hidI r last = true then escL s.data.toList else (bsOf r).data.toList)) wait w' ∧ Below B w w' := by
  have hw1 := h.alloc (.cells #[.int .i32 r, .string s, .bool last] 158)
  have hb1 : Below B w (boxP w r s last) := (Below.refl B w).alloc hBw _
  have hsz : B ≤ (boxP w r s last).heap.size := by have := hb1.size; omega
  have hB := Go.PlainAid.get_bt s
  obtain ⟨A, hA⟩ : ∃ A : Int, Go.PlainAid.bt s 0 = A := ⟨_, rfl⟩
  rw [hA]
  have hsz0 : (0 : Int) < (s.size : Int) := by omega
  by_cases h8 : 128 ≤ A
  · rw [if_pos (Or.inl h8)]
    have c3 := esc_c B b text wait s (boxP w r s last) hw1 hs hl hsz
    clear h hBw
    go_enter Tryz.func56, Tryz.ntmps56
    go_wp2_with (first | (go_at_call 96; refine c3.mono ?_; rintro e w3 ⟨rfl, hs3, hb3⟩))
    ((try simp only [Exit.inBlock, Exit.then]); refine bodyPost_ret (results_none rfl _ _ _) rfl ?_)
    exact ⟨rfl, hs3, hb1.trans hb3⟩
  · have c3 := take_c B b text wait r s last (boxP w r s last) hw1 hs hl hsz
    have e : (128 ≤ A ∨ hidI r last = true) ↔ hidI r last = true := ⟨fun h => h.resolve_left h8, Or.inr⟩
    simp only [e]
    clear h hBw e
    generalize text ++ (if hidI r last = true then escL s.data.toList else (bsOf r).data.toList) = TT at *
    go_enter Tryz.func56, Tryz.ntmps56
    go_wp2_with (first | (go_at_call 53; refine c3.mono ?_; rintro e w3 ⟨rfl, hs3, hb3⟩))
    go_end0
    exact ⟨rfl, hs3, hb1.trans hb3⟩
/-- The cell of what waits. -/
theorem Bld.rest {T : TypeId} {x y : Value} {B b : Nat} {p : Value} {bs : List Value} {w : World} (h : Bld T [x] B b p bs w) : Bld T [y] B b p bs (w.setCell ⟨b, 2, none⟩ y) := by
  have hlt := h.lt
  obtain ⟨hB, v, hb, hown, hne⟩ := h
  refine ⟨hB, v, ?_, ?_, hne⟩
  · simp [World.setCell, Array.getElem?_modify, hb]
  · refine hown.kept (row := some b) ⟨rfl, rfl, rfl, by simp [World.setCell], fun k _ hk => Below.heap_setCell _ _ _ _ (fun e => hk (by simp [e]))⟩ ?_
    exact Or.inr hne
theorem Bld.cell2 {T : TypeId} {x : Value} {B b : Nat} {p : Value} {bs : List Value} {w : World} (h : Bld T [x] B b p bs w) : w.cell? ⟨b, 2, none⟩ = some x ∧ w.frozen? ⟨b, 2, none⟩ = false := by
  obtain ⟨_, v, hb, _⟩ := h
  exact ⟨by rw [Lib.cell_of_heap hb]; rfl, Lib.frozen_of_heap hb 2⟩
theorem Bld.get {T : TypeId} {R : List Value} {B b : Nat} {p : Value} {bs : List Value} {w : World} (h : Bld T R B b p bs w) : ∃ cs, w.heap[b]? = some (.cells cs T (0, 0)) := by
  obtain ⟨_, v, hb, _⟩ := h
  exact ⟨_, hb⟩
theorem IsBld.cell2 {T : TypeId} {x : Value} {B b : Nat} {bs : List Value} {w : World} (h : IsBld T [x] B b bs w) : w.cell? ⟨b, 2, none⟩ = some x ∧ w.frozen? ⟨b, 2, none⟩ = false := by
  rcases h with h | h
  · exact h.cell2
  · exact h.cell2
/-- Other characters wait. -/
theorem WS.set {B b : Nat} {text : List UInt8} {wait : List Int} {x y : Value} {w : World} (h : IsBld 115 [x] B b (Lib.byteCells text) w) (ho : OwnI B w y wait) : WS B b text wait (w.setCell ⟨b, 2, none⟩ y) := by
  have hk : KeptT 21 w (w.setCell ⟨b, 2, none⟩ y) := by
    rcases h with h | h
    · obtain ⟨cs, hb⟩ := h.get
      exact KeptT.set hb (by decide) _
    · obtain ⟨cs, hb⟩ := h.get
      exact KeptT.set hb (by decide) _
  refine ⟨y, ?_, ho.intKept hk⟩
  rcases h with h | h
  · exact Or.inl h.rest
  · exact Or.inr h.rest
theorem OwnI.cut0 {B : Nat} {w : World} {v : Value} {xs : List Int} (h : OwnI B w v xs) : ∃ a cap, v = .slice a xs.length cap ∧ OwnI B w (.slice a 0 cap) [] ∧ (a = none → v = .slice none 0 0) := by
  rcases h.2 with ⟨hv, h0⟩ | ⟨g, cap, cur, hv, hg, hb, hn, hm, hs, ht⟩
  · exact ⟨none, 0, by rw [hv, h0], OwnI.nil B w, fun _ => hv⟩
  · refine ⟨some ⟨g, 0, none⟩, cap, hv, ⟨rfl, Or.inr ⟨g, cap, cur, rfl, hg, hb, by simp, hm, hs, by simp⟩⟩, fun h => by cases h⟩
set_option maxHeartbeats 2000000 in
set_option maxRecDepth 100000 in
theorem put_c (B b : Nat) (text : List UInt8) (wait : List Int) (w : World) (h : WS B b text wait w) (hs : wait.length ≤ 900) (hl : text.length ≤ 50000) (hBw : B ≤ w.heap.size) :
    Calls Tryz.prog 101 #[.pointer (some ⟨b, 0, none⟩)] w fun e w' => e = .returned (.tuple #[]) ∧ WS B b (text ++ joinL (togI wait)) [] w' ∧ Below B w w' ∧ KeptT 158 w w' := by
  have HB : Hid (B ≤ b) := Lib.hid (by
    obtain ⟨vw, hb | hb, ho⟩ := h
    · exact hb.1
    · exact hb.1)
  obtain ⟨vw, hb, ho⟩ := h
  have k2 : w.drew.cell? ⟨b, 2, none⟩ = some vw := hb.cell2.1
  have k2' : w.cell? ⟨b, 2, none⟩ = some vw := hb.cell2.1
  have cT := together_c wait vw w.drew (SliceIs.own ho) (by omega)
  unfold TogPost at cT
  have hws : WS B b text wait w.drew := WS.drew ⟨vw, hb, ho⟩
  have hlen := togI_length wait
  have HCJ : Hid (∀ v w2, SliceIs w2 v (togI wait) → Calls Tryz.prog 139 #[v] w2 fun e w' => e = .returned (.string ⟨(joinL (togI wait)).toArray⟩) ∧ Below w2.heap.size w2 w') := Lib.hid fun v w2 h2 => join_c h2 (by omega)
  have hjl := joinL_length (togI wait)
  obtain ⟨J, hJ⟩ : ∃ J : ByteArray, (⟨(joinL (togI wait)).toArray⟩ : ByteArray) = J := ⟨_, rfl⟩
  have hJs : J.size ≤ 3600 := by rw [← hJ]; show (joinL (togI wait)).toArray.size ≤ 3600; simp; omega
  have HJL : Hid (J.data.toList = joinL (togI wait)) := Lib.hid (by rw [← hJ])
  rw [hJ] at HCJ
  have HWS : Hid (∀ w3, Below w.drew.heap.size w.drew w3 → Calls Tryz.prog 97 #[.pointer (some ⟨b, 0, none⟩), .string J] w3 fun e w' => e = .returned (.tuple #[.int .i64 J.size, .nilIface]) ∧ WS B b (text ++ J.data.toList) wait w' ∧ Below B w3 w' ∧ KeptT 158 w3 w') := Lib.hid fun w3 h3 => (hws.below h3).str J (by omega) (by have := h3.size; have e : w.drew.heap.size = w.heap.size := rfl; omega)
  clear hJ hlen hjl hb ho
  go_enter Tryz.func101, Tryz.ntmps101
  go_wp2_with fail
  go_region_with (first | (go_at_call 140; refine cT.mono ?_; rintro e w2 ⟨v2, rfl, hv2, hb2⟩; have cJ := HCJ.out v2 w2 hv2) | (go_at_call 139; refine cJ.mono ?_; rintro e w3 ⟨rfl, hb3⟩; have cW := HWS.out w3 (below_step hb2 hb3)) | (go_at_call 97; refine cW.mono ?_; rintro e w4 ⟨rfl, hs4, hb4, hk4⟩))
  have hbelo : Hid (Below B w w4) := Lib.hid (((Below.refl B w).drew.trans ((below_step hb2 hb3).mono (by show B ≤ w.heap.size; exact hBw))).trans hb4)
  have hkk : KeptT 158 w w4 := (KeptT.below ((Below.refl w.heap.size w).drew.trans (below_step hb2 hb3))).trans hk4
  obtain ⟨vw4, hb4', ho4⟩ := hs4
  rw [HJL.out] at hb4'
  obtain ⟨a4, cap4, hv4, ho4', ha4⟩ := ho4.cut0
  have k4 := hb4'.cell2
  rw [hv4] at k4
  obtain ⟨k4a, k4b⟩ := k4
  have HSET := Lib.hid (WS.set hb4' ho4')
  have HKK : Hid (∀ y, KeptT 158 w (w4.setCell ⟨b, 2, none⟩ y)) := Lib.hid fun y => hkk.trans (by
    rcases hb4' with h9 | h9
    · obtain ⟨cs, hb9⟩ := h9.get
      exact KeptT.set hb9 (by decide) _
    · obtain ⟨cs, hb9⟩ := h9.get
      exact KeptT.set hb9 (by decide) _)
  clear cT cJ cW HCJ HWS hb2 hb3 hb4 hv2 k2 k2' hws hb4' hk4 hkk
  cases a4 with
  | none =>
    have e4 := ha4 rfl
    rw [hv4] at e4
    have e5 : cap4 = 0 := by injection e4
    have e6 : wait.length = 0 := by injection e4
    subst e5
    rw [e6] at k4a
    clear hv4 ho4 ho4' e4 e6 ha4
    go_wp2
    go_end0
    exact ⟨rfl, HSET.out, hbelo.out.setCell (p := ⟨b, 2, none⟩) HB.out _, HKK.out _⟩
  | some a4 =>
    have h0c : (0 : Int) ≤ (cap4 : Int) := by omega
    clear hv4 ho4 ho4' ha4
    go_wp2
    go_end0
    exact ⟨rfl, HSET.out, hbelo.out.setCell (p := ⟨b, 2, none⟩) HB.out _, HKK.out _⟩
end Go.Proofs.YtfioknaadbgjlaaGreatDoor.F
namespace Go.Proofs.YtfioknaadbgjlaaGreatDoor.F
open Go.RowKit Go.Sort
def regHide (wait : List Int) (r : Int) (last : Bool) : Bool := (decide (wait = []) && decide (classI r ≠ 0)) || hidI r last
def RegPost (B b : Nat) (text : List UInt8) (wait : List Int) (r : Int) (s : ByteArray) (last : Bool) (w : World) (e : Ending) (w' : World) : Prop :=
  e = .returned (.tuple #[]) ∧ (if regHide wait r last = true then WS B b (text ++ (joinL (togI wait) ++ escL s.data.toList)) [] w' else WS B b text (wait ++ [r]) w') ∧ Below B w w'
theorem box_heap {w w2 : World} {o : Obj} (hb : Below (w.alloc o).heap.size (w.alloc o) w2) : w2.heap[w.heap.size]? = some o := by
  rw [hb.block _ (by show w.heap.size < (w.heap.push _).size; simp)]
  exact heap_alloc_new w o
theorem own_block {w : World} {B : Nat} {e : TypeId} {v : Value} {n : Nat} {xs : List Value} (h : w.ownsRow B e 1 v n xs) : v.ownBlock = none ∨ ∃ g cs, v.ownBlock = some g ∧ w.heap[g]? = some (.cells cs e (0, 0)) := by
  rcases h.2 with ⟨rfl, _⟩ | ⟨g, cap, cur, rfl, _, hg, _⟩
  · exact Or.inl rfl
  · exact Or.inr ⟨g, cur, rfl, hg⟩
/-- A Builder stays while characters are appended elsewhere. -/
theorem IsBld.grownI {T : TypeId} {R : List Value} {B b : Nat} {bs : List Value} {w w' : World} {v : Value} {xs : List Int} (h : IsBld T R B b bs w) (hT : T ≠ 21) (ho : OwnI B w v xs) (hg : w.grownBy w' v.ownBlock) : IsBld T R B b bs w' := by
  have key : ∀ p, Bld T R B b p bs w → Bld T R B b p bs w' := by
    rintro p ⟨hB, u, hbk, hown, hne⟩
    refine ⟨hB, u, by rw [hg.block b (lt_of_get hbk) (fun e => Lib.ownBlock_ne ho hbk hT e.symm)]; exact hbk, hown.kept hg ?_, hne⟩
    rcases own_block hown with h1 | ⟨g1, c1, h1, hh1⟩
    · exact Or.inl h1
    · right
      rcases own_block ho with h2 | ⟨g2, c2, h2, hh2⟩
      · rw [h1, h2]; simp
      · rw [h1, h2]
        intro e
        have e' := Option.some.inj e
        rw [e', hh2] at hh1
        simp only [Option.some.injEq, Obj.cells.injEq] at hh1
        exact absurd hh1.2.1 (by decide)
  rcases h with h | h
  · exact Or.inl (key _ h)
  · exact Or.inr (key _ h)
set_option maxHeartbeats 4000000 in
set_option maxRecDepth 100000 in
theorem takeReg_c (B b : Nat) (text : List UInt8) (wait : List Int) (r : Int) (s : ByteArray) (last : Bool) (w : World) (h : WS B b text wait w) (hs : s.size ≤ 1000) (hw : wait.length ≤ 900) (hl : text.length ≤ 40000) (hBw : B ≤ w.heap.size) :
    Calls Tryz.prog 55 #[.pointer (some ⟨b, 0, none⟩), .agg #[.int .i32 r, .string s, .bool last]] w (RegPost B b text wait r s last w) := by
  unfold RegPost
  obtain ⟨i0, hi, hz0, hz1, hz2⟩ := info_parts infoInt32
  have HBb : Hid (B ≤ b) := Lib.hid (by
    obtain ⟨vw, hb | hb, ho⟩ := h
    · exact hb.1
    · exact hb.1)
  have hw1 := h.alloc (.cells #[.int .i32 r, .string s, .bool last] 158)
  have hb1 : Below B w (boxP w r s last) := (Below.refl B w).alloc hBw _
  have hsz : B ≤ (boxP w r s last).heap.size := by have := hb1.size; omega
  have HB1 := Lib.hid hb1
  have HSZ := Lib.hid hsz
  have cH := hidden_c r s last (boxP w r s last)
  have cC := cls_c r
  have HWS := Lib.hid hw1
  have hws1 := hw1
  obtain ⟨vw, hbld, ho⟩ := hws1
  obtain ⟨a, cap, hv⟩ := (SliceIs.own ho).len
  have k2 := hbld.cell2.1
  rw [hv] at k2
  have HHP : Hid (∀ w2, Below (boxP w r s last).heap.size (boxP w r s last) w2 → w2.heap[w.heap.size]? = some (.cells #[.int .i32 r, .string s, .bool last] 158)) := Lib.hid fun w2 hb2 => box_heap hb2
  have hj1 := joinL_length (togI wait)
  have hj2 := togI_length wait
  have HL1 : Hid ((joinL (togI wait)).length ≤ 3600) := Lib.hid (by omega)
  have HRH : Hid (regHide wait r last = ((decide (wait = []) && decide (classI r ≠ 0)) || hidI r last)) := Lib.hid rfl
  have HBP := Lib.hid hBw
  clear h hw1 hb1 hsz hj1 hj2 hBw hbld hv ho
  by_cases hbare : wait = [] ∧ classI r ≠ 0
  · have HX : Hid (regHide wait r last = true) := Lib.hid (by rw [HRH.out, decide_eq_true hbare.1, decide_eq_true hbare.2]; rfl)
    have hl0 : wait.length = 0 := by rw [hbare.1]; rfl
    have hc0 : (classI r != 0) = true := by rw [bne_iff_ne]; exact hbare.2
    rw [hl0] at k2
    clear HRH cH hbare hl0
    go_enter Tryz.func55, Tryz.ntmps55
    go_wp2_with (go_at_call 100; refine (cC _).mono ?_; rintro e w' ⟨rfl, hw'⟩; rw [hw'])
    have hbr := Below.refl (boxP w r s last).heap.size (boxP w r s last)
    have hP := put_c B b text wait (boxP w r s last) (HWS.out.below hbr) hw (by omega) (by have := Below.size hbr; have := HSZ.out; omega)
    have hh2 := HHP.out (boxP w r s last) hbr
    go_wp2_with (go_at_call 101; refine hP.mono ?_; rintro e w3 ⟨rfl, hs3, hb3, hk3⟩; have k3 : w3.cell? ⟨w.heap.size, 1, none⟩ = some (.string s) := hk3.cell hh2)
    have c3 := esc_c B b _ [] s w3 hs3 hs (by rw [List.length_append]; have := HL1.out; omega) (by have := hb3.size; have := Below.size hbr; have := HSZ.out; omega)
    go_wp2_with (go_at_call 96; refine c3.mono ?_; rintro e w4 ⟨rfl, hs4, hb4⟩)
    ((try simp only [Exit.inBlock, Exit.then]); refine bodyPost_ret (results_none rfl _ _ _) rfl ?_)
    refine ⟨rfl, ?_, (HB1.out.trans (Below.mono hbr HSZ.out)).trans (hb3.trans hb4)⟩
    first | (rw [HX.out, if_pos rfl, ← List.append_assoc]; exact hs4) | (rw [← List.append_assoc]; exact hs4)
  · by_cases hw0 : wait = []
    · have hc0 : classI r = 0 := by
        by_cases h0 : classI r = 0
        · exact h0
        · exact absurd ⟨hw0, h0⟩ hbare
      have hl0 : wait.length = 0 := by rw [hw0]; rfl
      rw [hl0] at k2
      rw [hc0] at cC
      clear hl0 hc0 hw0
      cases hD : hidI r last with
      | true =>
        have HX : Hid (regHide wait r last = true) := Lib.hid (by rw [HRH.out, hD, Bool.or_true])
        rw [hD] at cH
        clear HRH hD hbare
        go_enter Tryz.func55, Tryz.ntmps55
        go_wp2_with (first | (go_at_call 100; refine (cC _).mono ?_; rintro e w' ⟨rfl, hw'⟩; rw [hw']) | (go_at_call 95; refine cH.mono ?_; rintro e w2 ⟨rfl, hb2⟩))
        have hP := put_c B b text wait w2 (HWS.out.below hb2) hw (by omega) (by have := Below.size hb2; have := HSZ.out; omega)
        have hh2 := HHP.out w2 hb2
        go_wp2_with (go_at_call 101; refine hP.mono ?_; rintro e w3 ⟨rfl, hs3, hb3, hk3⟩; have k3 : w3.cell? ⟨w.heap.size, 1, none⟩ = some (.string s) := hk3.cell hh2)
        have c3 := esc_c B b _ [] s w3 hs3 hs (by rw [List.length_append]; have := HL1.out; omega) (by have := hb3.size; have := Below.size hb2; have := HSZ.out; omega)
        go_wp2_with (go_at_call 96; refine c3.mono ?_; rintro e w4 ⟨rfl, hs4, hb4⟩)
        ((try simp only [Exit.inBlock, Exit.then]); refine bodyPost_ret (results_none rfl _ _ _) rfl ?_)
        refine ⟨rfl, ?_, (HB1.out.trans (Below.mono hb2 HSZ.out)).trans (hb3.trans hb4)⟩
        first | (rw [HX.out, if_pos rfl, ← List.append_assoc]; exact hs4) | (rw [← List.append_assoc]; exact hs4)
      | false =>
        have HX : Hid (regHide wait r last = false) := Lib.hid (by
          rw [HRH.out, hD, Bool.or_false]
          cases e1 : decide (wait = []) with
          | false => rfl
          | true =>
            cases e2 : decide (classI r ≠ 0) with
            | false => rfl
            | true => exact absurd ⟨of_decide_eq_true e1, of_decide_eq_true e2⟩ hbare)
        rw [hD] at cH
        clear HRH hD hbare
        go_enter Tryz.func55, Tryz.ntmps55
        go_wp2_with (first | (go_at_call 100; refine (cC _).mono ?_; rintro e w' ⟨rfl, hw'⟩; rw [hw']) | (go_at_call 95; refine cH.mono ?_; rintro e w2 ⟨rfl, hb2⟩))
        have hsz2 := hb2.size
        obtain ⟨vw2, hbld2', ho2'⟩ := HWS.out.below hb2
        have hbld2 := hbld2'.below ((Below.refl _ _).drew)
        have j2 : w2.drew.cell? ⟨b, 2, none⟩ = some vw2 := hbld2.cell2.1
        have j2' : w2.cell? ⟨b, 2, none⟩ = some vw2 := hbld2.cell2.1
        have j0 : w2.drew.cell? ⟨w.heap.size, 0, none⟩ = some (.int .i32 r) := Lib.cell_of_heap (w := w2.drew) (HHP.out w2 hb2) 0
        have j0' : w2.cell? ⟨w.heap.size, 0, none⟩ = some (.int .i32 r) := Lib.cell_of_heap (w := w2) (HHP.out w2 hb2) 0
        have hsw : B ≤ w2.heap.size := by have := HSZ.out; omega
        have HOA : Hid (OwnI B (w2.alloc (.cells #[.int .i32 r] 21)).drew vw2 wait) := Lib.hid (ho2'.below (((Below.refl _ _).alloc (Nat.le_refl _) _).drew))
        have HBA : Hid (IsBld 115 [vw2] B b (Lib.byteCells text) (w2.alloc (.cells #[.int .i32 r] 21)).drew) := Lib.hid (hbld2'.below (((Below.refl _ _).alloc (Nat.le_refl _) _).drew))
        have HBE : Hid (Below B w (w2.alloc (.cells #[.int .i32 r] 21)).drew) := Lib.hid ((HB1.out.trans (hb2.mono HSZ.out)).trans (((Below.refl B w2).alloc hsw _).drew))
        have j3 : (w2.alloc (.cells #[.int .i32 r] 21)).cell? ⟨b, 2, none⟩ = some vw2 := HBA.out.cell2.1
        have j4 : (w2.alloc (.cells #[.int .i32 r] 21)).drew.cell? ⟨b, 2, none⟩ = some vw2 := HBA.out.cell2.1
        obtain ⟨a2, cap2, hv2⟩ := (SliceIs.own ho2').len
        subst hv2
        have jc : (w2.alloc (.cells #[.int .i32 r] 21)).drew.cell? ⟨w2.heap.size, 0, none⟩ = some (.int .i32 r) := World.cell?_alloc_at _ _ _ _ rfl
        clear k2 hbld2 hbld2' ho2'
        go_region_law (first | (refine step_append_lies _ rfl _ _ 113 rfl B 21 i0 (.int .i32 0) 1 4 Tryz.underlying113 hi hz0 hz1 hz2 rfl (by decide) _ _ _ rfl HOA.out ⟨w2.heap.size, 0, none⟩ 1 1 [.int .i32 r] rfl rfl (by intro j u hj; rcases j with _ | j; (simp at hj; subst hj; exact jc); (simp at hj)) (by intro u hu; simp at hu; subst hu; rfl) (by decide) (by unfold maxLen; omega) (by omega) (by show B ≤ (w2.heap.push _).size; simp; omega) _ rfl ?_; intro g9 cap9 w9 hown9 hgrow9 hat9 hlt9; have hb9 := HBA.out.grownI (by decide) HOA.out hgrow9; have q9 := hb9.cell2.1; have f9 := hb9.cell2.2))
        all_goals go_end0
        all_goals
          have hon : OwnI B w9 _ (wait ++ [r]) := OwnI.more (ys := [r]) hown9 (by simp) (by simp)
          have hfin := WS.set hb9 hon
          have hbl : Below B w w9 := HBE.out.grown hgrow9 (by have := HBE.out.size; have := HBP.out; omega) (fun k hk => (HOA.out.lt k hk).1)
          refine ⟨rfl, ?_, hbl.setCell (p := ⟨b, 2, none⟩) HBb.out _⟩
          first | (rw [HX.out, if_neg (by decide)]; exact hfin) | exact hfin
    · have hl0 : ((wait.length : Int) == 0) = false := by
        rw [beq_eq_false_iff_ne]
        intro h0
        exact hw0 (List.eq_nil_of_length_eq_zero (by omega))
      clear hw0
      cases hD : hidI r last with
      | true =>
        have HX : Hid (regHide wait r last = true) := Lib.hid (by rw [HRH.out, hD, Bool.or_true])
        rw [hD] at cH
        clear HRH hD hbare
        go_enter Tryz.func55, Tryz.ntmps55
        go_wp2_with (first | (go_at_call 95; refine cH.mono ?_; rintro e w2 ⟨rfl, hb2⟩))
        have hP := put_c B b text wait w2 (HWS.out.below hb2) hw (by omega) (by have := Below.size hb2; have := HSZ.out; omega)
        have hh2 := HHP.out w2 hb2
        go_wp2_with (go_at_call 101; refine hP.mono ?_; rintro e w3 ⟨rfl, hs3, hb3, hk3⟩; have k3 : w3.cell? ⟨w.heap.size, 1, none⟩ = some (.string s) := hk3.cell hh2)
        have c3 := esc_c B b _ [] s w3 hs3 hs (by rw [List.length_append]; have := HL1.out; omega) (by have := hb3.size; have := Below.size hb2; have := HSZ.out; omega)
        go_wp2_with (go_at_call 96; refine c3.mono ?_; rintro e w4 ⟨rfl, hs4, hb4⟩)
        ((try simp only [Exit.inBlock, Exit.then]); refine bodyPost_ret (results_none rfl _ _ _) rfl ?_)
        refine ⟨rfl, ?_, (HB1.out.trans (Below.mono hb2 HSZ.out)).trans (hb3.trans hb4)⟩
        first | (rw [HX.out, if_pos rfl, ← List.append_assoc]; exact hs4) | (rw [← List.append_assoc]; exact hs4)
      | false =>
        have HX : Hid (regHide wait r last = false) := Lib.hid (by
          rw [HRH.out, hD, Bool.or_false]
          cases e1 : decide (wait = []) with
          | false => rfl
          | true =>
            cases e2 : decide (classI r ≠ 0) with
            | false => rfl
            | true => exact absurd ⟨of_decide_eq_true e1, of_decide_eq_true e2⟩ hbare)
        rw [hD] at cH
        clear HRH hD hbare
        go_enter Tryz.func55, Tryz.ntmps55
        go_wp2_with (first | (go_at_call 95; refine cH.mono ?_; rintro e w2 ⟨rfl, hb2⟩))
        have hsz2 := hb2.size
        obtain ⟨vw2, hbld2', ho2'⟩ := HWS.out.below hb2
        have hbld2 := hbld2'.below ((Below.refl _ _).drew)
        have j2 : w2.drew.cell? ⟨b, 2, none⟩ = some vw2 := hbld2.cell2.1
        have j2' : w2.cell? ⟨b, 2, none⟩ = some vw2 := hbld2.cell2.1
        have j0 : w2.drew.cell? ⟨w.heap.size, 0, none⟩ = some (.int .i32 r) := Lib.cell_of_heap (w := w2.drew) (HHP.out w2 hb2) 0
        have j0' : w2.cell? ⟨w.heap.size, 0, none⟩ = some (.int .i32 r) := Lib.cell_of_heap (w := w2) (HHP.out w2 hb2) 0
        have hsw : B ≤ w2.heap.size := by have := HSZ.out; omega
        have HOA : Hid (OwnI B (w2.alloc (.cells #[.int .i32 r] 21)).drew vw2 wait) := Lib.hid (ho2'.below (((Below.refl _ _).alloc (Nat.le_refl _) _).drew))
        have HBA : Hid (IsBld 115 [vw2] B b (Lib.byteCells text) (w2.alloc (.cells #[.int .i32 r] 21)).drew) := Lib.hid (hbld2'.below (((Below.refl _ _).alloc (Nat.le_refl _) _).drew))
        have HBE : Hid (Below B w (w2.alloc (.cells #[.int .i32 r] 21)).drew) := Lib.hid ((HB1.out.trans (hb2.mono HSZ.out)).trans (((Below.refl B w2).alloc hsw _).drew))
        have j3 : (w2.alloc (.cells #[.int .i32 r] 21)).cell? ⟨b, 2, none⟩ = some vw2 := HBA.out.cell2.1
        have j4 : (w2.alloc (.cells #[.int .i32 r] 21)).drew.cell? ⟨b, 2, none⟩ = some vw2 := HBA.out.cell2.1
        obtain ⟨a2, cap2, hv2⟩ := (SliceIs.own ho2').len
        subst hv2
        have jc : (w2.alloc (.cells #[.int .i32 r] 21)).drew.cell? ⟨w2.heap.size, 0, none⟩ = some (.int .i32 r) := World.cell?_alloc_at _ _ _ _ rfl
        clear k2 hbld2 hbld2' ho2'
        go_region_law (first | (refine step_append_lies _ rfl _ _ 113 rfl B 21 i0 (.int .i32 0) 1 4 Tryz.underlying113 hi hz0 hz1 hz2 rfl (by decide) _ _ _ rfl HOA.out ⟨w2.heap.size, 0, none⟩ 1 1 [.int .i32 r] rfl rfl (by intro j u hj; rcases j with _ | j; (simp at hj; subst hj; exact jc); (simp at hj)) (by intro u hu; simp at hu; subst hu; rfl) (by decide) (by unfold maxLen; omega) (by omega) (by show B ≤ (w2.heap.push _).size; simp; omega) _ rfl ?_; intro g9 cap9 w9 hown9 hgrow9 hat9 hlt9; have hb9 := HBA.out.grownI (by decide) HOA.out hgrow9; have q9 := hb9.cell2.1; have f9 := hb9.cell2.2))
        all_goals go_end0
        all_goals
          have hon : OwnI B w9 _ (wait ++ [r]) := OwnI.more (ys := [r]) hown9 (by simp) (by simp)
          have hfin := WS.set hb9 hon
          have hbl : Below B w w9 := HBE.out.grown hgrow9 (by have := HBE.out.size; have := HBP.out; omega) (fun k hk => (HOA.out.lt k hk).1)
          refine ⟨rfl, ?_, hbl.setCell (p := ⟨b, 2, none⟩) HBb.out _⟩
          first | (rw [HX.out, if_neg (by decide)]; exact hfin) | exact hfin
set_option maxHeartbeats 1000000 in
theorem end_c (B b : Nat) (text : List UInt8) (wait : List Int) (w : World) (h : WS B b text wait w) (hs : wait.length ≤ 900) (hl : text.length ≤ 50000) (hBw : B ≤ w.heap.size) :
    Calls Tryz.prog 57 #[.pointer (some ⟨b, 0, none⟩)] w fun e w' => e = .returned (.string ⟨(text ++ joinL (togI wait)).toArray⟩) ∧ Below B w w' := by
  have cP := put_c B b text wait w h hs hl hBw
  have HB := Lib.hid hBw
  clear h hBw
  go_enter Tryz.func57, Tryz.ntmps57
  go_wp2_with fail
  refine cP.mono ?_
  rintro e w2 ⟨rfl, ⟨vw, hb, ho⟩, hb2, _⟩
  have cS := str_c B b _ w2 hb (by have := hb2.size; have := HB.out; omega)
  go_wp2_with fail
  refine cS.mono ?_
  rintro e w3 ⟨rfl, hb3⟩
  go_wp2
  go_ret
  exact ⟨rfl, hb2.trans hb3⟩
end Go.Proofs.YtfioknaadbgjlaaGreatDoor.F
namespace Go.Proofs.YtfioknaadbgjlaaGreatDoor.F
open Go.RowKit Go.Lib Go.Sort
def presN (enc : Int) (good : Bool) (l : List UInt8) (op : List Int) : List UInt8 := presGo enc good l.length l op
theorem presN_nil (enc : Int) (good : Bool) (op : List Int) : presN enc good [] op = joinL (joinT (decide (enc = 8)) good op) := rfl
theorem presN_step {enc : Int} (h0 : 0 ≤ enc) (good : Bool) {l : List UInt8} (hne : l ≠ []) (op : List Int) : presN enc good l op =
    if hideB (decide (enc = 8)) good (decide (l.length = (pieceL enc l).2)) (decide (op = [])) (pieceL enc l).1 = true then
      joinL (joinT (decide (enc = 8)) good op) ++ (escs (l.take (pieceL enc l).2) ++ presN enc good (l.drop (pieceL enc l).2) [])
    else presN enc good (l.drop (pieceL enc l).2) (op ++ [(pieceL enc l).1]) := by
  have hl : 0 < l.length := List.length_pos_iff.2 hne
  have h1 := (pieceL_range h0 hne).2.2.1
  obtain ⟨n, hn⟩ : ∃ n, l.length = n + 1 := ⟨l.length - 1, by omega⟩
  have hd : (l.drop (pieceL enc l).2).length ≤ n := by rw [List.length_drop]; omega
  unfold presN
  rw [hn]
  simp only [presGo]
  rw [if_neg hne, hn, presGo_more h0 _ n _ _ (Nat.le_refl _) hd, presGo_more h0 _ n _ _ (Nat.le_refl _) hd]
theorem presL_N (enc : Int) (l : List UInt8) : presL enc l = presN enc (decide (enc ≠ 8) || regL l) l [] := rfl
theorem escs_len (l : List UInt8) : (escs l).length = 3 * l.length := escL_length l
theorem joinT_len (h g : Bool) (op : List Int) : (joinL (joinT h g op)).length ≤ 4 * op.length := by
  have h1 := joinL_length (joinT h g op)
  have h2 : (joinT h g op).length ≤ op.length := by
    unfold joinT
    split
    · exact togI_length op
    · exact Nat.le_refl _
  omega
theorem presN_len {enc : Int} (h0 : 0 ≤ enc) (good : Bool) : ∀ (n : Nat) (l : List UInt8) (op : List Int), l.length ≤ n → (presN enc good l op).length ≤ 4 * (l.length + op.length)
  | 0, l, op, h => by
    have : l = [] := List.eq_nil_of_length_eq_zero (by omega)
    subst this
    rw [presN_nil]
    have := joinT_len (decide (enc = 8)) good op
    simp; omega
  | n + 1, l, op, h => by
    by_cases hne : l = []
    · subst hne
      rw [presN_nil]
      have := joinT_len (decide (enc = 8)) good op
      simp; omega
    · have hl : 0 < l.length := List.length_pos_iff.2 hne
      have hr := pieceL_range h0 hne
      rw [presN_step h0 good hne]
      have hd : (l.drop (pieceL enc l).2).length ≤ n := by rw [List.length_drop]; omega
      split
      · have h1 := joinT_len (decide (enc = 8)) good op
        have h2 := presN_len h0 good n (l.drop (pieceL enc l).2) [] hd
        have h3 := escs_len (l.take (pieceL enc l).2)
        rw [List.length_take] at h3
        rw [List.length_drop] at h2
        simp only [List.length_append, List.length_nil] at *
        omega
      · have h2 := presN_len h0 good n (l.drop (pieceL enc l).2) (op ++ [(pieceL enc l).1]) hd
        rw [List.length_drop] at h2
        simp only [List.length_append, List.length_cons, List.length_nil] at h2
        omega
theorem presL_len {enc : Int} (h0 : 0 ≤ enc) (l : List UInt8) : (presL enc l).length ≤ 4 * l.length := by
  have := presN_len h0 (decide (enc ≠ 8) || regL l) l.length l [] (Nat.le_refl _)
  rw [presL_N]
  simpa using this
theorem res_same (r : Int) : resB r = reservedI r := rfl
theorem escs_same (l : List UInt8) : escs l = escL l := rfl
theorem hide_plain (last e : Bool) (r : Int) : hideB false true last e r = hidI r last := by
  unfold hideB hidI
  rw [res_same]
  generalize decide (r < 0) = a
  generalize reservedI r = c
  generalize decide (r = 46 ∨ r = 32) = d
  cases a <;> cases c <;> cases d <;> cases last <;> rfl
theorem hide_reg (last : Bool) (op : List Int) (r : Int) : hideB true true last (decide (op = [])) r = regHide op r last := by
  unfold hideB regHide hidI
  rw [res_same]
  have h0 := classI_nn r
  generalize reservedI r = c
  generalize decide (r = 46 ∨ r = 32) = d
  generalize decide (op = []) = e
  by_cases h : r < 0
  · rw [decide_eq_true h]
    generalize decide (classI r ≠ 0) = f
    generalize decide (0 ≤ r ∧ 0 < classI r) = g
    cases c <;> cases d <;> cases last <;> cases e <;> cases f <;> cases g <;> rfl
  · rw [decide_eq_false h, show decide (0 ≤ r ∧ 0 < classI r) = decide (classI r ≠ 0) by rw [decide_eq_decide]; omega]
    generalize decide (classI r ≠ 0) = f
    cases c <;> cases d <;> cases last <;> cases e <;> cases f <;> rfl
theorem ext_list (b : ByteArray) (k K : Nat) : (b.extract k (k + K)).data.toList = (b.data.toList.drop k).take K := by
  simp [List.take_drop]
theorem piece_high {b : ByteArray} {k : Nat} (hk : k < b.size) : (128 ≤ Go.PlainAid.bt b k) ↔ ((pieceL 8 (b.data.toList.drop k)).1 < 0 ∨ 128 ≤ (pieceL 8 (b.data.toList.drop k)).1) := by
  have hz := len_list b
  have hne : b.data.toList.drop k ≠ [] := by
    intro h
    have := congrArg List.length h
    rw [List.length_drop, List.length_nil] at this
    omega
  have hp : pieceL 8 (b.data.toList.drop k) = if (nextL (b.data.toList.drop k)).2 = 0 then (-1, 1) else (((nextL (b.data.toList.drop k)).1 : Int), (nextL (b.data.toList.drop k)).2) := by
    unfold pieceL; rw [if_pos (by decide)]
  rw [hp, nextL_dec hne, Lib.decodeL_drop]
  have hn := Go.PlainAid.bt_nonneg b k
  rcases scan_step hk with ⟨h1, h2, h3⟩ | ⟨h1, h2, h3, h4⟩
  · have hd : ¬ ((Utf8.decode b k).1 = 65533 ∧ (Utf8.decode b k).2 = 1) := by omega
    rw [if_neg hd, if_neg (by omega)]
    show _ ↔ ((((Utf8.decode b k).1 : Nat) : Int) < 0 ∨ 128 ≤ (((Utf8.decode b k).1 : Nat) : Int))
    omega
  · have h5 := h4 k (Nat.le_refl _) (by omega)
    by_cases hd : (Utf8.decode b k).1 = 65533 ∧ (Utf8.decode b k).2 = 1
    · rw [if_pos hd, if_pos rfl]
      exact ⟨fun _ => Or.inl (by decide), fun _ => h5⟩
    · rw [if_neg hd, if_neg (by omega)]
      show _ ↔ ((((Utf8.decode b k).1 : Nat) : Int) < 0 ∨ 128 ≤ (((Utf8.decode b k).1 : Nat) : Int))
      omega
theorem hide_irr {b : ByteArray} {k : Nat} (hk : k < b.size) (last e : Bool) : (hideB true false last e (pieceL 8 (b.data.toList.drop k)).1 = true) ↔ (128 ≤ Go.PlainAid.bt b k ∨ hidI (pieceL 8 (b.data.toList.drop k)).1 last = true) := by
  rw [piece_high hk]
  generalize (pieceL 8 (b.data.toList.drop k)).1 = r
  have key : hideB true false last e r = ((decide (r < 0) || decide (128 ≤ r)) || hidI r last) := by
    unfold hideB hidI
    rw [res_same]
    generalize decide (r < 0) = a
    generalize decide (128 ≤ r) = p
    generalize reservedI r = c
    generalize decide (r = 46 ∨ r = 32) = d
    generalize decide (0 ≤ r ∧ 0 < classI r) = f
    cases a <;> cases p <;> cases c <;> cases d <;> cases last <;> cases e <;> rfl
  rw [key, Bool.or_eq_true, Bool.or_eq_true, decide_eq_true_iff, decide_eq_true_iff]
end Go.Proofs.YtfioknaadbgjlaaGreatDoor.F
namespace Go.Proofs.YtfioknaadbgjlaaGreatDoor.F
open Go.RowKit Go.Sort
def regP (ps : List (Int × Nat)) : Bool := ps.all (fun p => decide (0 ≤ p.1)) && decide (ps.map (·.1) = apartI (ps.map (·.1)))
theorem regP_bad {ps : List (Int × Nat)} {j : Nat} (hj : j < ps.length) (h : ps[j].1 < 0) : regP ps = false := by
  unfold regP
  rw [Bool.and_eq_false_iff]; left
  rw [List.all_eq_false]
  exact ⟨ps[j], List.getElem_mem hj, by simp; omega⟩
theorem regP_good {ps : List (Int × Nat)} (h : ∀ j (hj : j < ps.length), 0 ≤ ps[j].1) : regP ps = decide (ps.map (·.1) = apartI (ps.map (·.1))) := by
  unfold regP
  rw [show ps.all (fun p => decide (0 ≤ p.1)) = true by
    rw [List.all_eq_true]
    intro p hp
    obtain ⟨j, hj, rfl⟩ := List.getElem_of_mem hp
    exact decide_eq_true (h j hj), Bool.true_and]
theorem take_set (xs : List Int) (j : Nat) (r : Int) (h : j < xs.length) : (xs.set j r).take (j + 1) = xs.take j ++ [r] := by
  rw [List.take_add_one, List.take_set, List.set_eq_of_length_le (by rw [List.length_take]; omega)]
  simp [h]
theorem madeInt (n : Nat) : (madeCells (Value.int .i32 0).cells (n * 1)).toList = (List.replicate n (0 : Int)).map (Value.int .i32) := by
  apply List.ext_getElem?
  intro i
  simp [madeCells]
  by_cases h : i < n
  · simp [h, Nat.mod_one, Value.cells]
  · simp [h]
def ReguPost (ps : List (Int × Nat)) (w : World) (e : Ending) (w' : World) : Prop := e = .returned (.bool (regP ps)) ∧ Below w.heap.size w w'
set_option maxHeartbeats 4000000 in
set_option maxRecDepth 100000 in
theorem regular4_c (ps : List (Int × Nat)) (v : Value) (w : World) (hv : PiecesIs w v ps) (hs : ps.length ≤ 900) : Calls Tryz.prog 54 #[v] w (ReguPost ps w) := by
  unfold ReguPost
  obtain ⟨i0, hi0, hz0, hz1, hz2⟩ := info_parts infoInt32
  have HV := Lib.hid hv
  obtain ⟨a, cap, hva⟩ := hv.len
  obtain ⟨n, hn⟩ : ∃ n, ps.length = n := ⟨_, rfl⟩
  rw [hn] at hva hs
  have HN := Lib.hid hn
  subst hva
  clear hv hn
  go_enter Tryz.func54, Tryz.ntmps54
  go_wp2_with (at_make; refine wpList_make_full _ rfl _ _ 113 rfl w.heap.size 21 i0 (.int .i32 0) 1 Tryz.underlying113 hi0 hz0 hz1 .i64 .i64 (n : Int) (n : Int) n rfl rfl rfl rfl (by rw [hz2]; omega) (by unfold maxLen; omega) (Nat.le_refl _) ?_; intro w1 hown1 hgr1)
  rw [madeInt] at hown1
  have hb1 : Below w.heap.size w w1 := (Below.refl _ _).grown hgr1 (Nat.le_refl _) (fun k hk => by cases hk)
  have ho1 : OwnI w.heap.size w1 (.slice (some ⟨w.heap.size, 0, none⟩) n n) (List.replicate n (0 : Int)) := by
    unfold OwnI
    rw [List.length_replicate]
    exact hown1
  have HO1 := Lib.hid ho1
  have HB1 := Lib.hid hb1
  clear hown1 hgr1 ho1 hb1
  go_wp2
  go_loopg [11] n (fun gk iv wr => ∃ (j : Nat) (xs : List Int), j + gk = n ∧ iv = .int .i64 j ∧ xs.length = n ∧ xs.take j = (ps.take j).map (·.1) ∧ (∀ i (hi : i < ps.length), i < j → 0 ≤ ps[i].1) ∧ OwnI w.heap.size wr (.slice (some ⟨w.heap.size, 0, none⟩) n n) xs ∧ Below w.heap.size w wr)
  case atStart => exact ⟨0, List.replicate n 0, by omega, rfl, by simp, by simp, fun i hi h => by omega, HO1.out, HB1.out⟩
  case round =>
    obtain ⟨j, xs, hjg, rfl, hxl, hxt, hnn, hown, hbel⟩ := hrel
    have HXT := Lib.hid hxt
    have HNN := Lib.hid hnn
    have HO := Lib.hid hown
    have HBL := Lib.hid hbel
    clear hxt hnn hown
    by_cases hlt : j < n
    · have hltz : (j : Int) < (n : Int) := by omega
      have hjl : j < ps.length := by rw [HN.out]; exact hlt
      have hcell : ∃ g, a = some ⟨g, 0, none⟩ ∧ g < w.heap.size ∧ w.cell? ⟨g, j * 2, none⟩ = some (.int .i32 ps[j].1) ∧ w.cell? ⟨g, j * 2 + 1, none⟩ = some (.int .i64 ps[j].2) := by
        rcases HV.out with ⟨h1, _⟩ | ⟨g, cap', hg, hv', hc⟩
        · rw [h1] at hjl; exact absurd hjl (by simp)
        · refine ⟨g, ?_, hg, hc j hjl⟩
          injection hv'
      obtain ⟨g, rfl, hg, c0, c1⟩ := hcell
      obtain ⟨R, hR⟩ : ∃ R, ps[j].1 = R := ⟨_, rfl⟩
      obtain ⟨K, hK⟩ : ∃ K, ps[j].2 = K := ⟨_, rfl⟩
      rw [hR] at c0
      rw [hK] at c1
      have d0 : wr.cell? ⟨g, j * 2, none⟩ = some (.int .i32 R) := by rw [hbel.cell (p := ⟨g, j * 2, none⟩) hg]; exact c0
      have d1 : wr.cell? ⟨g, j * 2 + 1, none⟩ = some (.int .i64 (K : Int)) := by rw [hbel.cell (p := ⟨g, j * 2 + 1, none⟩) hg]; exact c1
      have HR := Lib.hid hR
      have z0 : (0 : Int) ≤ (j : Int) := by omega
      clear hbel c0 c1 hR hK
      by_cases hneg : R < 0
      · have HX : Hid (regP ps = false) := Lib.hid (regP_bad hjl (by rw [HR.out]; exact hneg))
        clear hlt
        go_wp2
        go_ret
        exact ⟨by rw [HX.out]; rfl, HBL.out.alloc HBL.out.size _⟩
      · have f0 : (wr.alloc (.cells #[.int .i32 R, .int .i64 (K : Int)] 155)).frozen? ⟨w.heap.size, j, none⟩ = false := by
          have := (HO.out.below ((Below.refl wr.heap.size wr).alloc (Nat.le_refl _) (.cells #[.int .i32 R, .int .i64 (K : Int)] 155))).cell hxl hlt
          exact this.2
        have f1 : (wr.alloc (.cells #[.int .i32 R, .int .i64 (K : Int)] 155)).cell? ⟨w.heap.size, j, none⟩ = some (.int .i32 (xs.getD j 0)) := by
          have := (HO.out.below ((Below.refl wr.heap.size wr).alloc (Nat.le_refl _) (.cells #[.int .i32 R, .int .i64 (K : Int)] 155))).cell hxl hlt
          exact this.1
        have HO9 : Hid (OwnI w.heap.size ((wr.alloc (.cells #[.int .i32 R, .int .i64 (K : Int)] 155)).setCell ⟨w.heap.size, j, none⟩ (.int .i32 R)) (.slice (some ⟨w.heap.size, 0, none⟩) n n) (xs.set j R)) :=
          Lib.hid (OwnI.set R (HO.out.below ((Below.refl wr.heap.size wr).alloc (Nat.le_refl _) _)))
        have HB9 : Hid (Below w.heap.size w ((wr.alloc (.cells #[.int .i32 R, .int .i64 (K : Int)] 155)).setCell ⟨w.heap.size, j, none⟩ (.int .i32 R))) := Lib.hid ((HBL.out.alloc HBL.out.size _).setCell (p := ⟨w.heap.size, j, none⟩) (Nat.le_refl _) _)
        have HT9 : Hid ((xs.set j R).take (j + 1) = (ps.take (j + 1)).map (·.1)) := Lib.hid (by
          have e9 : ps[j].1 = R := HR.out
          rw [take_set xs j R (by rw [hxl]; exact hlt), HXT.out, List.take_add_one, List.getElem?_eq_getElem hjl, List.map_append]
          show _ = _ ++ [ps[j].1]
          rw [e9])
        have HN9 : Hid (∀ i (hi : i < ps.length), i < j + 1 → 0 ≤ ps[i].1) := Lib.hid (fun i hi h => by
          by_cases e : i = j
          · subst e; rw [HR.out]; omega
          · exact HNN.out i hi (by omega))
        go_wp2
        go_roundg (n - (j + 1))
        case measure => omega
        case rel => exact ⟨j + 1, xs.set j R, by omega, by first | rfl | go_num, by rw [List.length_set]; exact hxl, HT9.out, HN9.out, HO9.out, HB9.out⟩
    · have hje : j = n := by omega
      have hxe : xs = ps.map (·.1) := by
        have h1 := HXT.out
        rw [List.take_of_length_le (by omega), List.take_of_length_le (by rw [HN.out]; omega)] at h1
        exact h1
      have HX : Hid (regP ps = decide (xs = apartI xs)) := Lib.hid (by rw [hxe]; exact regP_good (fun i hi => HNN.out i hi (by rw [HN.out] at hi; omega)))
      have hge : ¬ ((j : Int) < (n : Int)) := by omega
      have cS := stablecp_c xs (.slice (some ⟨w.heap.size, 0, none⟩) n n) wr (SliceIs.own HO.out) (by rw [hxl]; omega) (by have := marks_full xs; omega)
      unfold StablePost at cS
      clear hje hlt hjg hxe
      generalize decide (xs = apartI xs) = D at *
      go_wp2_with fail
      refine cS.mono ?_
      rintro e w2 ⟨rfl, hb2⟩
      go_wp2
      go_ret
      exact ⟨by rw [HX.out]; rfl, HBL.out.trans (hb2.mono HBL.out.size)⟩
/-- .. which is what the chapter calls a regular name. -/
theorem pieces_runes : ∀ (n : Nat) (l : List UInt8), l.length ≤ n → (match runesL l with
    | none => ¬ (∀ p ∈ piecesL 8 l, 0 ≤ p.1)
    | some rs => (∀ p ∈ piecesL 8 l, 0 ≤ p.1) ∧ (piecesL 8 l).map (·.1) = rs)
  | 0, l, h => by
    have : l = [] := List.eq_nil_of_length_eq_zero (by omega)
    subst this
    rw [runesL_nil, piecesL_nil]
    simp
  | n + 1, l, h => by
    by_cases hne : l = []
    · subst hne
      rw [runesL_nil, piecesL_nil]
      simp
    · have hl : 0 < l.length := List.length_pos_iff.2 hne
      have hp : pieceL 8 l = if (nextL l).2 = 0 then (-1, 1) else (((nextL l).1 : Int), (nextL l).2) := by
        unfold pieceL; rw [if_pos (by decide)]
      rw [runesL_step hne, piecesL_step (by decide) hne, hp]
      by_cases hz : (nextL l).2 = 0
      · rw [if_pos hz, if_pos hz]
        intro h9
        have := h9 (-1, 1) (by simp)
        exact absurd this (by decide)
      · rw [if_neg hz, if_neg hz]
        have ih := pieces_runes n (l.drop (nextL l).2) (by rw [List.length_drop]; omega)
        cases hr : runesL (l.drop (nextL l).2) with
        | none =>
          rw [hr] at ih
          intro h9
          exact ih (fun p hp => h9 p (List.mem_cons_of_mem _ hp))
        | some rs =>
          rw [hr] at ih
          refine ⟨fun p hp => ?_, by rw [List.map_cons, ih.2]⟩
          rcases List.mem_cons.1 hp with rfl | hp
          · show (0 : Int) ≤ ((nextL l).1 : Int); omega
          · exact ih.1 p hp
theorem regP_regL (l : List UInt8) : regP (piecesL 8 l) = regL l := by
  have h := pieces_runes l.length l (Nat.le_refl _)
  unfold regL
  cases hr : runesL l with
  | none =>
    rw [hr] at h
    unfold regP
    rw [Bool.and_eq_false_iff]; left
    rw [← Bool.not_eq_true]
    intro h9
    exact h (fun p hp => of_decide_eq_true (List.all_eq_true.1 h9 p hp))
  | some rs =>
    rw [hr] at h
    unfold regP
    rw [show (piecesL 8 l).all (fun p => decide (0 ≤ p.1)) = true by
      rw [List.all_eq_true]; exact fun p hp => decide_eq_true (h.1 p hp), Bool.true_and, h.2, decide_eq_decide]
    exact ⟨fun h => h.symm, fun h => h.symm⟩
end Go.Proofs.YtfioknaadbgjlaaGreatDoor.F
