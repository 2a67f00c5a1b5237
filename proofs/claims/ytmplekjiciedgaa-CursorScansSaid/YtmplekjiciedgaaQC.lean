/-
  Plain facts on UTF-8: no call of the program stands here. 'isR': is a number a character; 'bsOf': its bytes, none if it is no character. No character's bytes begin with another one's.   The contracts of utf8.ValidRune, utf.Is and utf.Bytes: each returns what 'isR' and 'bsOf' say, and leaves the world as it was.   What a slice of characters holds.   The contracts of strings.IndexRune and strings.ContainsRune at whatever number, over a short text of ASCII; what lay in memory stays.   Plain facts: a character's bytes stand at the head of a list just if the number that its bytes bear is a character whose bytes they are; at most one number of bytes serves.   Plain facts on lists of bytes and of characters: 'runesL' reads all characters of a list of bytes, if they are such; 'joinL' lays the bytes of all numbers that are characters.   The contract of strings.ContainsAny over whatever bytes, of the two characters that no name may hold.   What escape.Good answers, of any bytes.
-/
import Derived.Lib.MapLaws
import Derived.Lib.TrimUEq
import Derived.Test.YtmplekjiciedgaaProg
import Derived.WalkKit
import Derived.WalkSpells
import Derived.Lib.Hide
import Derived.Deep.QuietTactic
import Derived.Test.YtmplekjiciedgaaShelf
import Derived.IntWalk
import Derived.PlainAid
import Derived.Laws.RangeString
import Derived.LoopTactic
import Derived.BigQuiet
import Derived.WalkMore
import Derived.Lib.ValidLaws
import Derived.Laws.IdiomStrings
import Derived.Lib.OthersKept
import Derived.Laws.RangeAny
import Derived.Deep.WholeRow
import Derived.Deep.LoopGhost
import Derived.Test.YtmplekjiciedgaaQ1
namespace Go.Proofs.Ytmplekjiciedgaa
open Go.Lib

def isR (r : Int) : Bool := decide ((0 ≤ r ∧ r < 55296) ∨ (57343 < r ∧ r ≤ 1114111))
def bsOf (r : Int) : ByteArray := if isR r = true then Utf8.encode r else ⟨#[]⟩

theorem isR_of {r : Int} (h : (0 ≤ r ∧ r < 55296) ∨ (57343 < r ∧ r ≤ 1114111)) : isR r = true := decide_eq_true h
theorem isR_not {r : Int} (h : ¬ ((0 ≤ r ∧ r < 55296) ∨ (57343 < r ∧ r ≤ 1114111))) : isR r = false := decide_eq_false h
theorem isR_is {r : Int} (h : isR r = true) : (0 ≤ r ∧ r < 55296) ∨ (57343 < r ∧ r ≤ 1114111) := of_decide_eq_true h
theorem isR_isnt {r : Int} (h : isR r = false) : ¬ ((0 ≤ r ∧ r < 55296) ∨ (57343 < r ∧ r ≤ 1114111)) := of_decide_eq_false h

theorem isR_valid (r : Int) : Utf8.valid r = isR r := by
  simp only [Utf8.valid, isR]
  by_cases h : (0 ≤ r ∧ r < 55296) ∨ (57343 < r ∧ r ≤ 1114111)
  · rw [decide_eq_true h]; rcases h with h | h <;> simp <;> omega
  · rw [decide_eq_false h]; simp; omega

theorem enc1 (n : Nat) (h : n < 128) : encodeRune (n : Int) = [UInt8.ofNat n] := by
  unfold encodeRune
  rw [encodeRuneZ_one (by omega) (by omega)]
  have e1 : ((n : Int)).toNat = n := by omega
  simp only [List.map, e1]
theorem enc2 (n : Nat) (h : 128 ≤ n) (h' : n < 2048) : encodeRune (n : Int) = [UInt8.ofNat (192 + n / 64), UInt8.ofNat (128 + n % 64)] := by
  unfold encodeRune
  rw [encodeRuneZ_two (by omega) (by omega)]
  have e1 : (192 + (n : Int) / 64).toNat = 192 + n / 64 := by omega
  have e2 : (128 + (n : Int) % 64).toNat = 128 + n % 64 := by omega
  simp only [List.map, e1, e2]
theorem enc3 (n : Nat) (h : 2048 ≤ n) (h' : n < 65536) (hr : n < 55296 ∨ 57343 < n) : encodeRune (n : Int) = [UInt8.ofNat (224 + n / 4096), UInt8.ofNat (128 + n / 64 % 64), UInt8.ofNat (128 + n % 64)] := by
  unfold encodeRune
  rw [encodeRuneZ_three (by omega)]
  have e1 : (224 + (n : Int) / 4096).toNat = 224 + n / 4096 := by omega
  have e2 : (128 + (n : Int) / 64 % 64).toNat = 128 + n / 64 % 64 := by omega
  have e3 : (128 + (n : Int) % 64).toNat = 128 + n % 64 := by omega
  simp only [List.map, e1, e2, e3]
theorem enc4 (n : Nat) (h : 65536 ≤ n) (h' : n ≤ 1114111) : encodeRune (n : Int) = [UInt8.ofNat (240 + n / 262144), UInt8.ofNat (128 + n / 4096 % 64), UInt8.ofNat (128 + n / 64 % 64), UInt8.ofNat (128 + n % 64)] := by
  unfold encodeRune
  rw [encodeRuneZ_four (by omega) (by omega)]
  have e1 : (240 + (n : Int) / 262144).toNat = 240 + n / 262144 := by omega
  have e2 : (128 + (n : Int) / 4096 % 64).toNat = 128 + n / 4096 % 64 := by omega
  have e3 : (128 + (n : Int) / 64 % 64).toNat = 128 + n / 64 % 64 := by omega
  have e4 : (128 + (n : Int) % 64).toNat = 128 + n % 64 := by omega
  simp only [List.map, e1, e2, e3, e4]

theorem encode_toList (r : Int) (h : isR r = true) : (Utf8.encode r).data.toList = encodeRune r := by
  have hv := isR_valid r
  rw [h] at hv
  have hr := isR_is h
  obtain ⟨n, rfl⟩ : ∃ n : Nat, r = (n : Int) := ⟨r.toNat, by omega⟩
  have hn : ((n : Int)).toNat = n := by omega
  unfold Utf8.encode
  simp only [hv, if_true, hn]
  by_cases h1 : n < 128
  · rw [if_pos h1, enc1 n h1]
  · rw [if_neg h1]
    by_cases h2 : n < 2048
    · rw [if_pos h2, enc2 n (by omega) h2]
    · rw [if_neg h2]
      by_cases h3 : n < 65536
      · rw [if_pos h3, enc3 n (by omega) h3 (by omega)]
      · rw [if_neg h3, enc4 n (by omega) (by omega)]

theorem u8n (n : Nat) (h : n < 256) : (UInt8.ofNat n).toNat = n := by simp; omega

theorem dec_enc (r : Int) (h : isR r = true) (t : List UInt8) : decodeL (encodeRune r ++ t) = (r.toNat, (encodeRune r).length) := by
  have hr := isR_is h
  obtain ⟨n, rfl⟩ : ∃ n : Nat, r = (n : Int) := ⟨r.toNat, by omega⟩
  have hn : ((n : Int)).toNat = n := by omega
  rw [decodeL_N, hn]
  by_cases h1 : n < 128
  · rw [enc1 n h1]
    simp only [List.cons_append, List.nil_append, List.getD_cons_zero, List.length_cons, List.length_nil]
    rw [u8n n (by omega)]
    unfold decodeN
    rw [if_pos h1]
  · by_cases h2 : n < 2048
    · rw [enc2 n (by omega) h2]
      simp only [List.cons_append, List.nil_append, List.getD_cons_zero, List.getD_cons_succ, List.length_cons, List.length_nil]
      rw [u8n (192 + n / 64) (by omega), u8n (128 + n % 64) (by omega)]
      unfold decodeN
      rw [if_neg (by omega), if_pos (by omega), if_pos (by omega)]
      exact Prod.ext (by simp only; omega) rfl
    · by_cases h3 : n < 65536
      · rw [enc3 n (by omega) h3 (by omega)]
        simp only [List.cons_append, List.nil_append, List.getD_cons_zero, List.getD_cons_succ, List.length_cons, List.length_nil]
        rw [u8n (224 + n / 4096) (by omega), u8n (128 + n / 64 % 64) (by omega), u8n (128 + n % 64) (by omega)]
        unfold decodeN
        rw [if_neg (by omega), if_neg (by omega), if_pos (by omega), if_pos (by omega)]
        exact Prod.ext (by simp only; omega) rfl
      · rw [enc4 n (by omega) (by omega)]
        simp only [List.cons_append, List.nil_append, List.getD_cons_zero, List.getD_cons_succ, List.length_cons, List.length_nil]
        rw [u8n (240 + n / 262144) (by omega), u8n (128 + n / 4096 % 64) (by omega), u8n (128 + n / 64 % 64) (by omega), u8n (128 + n % 64) (by omega)]
        unfold decodeN
        rw [if_neg (by omega), if_neg (by omega), if_neg (by omega), if_pos (by omega), if_pos (by omega)]
        exact Prod.ext (by simp only; omega) rfl

theorem enc_first {a b : Int} (ha : isR a = true) (hb : isR b = true) {t : List UInt8} (h : encodeRune b = encodeRune a ++ t) : a = b := by
  have h1 := dec_enc a ha t
  have h2 := dec_enc b hb []
  rw [List.append_nil, h, h1] at h2
  have := congrArg Prod.fst h2
  have ra := isR_is ha
  have rb := isR_is hb
  simp only at this
  omega

theorem bsOf_size (r : Int) : (bsOf r).size ≤ 4 := by
  unfold bsOf
  by_cases h : isR r = true
  · rw [if_pos h]
    have e := encode_toList r h
    have l := encodeRuneZ_length r
    have : (Utf8.encode r).size = (encodeRuneZ r).length := by
      show (Utf8.encode r).data.size = _
      rw [← Array.length_toList, e]; simp [encodeRune]
    omega
  · rw [if_neg h]; show 0 ≤ 4; omega

theorem bsOf_toList {r : Int} (h : isR r = true) : (bsOf r).data.toList = encodeRune r := by unfold bsOf; rw [if_pos h]; exact encode_toList r h
theorem bsOf_none {r : Int} (h : isR r = false) : bsOf r = ⟨#[]⟩ := by unfold bsOf; rw [if_neg (by rw [h]; decide)]

theorem bsOf_first {a b : Int} (ha : isR a = true) (hab : a ≠ b) (hl : (bsOf a).size ≤ (bsOf b).size) : (bsOf b).extract 0 (bsOf a).size ≠ bsOf a := by
  intro hx
  have hla : (bsOf a).size = (encodeRune a).length := by rw [← bsOf_toList ha]; simp
  have h4 : 1 ≤ (encodeRune a).length := by have := encodeRuneZ_length a; simpa [encodeRune] using this.1
  by_cases hb : isR b = true
  · apply hab
    refine enc_first ha hb (t := (encodeRune b).drop (encodeRune a).length) ?_
    have := congrArg (fun s : ByteArray => s.data.toList) hx
    simp only [ByteArray.data_extract, Array.toList_extract] at this
    rw [bsOf_toList ha, bsOf_toList hb, hla] at this
    simp only [List.extract_eq_take_drop, Nat.sub_zero, List.drop_zero] at this
    conv => lhs; rw [← List.take_append_drop (encodeRune a).length (encodeRune b)]
    rw [this]
  · have hb' : isR b = false := by simpa using hb
    rw [bsOf_none hb'] at hl
    have : (ByteArray.mk #[]).size = 0 := rfl
    omega
end Go.Proofs.Ytmplekjiciedgaa

namespace Go.Proofs.Ytmplekjiciedgaa
open Go.RowKit

set_option maxHeartbeats 400000 in
theorem validRune_c (r : Int) (w : World) :
    Calls Try.prog 62 #[.int .i32 r] w fun e w' => e = .returned (.bool (isR r)) ∧ w = w' := by
  by_cases h1 : 0 ≤ r
  · by_cases h2 : r < 55296
    · rw [isR_of (by omega)]
      go_enter Try.func62, Try.ntmps62
      go_wp2
      go_ret
      exact ⟨rfl, rfl⟩
    · by_cases h3 : 57343 < r
      · by_cases h4 : r ≤ 1114111
        · rw [isR_of (by omega)]
          go_enter Try.func62, Try.ntmps62
          go_wp2
          go_ret
          exact ⟨rfl, rfl⟩
        · rw [isR_not (by omega)]
          go_enter Try.func62, Try.ntmps62
          go_wp2
          go_ret
          exact ⟨rfl, rfl⟩
      · rw [isR_not (by omega)]
        go_enter Try.func62, Try.ntmps62
        go_wp2
        go_ret
        exact ⟨rfl, rfl⟩
  · have h3 : ¬ 57343 < r := by omega
    rw [isR_not (by omega)]
    go_enter Try.func62, Try.ntmps62
    go_wp2
    go_ret
    exact ⟨rfl, rfl⟩

end Go.Proofs.Ytmplekjiciedgaa

namespace Go.Proofs.Ytmplekjiciedgaa
open Go.RowKit
set_option linter.unusedVariables false

/-- The slice v holds the numbers l. -/
def SliceIs (w : World) (v : Value) (l : List Int) : Prop :=
  (l = [] ∧ ∃ a cap, v = .slice a 0 cap) ∨
  (∃ g off cap, g < w.heap.size ∧ v = .slice (some ⟨g, off, none⟩) l.length cap ∧ ∀ j, j < l.length → w.cell? ⟨g, off + j, none⟩ = some (.int .i32 (l.getD j 0)))

theorem SliceIs.kept {w w' : World} {v : Value} {l : List Int} (h : SliceIs w v l) (hb : Below w.heap.size w w') : SliceIs w' v l := by
  rcases h with h | ⟨g, off, cap, hg, hv, hc⟩
  · exact Or.inl h
  · exact Or.inr ⟨g, off, cap, by have := hb.size; omega, hv, fun j hj => by rw [hb.cell (p := ⟨g, off + j, none⟩) hg]; exact hc j hj⟩
theorem SliceIs.nil (w : World) : SliceIs w (.slice none 0 0) [] := Or.inl ⟨rfl, none, 0, rfl⟩
theorem SliceIs.own {w : World} {base e : Nat} {v : Value} {l : List Int} (h : w.ownsRow base e 1 v l.length (l.map (Value.int .i32))) : SliceIs w v l := by
  rcases h.2 with ⟨hv, h0⟩ | ⟨g, cap, cur, hv, hg, hb, hn, hm, hs, ht⟩
  · exact Or.inl ⟨List.eq_nil_of_length_eq_zero h0, none, 0, by rw [hv]⟩
  · refine Or.inr ⟨g, 0, cap, ?_, hv, fun j hj => ?_⟩
    · exact (h.lt g (by rw [hv]; rfl)).2
    · have hcell : w.cell? ⟨g, 0 + j, none⟩ = cur[j]? := by simp [World.cell?, hb]
      rw [hcell, ← Array.getElem?_toList]
      have := congrArg (·[j]?) ht
      simp only [Nat.mul_one, List.getElem?_take, if_pos hj] at this
      rw [this]
      simp [List.getElem?_eq_getElem hj, List.getD_eq_getElem?_getD]
/-- The slice's outer form. -/
theorem SliceIs.len {w : World} {v : Value} {l : List Int} (h : SliceIs w v l) : ∃ a cap, v = .slice a l.length cap := by
  rcases h with ⟨rfl, a, cap, hv⟩ | ⟨g, off, cap, hg, hv, hc⟩
  · exact ⟨a, cap, hv⟩
  · exact ⟨_, cap, hv⟩

theorem same_step {la lb : List Int} {i : Nat} (h : ∀ j, j < i → la.getD j 0 = lb.getD j 0) (h' : la.getD i 0 = lb.getD i 0) : ∀ j, j < i + 1 → la.getD j 0 = lb.getD j 0 := by
  intro j hj
  by_cases e : j = i
  · subst e; exact h'
  · exact h j (by omega)
theorem same_all {la lb : List Int} (hl : la.length = lb.length) (h : ∀ j, j < la.length → la.getD j 0 = lb.getD j 0) : la = lb := by
  apply List.ext_getElem hl
  intro i h1 h2
  have := h i h1
  simpa [List.getD_eq_getElem?_getD, List.getElem?_eq_getElem h1, List.getElem?_eq_getElem h2] using this

theorem below_drewN' {B : Nat} {a w : World} (h : Below B a w) : ∀ q, Below B a (w.drewN q)
  | 0 => h
  | q + 1 => (below_drewN' h q).drew

end Go.Proofs.Ytmplekjiciedgaa

namespace Go.Proofs.Ytmplekjiciedgaa
open Go.RowKit Go.Lib
set_option linter.unusedVariables false

def Ascii (s : ByteArray) : Prop := ∀ (j : Nat) b, s.data.toList[j]? = some b → b.toNat < 128
theorem Ascii.at' {s : ByteArray} (h : Ascii s) (j : Nat) (hj : j < s.size) : (s[j]'hj).toNat < 128 := by
  refine h j (s[j]'hj) ?_
  rw [List.getElem?_eq_getElem (by simpa using hj)]
  simp [ByteArray.getElem_eq_getElem_data]
def idxR (s : ByteArray) (r : Int) : Int := if 0 ≤ r ∧ r < 128 then Lib.indexByte s.data.toList r.toNat.toUInt8 else -1
theorem index_none : ∀ (l : List UInt8) (c : UInt8), (∀ x ∈ l, x ≠ c) → Lib.indexByte l c = -1
  | [], _, _ => rfl
  | x :: l, c, h => by
    have h1 : (x == c) = false := by rw [beq_eq_false_iff_ne]; exact h x (by simp)
    have h2 := index_none l c (fun y hy => h y (by simp [hy]))
    unfold Lib.indexByte
    rw [h1, h2]; rfl
theorem len_list (b : ByteArray) : b.data.toList.length = b.size := by simp
theorem last_of {b : ByteArray} {l : List UInt8} {x : UInt8} (he : b.data.toList = l ++ [x]) (hx : 128 ≤ x.toNat) : 128 ≤ Go.PlainAid.bt b (b.size - 1) := by
  have hs : b.size = l.length + 1 := by rw [← len_list, he]; simp
  have hk : b.size - 1 < b.size := by omega
  have h2 := Go.PlainAid.get_bt b _ hk
  have h3 : b[b.size - 1]'hk = x := by
    have h4 : b.data.toList[b.size - 1]? = some x := by rw [he, hs]; simp
    rw [List.getElem?_eq_getElem (by simpa using hk)] at h4
    have := Option.some.inj h4
    rw [← this]
    simp [ByteArray.getElem_eq_getElem_data]
  rw [h3] at h2
  omega
theorem enc_last {r : Int} (h : isR r = true) (h1 : 128 ≤ r) : 2 ≤ (Utf8.encode r).size ∧ (Utf8.encode r).size ≤ 4 ∧ 128 ≤ Go.PlainAid.bt (Utf8.encode r) ((Utf8.encode r).size - 1) := by
  have he := encode_toList r h
  have hi := isR_is h
  have hz := len_list (Utf8.encode r)
  obtain ⟨n, rfl⟩ : ∃ n : Nat, r = (n : Int) := ⟨r.toNat, by omega⟩
  by_cases h2 : n < 2048
  · have e := enc2 n (by omega) h2
    rw [e] at he
    refine ⟨by rw [← hz, he]; simp, by rw [← hz, he]; simp, last_of (l := [UInt8.ofNat (192 + n / 64)]) he (by rw [u8n _ (by omega)]; omega)⟩
  · by_cases h3 : n < 65536
    · have e := enc3 n (by omega) h3 (by omega)
      rw [e] at he
      refine ⟨by rw [← hz, he]; simp, by rw [← hz, he]; simp, last_of (l := [UInt8.ofNat (224 + n / 4096), UInt8.ofNat (128 + n / 64 % 64)]) he (by rw [u8n _ (by omega)]; omega)⟩
    · have e := enc4 n (by omega) (by omega)
      rw [e] at he
      refine ⟨by rw [← hz, he]; simp, by rw [← hz, he]; simp, last_of (l := [UInt8.ofNat (240 + n / 262144), UInt8.ofNat (128 + n / 4096 % 64), UInt8.ofNat (128 + n / 64 % 64)]) he (by rw [u8n _ (by omega)]; omega)⟩

set_option maxHeartbeats 1000000 in
set_option maxRecDepth 100000 in
/-- U+FFFD, in a text of ASCII. -/
theorem idx_bad (s : ByteArray) (has : Ascii s) (hs : s.size ≤ 1000) (w : World) :
    Calls Try.prog 57 #[.string s, .int .i32 65533] w fun e w' => e = .returned (.int .i64 (-1)) ∧ Below w.heap.size w w' := by
  have HA := Lib.hid has
  clear has
  have hb0 : ∀ p, Below w.heap.size w (w.iter s p) := fun p => (Below.refl _ _).alloc (Nat.le_refl _) _
  go_enter Try.func57, Try.ntmps57
  go_wp2
  go_loopw [5] (fun _ w' => ∃ pos : Nat, w' = w.iter s pos ∧ pos ≤ s.size) (fun _ w' => s.size - w'.iterPos w.heap.size)
  case atStart => exact ⟨0, rfl, by omega⟩
  case round =>
    obtain ⟨pos, rfl, hp0⟩ := hrel
    by_cases hp : pos < s.size
    · have h8 := HA.out.at' pos hp
      have hnx : ∀ ty, (Instr.next (.pointer (some ⟨w.heap.size, 0, none⟩)) true ty).run Try.prog (w.iter s pos) = _ := fun ty => run_next_ascii w s pos ty hp h8
      obtain ⟨A, hA⟩ : ∃ A : Nat, (s[pos]'hp).toNat = A := ⟨_, rfl⟩
      rw [hA] at h8
      simp only [hA] at hnx
      have hne : ((A : Int) == 65533) = false := by rw [beq_eq_false_iff_ne]; omega
      clear hA
      go_wp2
      go_roundw
      case rel => exact ⟨pos + 1, rfl, by omega⟩
      case measure => simp; omega
    · have hnx : ∀ ty, (Instr.next (.pointer (some ⟨w.heap.size, 0, none⟩)) true ty).run Try.prog (w.iter s pos) = _ := fun ty => run_next_end w s pos ty hp
      go_wp2
      go_ret
      exact ⟨rfl, hb0 _⟩

set_option maxHeartbeats 2000000 in
set_option maxRecDepth 100000 in
/-- A character that is none of ASCII. -/
theorem idx_far1 (s : ByteArray) {r : Int} (has : Ascii s) (hs : s.size ≤ 1000) (h4 : (Utf8.encode r).size ≤ s.size) (hr : isR r = true) (h1 : 128 ≤ r) (h2 : ¬ r = 65533) (w : World) :
    Calls Try.prog 57 #[.string s, .int .i32 r] w fun e w' => e = .returned (.int .i64 (-1)) ∧ Below w.heap.size w w' := by
  obtain ⟨hn2, hn4, hb⟩ := enc_last hr h1
  have cV := validRune_c r
  rw [hr] at cV
  have hi := isR_is hr
  obtain ⟨n, hn⟩ : ∃ n, (Utf8.encode r).size = n + 1 := ⟨(Utf8.encode r).size - 1, by omega⟩
  have hn1 : (Utf8.encode r).size - 1 = n := by omega
  rw [hn1] at hb
  obtain ⟨x, hx⟩ : ∃ x : Int, Go.PlainAid.bt s n = x := ⟨_, rfl⟩
  obtain ⟨y, hy⟩ : ∃ y : Int, Go.PlainAid.bt (Utf8.encode r) n = y := ⟨_, rfl⟩
  have hyle : y ≤ 255 := by rw [← hy]; exact Go.PlainAid.bt_le (Utf8.encode r) n
  rw [hy] at hb
  have hxl : x < 128 := by
    have h5 := has.at' n (by omega)
    have h6 := Go.PlainAid.get_bt s n (by omega)
    omega
  have hB := Go.PlainAid.get_bt s
  have hB' := Go.PlainAid.get_bt (Utf8.encode r)
  have hxy : (x != y) = true := by rw [bne_iff_ne]; omega
  have hz : ((Utf8.encode r).size : Int) = (n : Int) + 1 := by omega
  have hw1 : IntKind.i64.wrap ((n : Int) + 1 - 1) = (n : Int) := by rw [IntKind.wrap_i64]; omega
  have hw2 : IntKind.i64.wrap ((n : Int) + 1) = (n : Int) + 1 := by rw [IntKind.wrap_i64]; omega
  have hlt : (n : Int) < (s.size : Int) := by omega
  have hle : (n : Int) + 1 ≤ (s.size : Int) := by omega
  have n0 : (0 : Int) ≤ (n : Int) := by omega
  have nn1 : (n : Int) < (n : Int) + 1 := by omega
  have nn2 : n < (Utf8.encode r).size := by omega
  have nn3 : (n : Int) < ((Utf8.encode r).size : Int) := by omega
  have nn4 : n < n + 1 := by omega
  have n1 : (0 : Int) ≤ (n : Int) + 1 := by omega
  have nt : ((n : Int)).toNat = n := by omega
  have nt1 : ((n : Int) + 1).toNat = n + 1 := by omega
  have e1 : ¬ (r < 128) := by omega
  have e2 : (r == 65533) = false := by rw [beq_eq_false_iff_ne]; exact h2
  have r0 : (0 : Int) ≤ r := by omega
  have cI : ∀ w, Calls Try.prog 61 #[.string (s.extract (n + 1) s.size), .int .u8 y] w fun e w' => e = .returned (.int .i64 (-1)) ∧ w' = w := fun w => by
    have h7 := Try.strings_IndexByte (s.extract (n + 1) s.size) y w
    rw [index_none _ _ (fun z hz' => by
      have h8 : z ∈ s.data.toList := by
        rw [show (s.extract (n + 1) s.size).data.toList = s.data.toList.drop (n + 1) by simp [List.take_of_length_le]] at hz'
        exact List.mem_of_mem_drop hz'
      obtain ⟨j, hj, h9⟩ := List.getElem_of_mem h8
      have h10 := has j z (by rw [List.getElem?_eq_getElem hj, h9])
      intro h11
      rw [h11] at h10
      have : (y.toNat.toUInt8).toNat = y.toNat := by simp; omega
      omega)] at h7
    exact h7
  clear has hr h1 h2 hi hn2 hn4 hn1 hyle h4
  go_enter Try.func57, Try.ntmps57
  go_wp2_with (first | (go_at_call 62; refine (cV _).mono ?_; rintro e w' ⟨rfl, rfl⟩))
  go_step3
  go_wp2_with fail
  refine wp_loop_rounds 1 ?_
  rw [rounds_succ]
  go_wp2_with fail
  go_step3
  go_wp2_with fail
  go_quiet (fail)
  have HBq : Hid (Below w.heap.size w (w.drewN nq)) := Lib.hid (below_drewN' (Below.refl _ _) nq)
  generalize w.drewN nq = wq at *
  go_wp2_with fail
  go_quiet ((go_at_call 61; exact Calls.quiet_of_same ((cI _).mono fun _ _ h => ⟨h.1, h.2⟩)))
  go_wp2_with fail
  simp only [Exit.noGoto, Exit.inBlock, Exit.then]
  go_ret
  exact ⟨rfl, below_drewN' HBq.out _⟩

set_option maxHeartbeats 2000000 in
set_option maxRecDepth 100000 in
/-- .. and longer than the text. -/
theorem idx_far0 (s : ByteArray) {r : Int} (h4 : s.size < (Utf8.encode r).size) (hr : isR r = true) (h1 : 128 ≤ r) (h2 : ¬ r = 65533) (w : World) :
    Calls Try.prog 57 #[.string s, .int .i32 r] w fun e w' => e = .returned (.int .i64 (-1)) ∧ Below w.heap.size w w' := by
  obtain ⟨hn2, hn4, hb⟩ := enc_last hr h1
  have cV := validRune_c r
  rw [hr] at cV
  have hi := isR_is hr
  obtain ⟨n, hn⟩ : ∃ n, (Utf8.encode r).size = n + 1 := ⟨(Utf8.encode r).size - 1, by omega⟩
  have hn3 : n ≤ 3 := by omega
  have n0 : (0 : Int) ≤ (n : Int) := by omega
  have hz : ((Utf8.encode r).size : Int) = (n : Int) + 1 := by omega
  have hw1 : IntKind.i64.wrap ((n : Int) + 1 - 1) = (n : Int) := by rw [IntKind.wrap_i64]; omega
  have hge : ¬ ((n : Int) < (s.size : Int)) := by omega
  have e1 : ¬ (r < 128) := by omega
  have e2 : (r == 65533) = false := by rw [beq_eq_false_iff_ne]; exact h2
  have r0 : (0 : Int) ≤ r := by omega
  clear hr h1 h2 hi hn2 hn4 h4 hb hn
  go_enter Try.func57, Try.ntmps57
  go_wp2_with (first | (go_at_call 62; refine (cV _).mono ?_; rintro e w' ⟨rfl, rfl⟩))
  go_step3
  go_wp2_with fail
  refine wp_loop_rounds 1 ?_
  rw [rounds_succ]
  go_wp2_with fail
  rw [Exit.noGoto_ret]
  go_ret
  exact ⟨rfl, Below.refl _ _⟩

theorem idx_far (s : ByteArray) (has : Ascii s) (hs : s.size ≤ 1000) (r : Int) (hr : isR r = true) (h1 : 128 ≤ r) (h2 : ¬ r = 65533) (w : World) :
    Calls Try.prog 57 #[.string s, .int .i32 r] w fun e w' => e = .returned (.int .i64 (-1)) ∧ Below w.heap.size w w' := by
  by_cases h4 : (Utf8.encode r).size ≤ s.size
  · exact idx_far1 s has hs h4 hr h1 h2 w
  · exact idx_far0 s (by omega) hr h1 h2 w

set_option maxRecDepth 100000 in
theorem idxRune_c (s : ByteArray) (has : Ascii s) (hs : s.size ≤ 1000) (r : Int) (w : World) :
    Calls Try.prog 57 #[.string s, .int .i32 r] w fun e w' => e = .returned (.int .i64 (idxR s r)) ∧ Below w.heap.size w w' := by
  unfold idxR
  by_cases h0 : 0 ≤ r ∧ r < 128
  · rw [if_pos h0]
    refine (Try.strings_IndexRune_ascii s r w h0.1 h0.2).mono ?_
    rintro e w' ⟨rfl, rfl⟩
    exact ⟨rfl, Below.refl _ _⟩
  · rw [if_neg h0]
    by_cases hb : r = 65533
    · subst hb
      exact idx_bad s has hs w
    · cases hr : isR r with
      | true => exact idx_far s has hs r hr (by have := isR_is hr; omega) hb w
      | false =>
        have cV := validRune_c r
        rw [hr] at cV
        have hb' : (r == 65533) = false := by rw [beq_eq_false_iff_ne]; exact hb
        by_cases hn : r < 0
        · have hn' : ¬ (0 ≤ r) := by omega
          clear hr hb h0
          go_enter Try.func57, Try.ntmps57
          go_wp2_with (first | (go_at_call 62; refine (cV _).mono ?_; rintro e w' ⟨rfl, rfl⟩))
          go_ret
          exact ⟨rfl, Below.refl _ _⟩
        · have hn' : 0 ≤ r := by omega
          have hn2 : ¬ (r < 128) := by omega
          clear hr hb h0 hn
          go_enter Try.func57, Try.ntmps57
          go_wp2_with (first | (go_at_call 62; refine (cV _).mono ?_; rintro e w' ⟨rfl, rfl⟩))
          go_ret
          exact ⟨rfl, Below.refl _ _⟩

end Go.Proofs.Ytmplekjiciedgaa

namespace Go.Proofs.Ytmplekjiciedgaa
open Go.Lib
set_option linter.unusedVariables false

def gB (l : List UInt8) (i : Nat) : Nat := (l.getD i 0).toNat
def numL (s : Nat) (l : List UInt8) : Nat :=
  if s = 1 then gB l 0
  else if s = 2 then gB l 0 % 32 * 64 + gB l 1 % 64
  else if s = 3 then (gB l 0 % 16 * 64 + gB l 1 % 64) * 64 + gB l 2 % 64
  else ((gB l 0 % 8 * 64 + gB l 1 % 64) * 64 + gB l 2 % 64) * 64 + gB l 3 % 64
def Hit (s : Nat) (l : List UInt8) : Prop := s ≤ l.length ∧ isR (numL s l : Int) = true ∧ encodeRune (numL s l : Int) = l.take s

theorem gB_lt (l : List UInt8) (i : Nat) : gB l i < 256 := UInt8.toNat_lt _

/-- What decodes at the head: nothing, or a character and its bytes. -/
def nextL (l : List UInt8) : Nat × Nat := if l = [] then (0, 0) else if (decodeL l).1 = 65533 ∧ (decodeL l).2 = 1 then (0, 0) else decodeL l

theorem hit_next {s : Nat} {l : List UInt8} (h1 : 1 ≤ s) (h : Hit s l) : nextL l = (numL s l, s) := by
  obtain ⟨hl, hr, he⟩ := h
  have hd := dec_enc _ hr (l.drop s)
  rw [he, List.take_append_drop, List.length_take, Nat.min_eq_left hl] at hd
  have hn : ((numL s l : Nat) : Int).toNat = numL s l := by omega
  rw [hn] at hd
  have hne : l ≠ [] := by intro h0; rw [h0] at hl; simp at hl; omega
  unfold nextL
  rw [if_neg hne, hd, if_neg]
  rintro ⟨ha, hb⟩
  simp only at ha hb
  subst hb
  have := gB_lt l 0
  unfold numL at ha
  rw [if_pos rfl] at ha
  omega

theorem dec_range (l : List UInt8) (hne : l ≠ []) : isR ((decodeL l).1 : Int) = true := by
  rw [decodeL_N]
  have h0 : (l.getD 0 0).toNat < 256 := UInt8.toNat_lt _
  apply isR_of
  unfold decodeN
  repeat' split
  all_goals (simp only; omega)

theorem next_hit {l : List UInt8} (hne : l ≠ []) (hg : ¬ ((decodeL l).1 = 65533 ∧ (decodeL l).2 = 1)) : 1 ≤ (decodeL l).2 ∧ (decodeL l).2 ≤ 4 ∧ Hit (decodeL l).2 l := by
  have he := encode_decode l hne hg
  have hr := dec_range l hne
  have hw := decodeL_width l
  have hl := decodeL_le l hne
  have hi := isR_is hr
  generalize hc : (decodeL l).1 = c at *
  generalize hk : (decodeL l).2 = k at *
  have hlen : (encodeRune (c : Int)).length = k := by rw [he, List.length_take]; omega
  have h4 := (encodeRuneZ_length (c : Int)).2
  have h4' : k ≤ 4 := by rw [← hlen]; simpa [encodeRune] using h4
  refine ⟨hw, h4', hl, ?_⟩
  have hnum : numL k l = c := by
    have hgd : ∀ i, i < k → gB l i = gB (encodeRune (c : Int)) i := by
      intro i hik
      unfold gB
      rw [he, List.getD_eq_getElem?_getD, List.getD_eq_getElem?_getD, List.getElem?_take, if_pos hik]
    by_cases h1 : c < 128
    · have e := enc1 c h1
      have hk1 : k = 1 := by rw [← hlen, e]; rfl
      subst hk1
      unfold numL
      rw [if_pos rfl, hgd 0 (by omega), e]
      exact u8n c (by omega)
    · by_cases h2 : c < 2048
      · have e := enc2 c (by omega) h2
        have hk1 : k = 2 := by rw [← hlen, e]; rfl
        subst hk1
        unfold numL
        rw [if_neg (by omega), if_pos rfl, hgd 0 (by omega), hgd 1 (by omega), e]
        have a0 : gB [UInt8.ofNat (192 + c / 64), UInt8.ofNat (128 + c % 64)] 0 = 192 + c / 64 := u8n _ (by omega)
        have a1 : gB [UInt8.ofNat (192 + c / 64), UInt8.ofNat (128 + c % 64)] 1 = 128 + c % 64 := u8n _ (by omega)
        rw [a0, a1]
        omega
      · by_cases h3 : c < 65536
        · have e := enc3 c (by omega) h3 (by omega)
          have hk1 : k = 3 := by rw [← hlen, e]; rfl
          subst hk1
          unfold numL
          rw [if_neg (by omega), if_neg (by omega), if_pos rfl, hgd 0 (by omega), hgd 1 (by omega), hgd 2 (by omega), e]
          have a0 : gB [UInt8.ofNat (224 + c / 4096), UInt8.ofNat (128 + c / 64 % 64), UInt8.ofNat (128 + c % 64)] 0 = 224 + c / 4096 := u8n _ (by omega)
          have a1 : gB [UInt8.ofNat (224 + c / 4096), UInt8.ofNat (128 + c / 64 % 64), UInt8.ofNat (128 + c % 64)] 1 = 128 + c / 64 % 64 := u8n _ (by omega)
          have a2 : gB [UInt8.ofNat (224 + c / 4096), UInt8.ofNat (128 + c / 64 % 64), UInt8.ofNat (128 + c % 64)] 2 = 128 + c % 64 := u8n _ (by omega)
          rw [a0, a1, a2]
          omega
        · have e := enc4 c (by omega) (by omega)
          have hk1 : k = 4 := by rw [← hlen, e]; rfl
          subst hk1
          unfold numL
          rw [if_neg (by omega), if_neg (by omega), if_neg (by omega), hgd 0 (by omega), hgd 1 (by omega), hgd 2 (by omega), hgd 3 (by omega), e]
          have a0 : gB [UInt8.ofNat (240 + c / 262144), UInt8.ofNat (128 + c / 4096 % 64), UInt8.ofNat (128 + c / 64 % 64), UInt8.ofNat (128 + c % 64)] 0 = 240 + c / 262144 := u8n _ (by omega)
          have a1 : gB [UInt8.ofNat (240 + c / 262144), UInt8.ofNat (128 + c / 4096 % 64), UInt8.ofNat (128 + c / 64 % 64), UInt8.ofNat (128 + c % 64)] 1 = 128 + c / 4096 % 64 := u8n _ (by omega)
          have a2 : gB [UInt8.ofNat (240 + c / 262144), UInt8.ofNat (128 + c / 4096 % 64), UInt8.ofNat (128 + c / 64 % 64), UInt8.ofNat (128 + c % 64)] 2 = 128 + c / 64 % 64 := u8n _ (by omega)
          have a3 : gB [UInt8.ofNat (240 + c / 262144), UInt8.ofNat (128 + c / 4096 % 64), UInt8.ofNat (128 + c / 64 % 64), UInt8.ofNat (128 + c % 64)] 3 = 128 + c % 64 := u8n _ (by omega)
          rw [a0, a1, a2, a3]
          omega
  rw [hnum]
  exact ⟨hr, he⟩

/-- No number of bytes up to four serves: there is no character. -/
theorem no_hit {l : List UInt8} (h : ∀ s, 1 ≤ s → s ≤ 4 → ¬ Hit s l) : nextL l = (0, 0) := by
  unfold nextL
  by_cases hne : l = []
  · rw [if_pos hne]
  · rw [if_neg hne]
    by_cases hg : (decodeL l).1 = 65533 ∧ (decodeL l).2 = 1
    · rw [if_pos hg]
    · obtain ⟨a, b, c⟩ := next_hit hne hg
      exact absurd c (h _ a b)

/-- Of what is decoded: a character, of at most four bytes, that are in the list. -/
theorem nextL_facts (l : List UInt8) : nextL l = (0, 0) ∨ (l ≠ [] ∧ nextL l = decodeL l ∧ isR ((nextL l).1 : Int) = true ∧ 1 ≤ (nextL l).2 ∧ (nextL l).2 ≤ 4 ∧ (nextL l).2 ≤ l.length ∧ encodeRune ((nextL l).1 : Int) = l.take (nextL l).2) := by
  by_cases hne : l = []
  · left; unfold nextL; rw [if_pos hne]
  · by_cases hg : (decodeL l).1 = 65533 ∧ (decodeL l).2 = 1
    · left; unfold nextL; rw [if_neg hne, if_pos hg]
    · right
      have e : nextL l = decodeL l := by unfold nextL; rw [if_neg hne, if_neg hg]
      obtain ⟨a, b, c⟩ := next_hit hne hg
      rw [e]
      exact ⟨hne, rfl, dec_range l hne, a, b, decodeL_le l hne, encode_decode l hne hg⟩
end Go.Proofs.Ytmplekjiciedgaa

namespace Go.Proofs.Ytmplekjiciedgaa
open Go.Lib
set_option linter.unusedVariables false

def runesGo : Nat → List UInt8 → Option (List Int)
  | 0, _ => some []
  | n + 1, l => if l = [] then some [] else if (nextL l).2 = 0 then none else (runesGo n (l.drop (nextL l).2)).map (((nextL l).1 : Int) :: ·)
def runesL (l : List UInt8) : Option (List Int) := runesGo l.length l

theorem runesGo_more : ∀ (n m : Nat) (l : List UInt8), l.length ≤ n → n ≤ m → runesGo m l = runesGo n l
  | 0, 0, l, h, _ => rfl
  | 0, m + 1, l, h, _ => by
    have : l = [] := List.eq_nil_of_length_eq_zero (by omega)
    subst this
    rfl
  | n + 1, 0, l, h, h' => by omega
  | n + 1, m + 1, l, h, h' => by
    simp only [runesGo]
    by_cases hne : l = []
    · rw [if_pos hne, if_pos hne]
    · rw [if_neg hne, if_neg hne]
      by_cases h0 : (nextL l).2 = 0
      · rw [if_pos h0, if_pos h0]
      · rw [if_neg h0, if_neg h0, runesGo_more n m _ (by rw [List.length_drop]; omega) (by omega)]

theorem runesL_nil : runesL [] = some [] := rfl
theorem runesL_step {l : List UInt8} (hne : l ≠ []) : runesL l = if (nextL l).2 = 0 then none else (runesL (l.drop (nextL l).2)).map (((nextL l).1 : Int) :: ·) := by
  have hl : 0 < l.length := List.length_pos_iff.2 hne
  obtain ⟨n, hn⟩ : ∃ n, l.length = n + 1 := ⟨l.length - 1, by omega⟩
  unfold runesL
  rw [hn]
  simp only [runesGo]
  rw [if_neg hne]
  by_cases h0 : (nextL l).2 = 0
  · rw [if_pos h0, if_pos h0]
  · rw [if_neg h0, if_neg h0, runesGo_more (l.drop (nextL l).2).length n _ (Nat.le_refl _) (by rw [List.length_drop]; omega)]

def joinL : List Int → List UInt8
  | [] => []
  | r :: rs => (if isR r = true then encodeRune r else []) ++ joinL rs

theorem joinL_append : ∀ (a b : List Int), joinL (a ++ b) = joinL a ++ joinL b
  | [], b => rfl
  | r :: a, b => by simp only [List.cons_append, joinL, joinL_append a b, List.append_assoc]
theorem joinL_snoc (a : List Int) (r : Int) : joinL (a ++ [r]) = joinL a ++ (if isR r = true then encodeRune r else []) := by
  rw [joinL_append]; simp [joinL]
theorem encodeRune_le (r : Int) : 1 ≤ (encodeRune r).length ∧ (encodeRune r).length ≤ 4 := by
  have := encodeRuneZ_length r
  simpa [encodeRune] using this
theorem joinL_length : ∀ a : List Int, (joinL a).length ≤ 4 * a.length
  | [] => by simp [joinL]
  | r :: a => by
    have := joinL_length a
    have h4 := (encodeRune_le r).2
    simp only [joinL, List.length_append, List.length_cons]
    split
    · omega
    · simp; omega

/-- What was read, joined, is as it was. -/
theorem join_runes : ∀ (n : Nat) (l : List UInt8) (rs : List Int), l.length ≤ n → runesL l = some rs → joinL rs = l := by
  intro n
  induction n with
  | zero =>
    intro l rs hl h
    have : l = [] := List.eq_nil_of_length_eq_zero (by omega)
    subst this
    rw [runesL_nil] at h
    cases h
    rfl
  | succ n ih =>
    intro l rs hl h
    by_cases hne : l = []
    · subst hne
      rw [runesL_nil] at h
      cases h
      rfl
    · rw [runesL_step hne] at h
      have hlp : 0 < l.length := List.length_pos_iff.2 hne
      rcases nextL_facts l with hz | ⟨_, hd, hr, h1, h4, hle, he⟩
      · rw [hz, if_pos rfl] at h
        cases h
      · rw [if_neg (by omega)] at h
        obtain ⟨rs', h', rfl⟩ := Option.map_eq_some_iff.1 h
        have := ih _ rs' (by rw [List.length_drop]; omega) h'
        simp only [joinL]
        rw [this, if_pos hr, he, List.take_append_drop]

theorem nextL_enc {r : Int} (hr : isR r = true) (t : List UInt8) : nextL (encodeRune r ++ t) = (r.toNat, (encodeRune r).length) := by
  have hd := dec_enc r hr t
  have h1 := (encodeRune_le r).1
  have hne : encodeRune r ++ t ≠ [] := by
    intro h
    have := congrArg List.length h
    rw [List.length_append, List.length_nil] at this
    omega
  unfold nextL
  rw [if_neg hne, hd, if_neg]
  rintro ⟨ha, hb⟩
  simp only at ha hb
  have hi := isR_is hr
  have e : r = 65533 := by omega
  subst e
  revert hb
  decide

/-- What was joined is read as it was, but for what is no character. -/
theorem runes_join : ∀ rs : List Int, runesL (joinL rs) = some (rs.filter isR)
  | [] => rfl
  | r :: rs => by
    simp only [joinL]
    by_cases hr : isR r = true
    · rw [if_pos hr]
      have hn := nextL_enc hr (joinL rs)
      have h1 := (encodeRune_le r).1
      have hne : encodeRune r ++ joinL rs ≠ [] := by
        intro h
        have := congrArg List.length h
        rw [List.length_append, List.length_nil] at this
        omega
      have hi := isR_is hr
      rw [runesL_step hne, hn, if_neg (by simp only; omega)]
      simp only
      rw [List.drop_left, runes_join rs, List.filter_cons, if_pos hr]
      have e : ((r.toNat : Nat) : Int) = r := by omega
      rw [e]
      rfl
    · rw [if_neg hr, List.nil_append, runes_join rs, List.filter_cons, if_neg hr]

theorem nextL_dec {l : List UInt8} (hne : l ≠ []) : nextL l = if (decodeL l).1 = 65533 ∧ (decodeL l).2 = 1 then (0, 0) else decodeL l := by unfold nextL; rw [if_neg hne]

/-- The library's test, and the same said by reading. -/
theorem validGo_runes : ∀ (n : Nat) (l : List UInt8), validGoD n l = (runesGo n l).isSome
  | 0, l => rfl
  | n + 1, l => by
    simp only [validGoD, runesGo]
    by_cases hne : l = []
    · rw [if_pos hne, if_pos hne]; rfl
    · rw [if_neg hne, if_neg hne, nextL_dec hne]
      by_cases hg : (decodeL l).1 = 65533 ∧ (decodeL l).2 = 1
      · rw [if_pos hg, if_pos hg, if_pos rfl]; rfl
      · have hw := decodeL_width l
        rw [if_neg hg, if_neg hg, if_neg (by omega), validGo_runes n]
        simp
theorem valid_runes (l : List UInt8) : validD l = (runesL l).isSome := validGo_runes _ _

/-- The conversion to a list of characters, where all are such. -/
theorem runesFrom_eq (s : ByteArray) : ∀ (n i : Nat) (acc : Array Value) (rs : List Int), s.size ≤ i + n → runesL (s.data.toList.drop i) = some rs →
    Conv.runesFrom s n i acc = acc ++ (rs.map (Value.int .i32)).toArray := by
  have hz : s.data.toList.length = s.size := by simp
  intro n
  induction n with
  | zero =>
    intro i acc rs h hr
    have : s.data.toList.drop i = [] := List.drop_eq_nil_of_le (by omega)
    rw [this, runesL_nil] at hr
    cases hr
    simp [Conv.runesFrom]
  | succ n ih =>
    intro i acc rs h hr
    by_cases hi : i < s.size
    · have hne : s.data.toList.drop i ≠ [] := by
        intro h0
        have := congrArg List.length h0
        simp only [List.length_drop, List.length_nil] at this
        omega
      rw [runesL_step hne] at hr
      rcases nextL_facts (s.data.toList.drop i) with hz' | ⟨_, hd, hrr, h1, h4, hle, he⟩
      · rw [hz', if_pos rfl] at hr
        cases hr
      · rw [if_neg (by omega)] at hr
        obtain ⟨rs', h', rfl⟩ := Option.map_eq_some_iff.1 hr
        rw [hd, decodeL_drop] at h' h1
        rw [List.drop_drop] at h'
        unfold Conv.runesFrom
        rw [if_pos hi]
        simp only
        rw [ih (i + (Utf8.decode s i).2) _ rs' (by omega) h', hd, decodeL_drop]
        simp
    · have : s.data.toList.drop i = [] := List.drop_eq_nil_of_le (by omega)
      rw [this, runesL_nil] at hr
      cases hr
      unfold Conv.runesFrom
      rw [if_neg hi]
      simp

theorem runesL_len : ∀ (n : Nat) (l : List UInt8) (rs : List Int), l.length ≤ n → runesL l = some rs → rs.length ≤ l.length := by
  intro n
  induction n with
  | zero =>
    intro l rs hl h
    have : l = [] := List.eq_nil_of_length_eq_zero (by omega)
    subst this
    rw [runesL_nil] at h
    cases h
    simp
  | succ n ih =>
    intro l rs hl h
    by_cases hne : l = []
    · subst hne
      rw [runesL_nil] at h
      cases h
      simp
    · rw [runesL_step hne] at h
      have hlp : 0 < l.length := List.length_pos_iff.2 hne
      by_cases h0 : (nextL l).2 = 0
      · rw [if_pos h0] at h; cases h
      · rw [if_neg h0] at h
        obtain ⟨rs', h', rfl⟩ := Option.map_eq_some_iff.1 h
        have := ih _ rs' (by rw [List.length_drop]; omega) h'
        rw [List.length_drop] at this
        simp only [List.length_cons]
        omega
end Go.Proofs.Ytmplekjiciedgaa

namespace Go.Proofs.Ytmplekjiciedgaa
open Go.RowKit Go.Lib
set_option linter.unusedVariables false

theorem lt_get {w : World} {k : Nat} {o : Obj} (hk : w.heap[k]? = some o) : k < w.heap.size := (Array.getElem?_eq_some_iff.1 hk).1
theorem bt_list {b : ByteArray} {k : Nat} (hk : k < b.size) : b.data.toList[k]? = some (b[k]'hk) ∧ Go.PlainAid.bt b k = ((b[k]'hk).toNat : Int) := by
  refine ⟨?_, (Go.PlainAid.get_bt b k hk).symm⟩
  rw [List.getElem?_eq_getElem (by simpa using hk)]
  simp [ByteArray.getElem_eq_getElem_data]
theorem enc_high {r : Int} (h : isR r = true) (h1 : 128 ≤ r) : ∀ x ∈ encodeRune r, 128 ≤ x.toNat := by
  have hi := isR_is h
  obtain ⟨n, rfl⟩ : ∃ n : Nat, r = (n : Int) := ⟨r.toNat, by omega⟩
  by_cases h2 : n < 2048
  · rw [enc2 n (by omega) h2]
    intro x hx
    simp only [List.mem_cons, List.not_mem_nil, or_false] at hx
    rcases hx with rfl | rfl <;> rw [u8n _ (by omega)] <;> omega
  · by_cases h3 : n < 65536
    · rw [enc3 n (by omega) h3 (by omega)]
      intro x hx
      simp only [List.mem_cons, List.not_mem_nil, or_false] at hx
      rcases hx with rfl | rfl | rfl <;> rw [u8n _ (by omega)] <;> omega
    · rw [enc4 n (by omega) (by omega)]
      intro x hx
      simp only [List.mem_cons, List.not_mem_nil, or_false] at hx
      rcases hx with rfl | rfl | rfl | rfl <;> rw [u8n _ (by omega)] <;> omega
/-- What a range over bytes finds at a place: a byte of ASCII, or a character above it that swallows none of ASCII. -/
theorem scan_step {b : ByteArray} {pos : Nat} (hp : pos < b.size) :
    (Go.PlainAid.bt b pos < 128 ∧ ((Utf8.decode b pos).1 : Int) = Go.PlainAid.bt b pos ∧ (Utf8.decode b pos).2 = 1) ∨
    (128 ≤ (Utf8.decode b pos).1 ∧ 1 ≤ (Utf8.decode b pos).2 ∧ pos + (Utf8.decode b pos).2 ≤ b.size ∧ ∀ k, pos ≤ k → k < pos + (Utf8.decode b pos).2 → 128 ≤ Go.PlainAid.bt b k) := by
  have hB := (bt_list hp).2
  by_cases h8 : Go.PlainAid.bt b pos < 128
  · left
    have h9 := decode_ascii b pos hp (by omega)
    rw [h9]
    exact ⟨h8, hB.symm, rfl⟩
  · right
    have hdd := Lib.decodeL_drop b pos
    have hz := len_list b
    have hne : b.data.toList.drop pos ≠ [] := by
      intro h
      have := congrArg List.length h
      rw [List.length_drop, List.length_nil] at this
      omega
    have hat : ∀ k, pos ≤ k → k < b.size → (b.data.toList.drop pos)[k - pos]? = some (UInt8.ofNat (Go.PlainAid.bt b k).toNat) := fun k h1 h2 => by
      rw [List.getElem?_drop, show pos + (k - pos) = k by omega, (bt_list h2).1, (bt_list h2).2]
      simp
    rcases nextL_facts (b.data.toList.drop pos) with h0 | ⟨_, hd, hR, h1, h4, hle, he⟩
    · rw [nextL_dec hne, hdd] at h0
      by_cases hb : (Utf8.decode b pos).1 = 65533 ∧ (Utf8.decode b pos).2 = 1
      · rw [hb.1, hb.2]
        exact ⟨by omega, by omega, by omega, fun k h1 h2 => by have : k = pos := by omega
                                                               subst this; omega⟩
      · rw [if_neg hb] at h0
        exfalso
        have hw := (decode_high b pos hp (by omega)).2
        rw [h0] at hw
        exact absurd hw (by decide)
    · rw [hd, hdd] at hR h1 h4 hle he
      rw [List.length_drop, hz] at hle
      have hmem : ∀ k, pos ≤ k → k < pos + (Utf8.decode b pos).2 → UInt8.ofNat (Go.PlainAid.bt b k).toNat ∈ encodeRune ((Utf8.decode b pos).1 : Int) := fun k h1 h2 => by
        rw [he]
        have h3 := hat k h1 (by omega)
        refine List.mem_of_getElem? (i := k - pos) ?_
        rw [List.getElem?_take, if_pos (by omega)]
        exact h3
      have hge : 128 ≤ (Utf8.decode b pos).1 := by
        by_cases hge : 128 ≤ (Utf8.decode b pos).1
        · exact hge
        · exfalso
          have h5 := hmem pos (Nat.le_refl _) (by omega)
          rw [enc1 _ (by omega)] at h5
          simp only [List.mem_cons, List.not_mem_nil, or_false] at h5
          have h6 := congrArg UInt8.toNat h5
          have h7 := Go.PlainAid.bt_le b pos
          have h8' := Go.PlainAid.bt_nonneg b pos
          rw [u8n _ (by omega), u8n _ (by omega)] at h6
          omega
      refine ⟨hge, h1, by omega, fun k h5 h6 => ?_⟩
      have h7 := enc_high hR (by omega) _ (hmem k h5 h6)
      have h8' := Go.PlainAid.bt_le b k
      have h9 := Go.PlainAid.bt_nonneg b k
      rw [u8n _ (by omega)] at h7
      omega

def twoZ : ByteArray := ⟨#[0, 47]⟩
theorem twoZ_ascii : Ascii twoZ := by
  intro j b h
  have : b ∈ twoZ.data.toList := List.mem_of_getElem? h
  simp [twoZ] at this
  rcases this with rfl | rfl <;> decide
/-- Does a byte of no name stand there? -/
def hasZ (b : ByteArray) : Bool := (List.range b.size).any fun k => decide (Go.PlainAid.bt b k = 0 ∨ Go.PlainAid.bt b k = 47)
theorem hasZ_yes {b : ByteArray} {k : Nat} (hk : k < b.size) (h : Go.PlainAid.bt b k = 0 ∨ Go.PlainAid.bt b k = 47) : hasZ b = true := by
  unfold hasZ; rw [List.any_eq_true]; exact ⟨k, List.mem_range.2 hk, decide_eq_true h⟩
theorem hasZ_no {b : ByteArray} (h : ∀ k, k < b.size → ¬ (Go.PlainAid.bt b k = 0 ∨ Go.PlainAid.bt b k = 47)) : hasZ b = false := by
  unfold hasZ; rw [List.any_eq_false]; intro k hk; simpa using h k (List.mem_range.1 hk)
theorem idx_two (r : Int) : (0 ≤ idxR twoZ r) ↔ (r = 0 ∨ r = 47) := by
  unfold idxR
  by_cases h : 0 ≤ r ∧ r < 128
  · rw [if_pos h]
    obtain ⟨n, rfl⟩ : ∃ n : Nat, r = (n : Int) := ⟨r.toNat, by omega⟩
    have key : ∀ m : Nat, m < 128 → ((0 ≤ Lib.indexByte twoZ.data.toList m.toUInt8) ↔ (m = 0 ∨ m = 47)) := by decide +kernel
    have := key n (by omega)
    rw [show ((n : Int)).toNat = n by omega, this]
    omega
  · rw [if_neg h]; omega
def AnyPost (b : ByteArray) (w : World) (e : Ending) (w' : World) : Prop := ∃ x : Int, e = .returned (.int .i64 x) ∧ decide (0 ≤ x) = hasZ b ∧ Below w.heap.size w w'

def NoZ (b : ByteArray) (pos : Nat) : Prop := ∀ k, k < pos → ¬ (Go.PlainAid.bt b k = 0 ∨ Go.PlainAid.bt b k = 47)
set_option maxHeartbeats 1000000 in
set_option maxRecDepth 100000 in
theorem any_short (b : ByteArray) (hs : b.size ≤ 8) (w : World) : Calls Try.prog 56 #[.string b, .string ⟨#[0, 47]⟩] w (AnyPost b w) := by
  have h8 : ¬ ((8 : Int) < (b.size : Int)) := by omega
  have cI := fun r w => idxRune_c ⟨#[0, 47]⟩ twoZ_ascii (by decide) r w
  have HI : Hid (∀ r, (0 ≤ idxR ⟨#[0, 47]⟩ r) ↔ (r = 0 ∨ r = 47)) := Lib.hid idx_two
  unfold AnyPost
  go_enter Try.func56, Try.ntmps56
  go_wp2_with (first | (go_at_call 58; refine (Try.strings_shouldUseASCIISet _ _).mono ?_; rintro e w' ⟨rfl, hw⟩; rw [hw, decide_eq_false h8]))
  go_loopg [9] b.size (fun g _ wr => ∃ pos : Nat, pos + g = b.size ∧ wr.heap[w.heap.size]? = some (.stringIter b pos) ∧ NoZ b pos ∧ Below w.heap.size w wr)
  case atStart => exact ⟨0, by omega, World.iter_heap w b 0, fun k hk => by omega, (Below.refl _ _).alloc (Nat.le_refl _) _⟩
  case round =>
    obtain ⟨pos, hpg, hit, hno, hbel⟩ := hrel
    have HN := Lib.hid hno
    clear hno
    by_cases hp : pos < b.size
    · have hnx : ∀ ty, (Instr.next (.pointer (some ⟨w.heap.size, 0, none⟩)) true ty).run Try.prog wr = _ := fun ty => run_next_any_at wr w.heap.size b pos ty hit hp
      have hst := scan_step hp
      obtain ⟨R, hR⟩ : ∃ R, (Utf8.decode b pos).1 = R := ⟨_, rfl⟩
      obtain ⟨K, hK⟩ : ∃ K, (Utf8.decode b pos).2 = K := ⟨_, rfl⟩
      rw [hR, hK] at hnx hst
      have hbi : Below w.heap.size w (wr.iterAt w.heap.size b (pos + K)) := below_iterAt hbel (Nat.le_refl _) b _
      have hit2 : (wr.iterAt w.heap.size b (pos + K)).heap[w.heap.size]? = some (.stringIter b (pos + K)) := iterAt_heap wr _ b pos _ hit
      generalize wr.iterAt w.heap.size b (pos + K) = wi at *
      have cR := cI (R : Int) wi
      obtain ⟨y, hy⟩ : ∃ y, idxR ⟨#[0, 47]⟩ (R : Int) = y := ⟨_, rfl⟩
      have hyy := HI.out (R : Int)
      rw [hy] at cR hyy
      have hK1 : 1 ≤ K ∧ pos + K ≤ b.size := by rcases hst with h | h <;> omega
      by_cases h0 : 0 ≤ y
      · have HX : Hid (hasZ b = true) := Lib.hid (by
          rcases hst with h | h
          · exact hasZ_yes hp (by have := hyy.1 h0; omega)
          · have := hyy.1 h0; omega)
        have HPos : Hid ((0 : Int) ≤ (pos : Int)) := Lib.hid (by omega)
        clear hst hR hK hy hyy
        go_wp2_with (first | (go_at_call 57; refine cR.mono ?_; rintro e w2 ⟨rfl, hb2⟩))
        go_ret
        exact ⟨_, rfl, by rw [HX.out, decide_eq_true HPos.out], hbi.trans (hb2.mono hbi.size)⟩
      · have HX : Hid (NoZ b (pos + K)) := Lib.hid (fun k hk => by
          by_cases hkp : k < pos
          · exact HN.out k hkp
          · rcases hst with h | h
            · have e : k = pos := by omega
              subst e
              rw [← h.2.1]
              exact fun h9 => h0 (hyy.2 h9)
            · have := h.2.2.2 k (by omega) hk
              omega)
        clear hst hR hK hy hyy
        go_wp2_with (first | (go_at_call 57; refine cR.mono ?_; rintro e w2 ⟨rfl, hb2⟩))
        go_roundg (b.size - (pos + K))
        case measure => omega
        case rel => exact ⟨pos + K, by omega, by rw [hb2.block _ (lt_get hit2)]; exact hit2, HX.out, hbi.trans (hb2.mono hbi.size)⟩
    · have hnx : ∀ ty, (Instr.next (.pointer (some ⟨w.heap.size, 0, none⟩)) true ty).run Try.prog wr = _ := fun ty => run_next_end_at wr w.heap.size b pos ty hit hp
      have HX : Hid (hasZ b = false) := Lib.hid (hasZ_no fun k hk => HN.out k (by omega))
      go_wp2
      go_ret
      exact ⟨_, rfl, by rw [HX.out]; rfl, hbel⟩

theorem infoSet : (Try.prog.info? 107).map (fun i => (i.zero, i.size)) = some (some (.agg (Array.replicate 256 (.bool false))), 256) := by kernel_rfl
set_option maxHeartbeats 2000000 in
set_option maxRecDepth 100000 in
theorem any_long (b : ByteArray) (hs : 8 < b.size) (hs' : b.size ≤ 9223372036854775807) (w : World) : Calls Try.prog 56 #[.string b, .string ⟨#[0, 47]⟩] w (AnyPost b w) := by
  have h8 : (8 : Int) < (b.size : Int) := by omega
  have hM := fun w => Try.strings_makeASCIISet (zero_of_info infoSet).1 ⟨#[0, 47]⟩ w (by decide) twoZ_ascii
  have hz := Lib.setCells_size (⟨#[0, 47]⟩ : ByteArray).data.toList
  have hat : ∀ x : UInt8, (Lib.setCells (⟨#[0, 47]⟩ : ByteArray).data.toList)[x.toNat]? = some (.bool ((⟨#[0, 47]⟩ : ByteArray).data.toList.contains x)) := fun x => Lib.setCells_at _ x
  have HC : Hid (∀ x : UInt8, (Lib.setCells (⟨#[0, 47]⟩ : ByteArray).data.toList)[x.toNat]? = some (.bool (decide (x.toNat = 0 ∨ x.toNat = 47)))) := Lib.hid fun x => by
    rw [hat x]
    congr 2
    have key : ∀ n : Nat, n < 256 → (⟨#[0, 47]⟩ : ByteArray).data.toList.contains (UInt8.ofNat n) = decide (n = 0 ∨ n = 47) := by decide +kernel
    have := key x.toNat x.toNat_lt
    rw [UInt8.ofNat_toNat] at this
    exact this
  have hs1 := Lib.setCells_one (⟨#[0, 47]⟩ : ByteArray).data.toList
  generalize Lib.setCells (⟨#[0, 47]⟩ : ByteArray).data.toList = SC at *
  have HSC : (storeCells ⟨w.heap.size + 1, 0, none⟩ SC.toList 0).run Try.prog ((w.alloc (.cells SC 107)).alloc (.cells Try.zeroCells107 107)) = .ok () ((w.alloc (.cells SC 107)).alloc (.cells SC 107)) := by
    have := run_storeCells_new (P := Try.prog) (w.alloc (.cells SC 107)) 107 Try.zeroCells107 SC (by rw [hz]; exact (zero_of_info infoSet).2) (by rw [hz]; rfl) hs1
    rw [show (w.alloc (.cells SC 107)).heap.size = w.heap.size + 1 from by simp] at this
    exact this
  clear hat
  unfold AnyPost
  go_enter Try.func56, Try.ntmps56
  go_wp2_with (first
    | (go_at_call 58; refine (Try.strings_shouldUseASCIISet _ _).mono ?_; rintro e w' ⟨rfl, hw⟩; rw [hw, decide_eq_true h8])
    | (go_at_call 59; refine (hM _).mono ?_; rintro e w' ⟨rfl, hw⟩; rw [hw]))
  have hcell : ∀ x : UInt8, ((w.alloc (.cells SC 107)).alloc (.cells SC 107)).cell? ⟨w.heap.size + 1, x.toNat, none⟩ = some (.bool (decide (x.toNat = 0 ∨ x.toNat = 47))) := fun x => by
    rw [World.cell?_alloc_at _ _ _ _ (by simp)]
    exact HC.out x
  have HCC := Lib.hid hcell
  have HBL : Hid (Below w.heap.size w ((w.alloc (.cells SC 107)).alloc (.cells SC 107))) := Lib.hid (((Below.refl _ _).alloc (Nat.le_refl _) _).alloc (by simp) _)
  clear hcell HSC hM hs1 hz
  generalize (w.alloc (.cells SC 107)).alloc (.cells SC 107) = W at *
  go_wp2
  go_loopg [8] b.size (fun g iv wr => ∃ i : Nat, i + g = b.size ∧ iv = .int .i64 i ∧ wr = W ∧ NoZ b i)
  case atStart => exact ⟨0, by omega, rfl, rfl, fun k hk => by omega⟩
  case round =>
    obtain ⟨i, hig, rfl, rfl, hno⟩ := hrel
    have HN := Lib.hid hno
    clear hno
    by_cases hi : i < b.size
    · have hiz : (i : Int) < (b.size : Int) := by omega
      obtain ⟨x, hx⟩ : ∃ x : UInt8, b[i]'hi = x := ⟨_, rfl⟩
      have hbx := (bt_list hi).2
      rw [hx] at hbx
      have hcx := HCC.out x
      by_cases h0 : x.toNat = 0 ∨ x.toNat = 47
      · rw [decide_eq_true h0] at hcx
        have HX : Hid (hasZ b = true) := Lib.hid (hasZ_yes hi (by rw [hbx]; omega))
        have HP : Hid ((0 : Int) ≤ (i : Int)) := Lib.hid (by omega)
        clear hbx h0
        go_wp2_with (first | (go_at_call 60; refine (Try.asciiSet_contains _ x _ _ hcx).mono ?_; rintro e w' ⟨rfl, hw⟩; rw [hw]))
        go_ret
        exact ⟨_, rfl, by rw [HX.out, decide_eq_true HP.out], HBL.out⟩
      · rw [decide_eq_false h0] at hcx
        have HX : Hid (NoZ b (i + 1)) := Lib.hid (fun k hk => by
          by_cases hk' : k < i
          · exact HN.out k hk'
          · have e : k = i := by omega
            subst e
            rw [hbx]; omega)
        clear hbx h0
        go_wp2_with (first | (go_at_call 60; refine (Try.asciiSet_contains _ x _ _ hcx).mono ?_; rintro e w' ⟨rfl, hw⟩; rw [hw]))
        go_roundg (b.size - (i + 1))
        case measure => omega
        case rel => exact ⟨i + 1, by omega, by first | rfl | simp, rfl, HX.out⟩
    · have hie : i = b.size := by omega
      have HX : Hid (hasZ b = false) := Lib.hid (hasZ_no fun k hk => HN.out k (by omega))
      have hiz : ¬ ((i : Int) < (b.size : Int)) := by omega
      clear hie hi hig
      go_wp2
      go_ret
      exact ⟨_, rfl, by rw [HX.out]; rfl, HBL.out⟩

set_option maxRecDepth 100000 in
theorem hasAny_c (b : ByteArray) (hs : b.size ≤ 9223372036854775807) (w : World) : Calls Try.prog 54 #[.string b, .string ⟨#[0, 47]⟩] w fun e w' => e = .returned (.bool (hasZ b)) ∧ Below w.heap.size w w' := by
  have c : Calls Try.prog 56 #[.string b, .string ⟨#[0, 47]⟩] w (AnyPost b w) := by
    by_cases h : b.size ≤ 8
    · exact any_short b h w
    · exact any_long b (by omega) hs w
  clear hs
  go_enter Try.func54, Try.ntmps54
  go_wp2_with fail
  refine c.mono ?_
  rintro e w' ⟨x, rfl, hx, hb⟩
  have HX := Lib.hid hx
  clear hx
  go_wp2
  go_ret
  exact ⟨by rw [← HX.out]; rfl, hb⟩
end Go.Proofs.Ytmplekjiciedgaa

namespace Go.Proofs.Ytmplekjiciedgaa
open Go.RowKit Go.Lib
set_option linter.unusedVariables false

theorem good_says (b : ByteArray) : goodB b = (!(decide (b.toList = [46]) || (decide (b.toList = [46, 46]) || hasZ b)) && (decide (1 ≤ b.size) && decide (b.size ≤ 255))) := by
  have h1 : (List.range b.size).all (fun k => decide (Go.PlainAid.bt b k ≠ 0 ∧ Go.PlainAid.bt b k ≠ 47)) = !hasZ b := by
    unfold hasZ
    rw [List.not_any_eq_all_not]
    congr 1
    funext k
    by_cases h : Go.PlainAid.bt b k = 0 ∨ Go.PlainAid.bt b k = 47
    · rw [decide_eq_true h, decide_eq_false (by omega)]; rfl
    · rw [decide_eq_false h, decide_eq_true (by omega)]; rfl
  have h2 : decide (b.toList ≠ []) = decide (1 ≤ b.size) := by
    rw [decide_eq_decide, ByteArray.toList_eq]
    have := len_list b
    constructor
    · intro h
      have := List.length_pos_iff.2 h
      omega
    · intro h h3
      rw [h3] at this
      simp at this
      omega
  unfold goodB
  rw [h1, h2]
  generalize hasZ b = z
  generalize decide (1 ≤ b.size) = x
  generalize decide (b.size ≤ 255) = y
  by_cases p1 : b.toList = [46]
  · rw [decide_eq_true p1, decide_eq_false (fun h => h p1)]; cases z <;> cases x <;> cases y <;> rfl
  · rw [decide_eq_false p1, decide_eq_true p1]
    by_cases p2 : b.toList = [46, 46]
    · rw [decide_eq_true p2, decide_eq_false (fun h => h p2)]; cases z <;> cases x <;> cases y <;> rfl
    · rw [decide_eq_false p2, decide_eq_true p2]; cases z <;> cases x <;> cases y <;> rfl

set_option maxRecDepth 100000 in
theorem esGood_c (b : ByteArray) (hs : b.size ≤ 9223372036854775807) (w : World) : Calls Try.prog 49 #[.string b] w fun e w' => e = .returned (.bool (goodB b)) ∧ Below w.heap.size w w' := by
  have cA := hasAny_c b hs w
  have HX : Hid (goodB b = _) := Lib.hid (good_says b)
  by_cases p1 : b.toList = [46]
  · have HY : Hid (goodB b = false) := Lib.hid (by rw [HX.out, decide_eq_true p1]; rfl)
    clear HX cA
    go_enter Try.func49, Try.ntmps49
    go_wp2
    go_ret
    exact ⟨by rw [HY.out]; rfl, Below.refl _ _⟩
  · have q1 : (b.toList == [46]) = false := by rw [beq_eq_false_iff_ne]; exact p1
    by_cases p2 : b.toList = [46, 46]
    · have HY : Hid (goodB b = false) := Lib.hid (by rw [HX.out, decide_eq_false p1, decide_eq_true p2]; rfl)
      clear HX cA p1
      go_enter Try.func49, Try.ntmps49
      go_wp2
      go_ret
      exact ⟨by rw [HY.out]; rfl, Below.refl _ _⟩
    · have q2 : (b.toList == [46, 46]) = false := by rw [beq_eq_false_iff_ne]; exact p2
      cases hz : hasZ b with
      | true =>
        have HY : Hid (goodB b = false) := Lib.hid (by rw [HX.out, decide_eq_false p1, decide_eq_false p2, hz]; rfl)
        rw [hz] at cA
        clear HX p1 p2 hz
        go_enter Try.func49, Try.ntmps49
        go_wp2_with (first | (go_at_call 54; refine cA.mono ?_; rintro e w' ⟨rfl, hb⟩))
        go_ret
        exact ⟨by rw [HY.out]; rfl, hb⟩
      | false =>
        have HY : Hid (goodB b = (decide (1 ≤ b.size) && decide (b.size ≤ 255))) := Lib.hid (by rw [HX.out, decide_eq_false p1, decide_eq_false p2, hz]; rfl)
        rw [hz] at cA
        clear HX p1 p2 hz
        by_cases h1 : 1 ≤ b.size
        · have h1z : (1 : Int) ≤ (b.size : Int) := by omega
          have HW : Hid (goodB b = decide ((b.size : Int) ≤ 255)) := Lib.hid (by rw [HY.out, decide_eq_true h1, Bool.true_and, decide_eq_decide]; omega)
          clear HY
          go_enter Try.func49, Try.ntmps49
          go_wp2_with (first | (go_at_call 54; refine cA.mono ?_; rintro e w' ⟨rfl, hb⟩))
          go_ret
          exact ⟨by rw [HW.out]; rfl, hb⟩
        · have h1z : ¬ ((1 : Int) ≤ (b.size : Int)) := by omega
          have HW : Hid (goodB b = false) := Lib.hid (by rw [HY.out, decide_eq_false h1]; rfl)
          clear HY
          go_enter Try.func49, Try.ntmps49
          go_wp2_with (first | (go_at_call 54; refine cA.mono ?_; rintro e w' ⟨rfl, hb⟩))
          go_ret
          exact ⟨by rw [HW.out]; rfl, hb⟩

end Go.Proofs.Ytmplekjiciedgaa
