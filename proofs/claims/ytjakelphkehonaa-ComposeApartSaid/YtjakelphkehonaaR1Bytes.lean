/-
  The contract of the first reference's Bytes: of a character its bytes; what lay in memory stays.
-/
import Derived.Test.YtjakelphkehonaaProg
import Derived.Test.YtjakelphkehonaaU8
import Derived.WalkKit
import Derived.WalkSpells
import Derived.IntWalk
import Derived.Lib.Hide
import Derived.Laws.IdiomStrings
import Derived.KernelRfl
namespace Go.Proofs.Ytjakelphkehonaa
open Go.RowKit
set_option linter.unusedVariables false

theorem foldl_push_ints : ∀ (l : List Int) (r : ByteArray), l.foldl (fun r n => r.push (UInt8.ofNat n.toNat)) r = ⟨r.data ++ (l.map fun z => UInt8.ofNat z.toNat).toArray⟩
  | [], r => by simp
  | b :: l, r => by
    rw [List.foldl_cons, foldl_push_ints l]
    simp [ByteArray.push]

theorem conv_back (zs : List Int) (w : World) :
    (convert 57 9 (.slice (some ⟨w.heap.size, 0, none⟩) zs.length zs.length)).run Try.prog (w.alloc (.cells (zs.map (Value.int .u8)).toArray 5)) =
      .ok (.string ⟨(zs.map fun z => UInt8.ofNat z.toNat).toArray⟩) (w.alloc (.cells (zs.map (Value.int .u8)).toArray 5)) := by
  rw [run_convert_bytes_string _ 57 9 5 _ _ _ Try.underlying57 Try.underlying5 Try.underlying9]
  have hl := run_loadCells_list (P := Try.prog) (w.alloc (.cells (zs.map (Value.int .u8)).toArray 5)) ⟨w.heap.size, 0, none⟩ (zs.map (Value.int .u8)) (fun j v hj => by
    have : (Addr.add ⟨w.heap.size, 0, none⟩ j) = ⟨w.heap.size, j, none⟩ := by
      simp [Addr.add]
      exact fun h => h.symm
    rw [this, World.cell?_alloc_mark]
    simpa using hj)
  simp only [List.length_map] at hl
  rw [run_bytesToString _ _ zs.length _ zs hl, foldl_push_ints]
  have he0 : ByteArray.empty.data = #[] := rfl
  rw [he0]
  simp

theorem encode_of (n : Nat) (h : isR (n : Int) = true) (zs : List Int) (hz : (zs.map fun z => UInt8.ofNat z.toNat) = Lib.encodeRune (n : Int)) : (⟨(zs.map fun z => UInt8.ofNat z.toNat).toArray⟩ : ByteArray) = Utf8.encode (n : Int) := by
  rw [hz]
  apply ByteArray.ext
  apply Array.ext'
  rw [encode_toList _ h]

set_option maxHeartbeats 1000000 in
theorem refBytes1 (n : Nat) (h : n < 128) (w : World) :
    Calls Try.prog 43 #[.int .i32 n] w fun e w' => e = .returned (.string (Utf8.encode n)) ∧ Below w.heap.size w w' := by
  have hz : (n : Int) < 128 := by omega
  have ke := encode_of n (isR_of (by omega)) [(n : Int)] (by
    rw [enc1 n h]
    have e1 : ((n : Int)).toNat = n := by omega
    simp only [List.map, e1])
  have kc : ∀ w : World, (convert 57 9 (.slice (some ⟨w.heap.size, 0, none⟩) 1 1)).run Try.prog (w.alloc (.cells #[.int .u8 ((n : Int))] 5)) = .ok (.string (Utf8.encode n)) (w.alloc (.cells #[.int .u8 ((n : Int))] 5)) := fun w => by
    have := conv_back [(n : Int)] w
    rw [ke] at this
    exact this
  clear ke
  go_enter Try.func43, Try.ntmps43
  go_wp2
  go_ret
  exact ⟨rfl, (Below.refl _ _).alloc (Nat.le_refl _) _⟩

set_option maxHeartbeats 1000000 in
theorem refBytes2 (n : Nat) (h : 128 ≤ n) (h' : n < 2048) (w : World) :
    Calls Try.prog 43 #[.int .i32 n] w fun e w' => e = .returned (.string (Utf8.encode n)) ∧ Below w.heap.size w w' := by
  have hz : ¬ (n : Int) < 128 := by omega
  have hz' : (n : Int) < 2048 := by omega
  have ke := encode_of n (isR_of (by omega)) [192 + (n : Int) / 64, 128 + (n : Int) % 64] (by
    rw [enc2 n h h']
    have e1 : (192 + (n : Int) / 64).toNat = 192 + n / 64 := by omega
    have e2 : (128 + (n : Int) % 64).toNat = 128 + n % 64 := by omega
    simp only [List.map, e1, e2])
  have kc : ∀ w : World, (convert 57 9 (.slice (some ⟨w.heap.size, 0, none⟩) 2 2)).run Try.prog (w.alloc (.cells #[.int .u8 (192 + (n : Int) / 64), .int .u8 (128 + (n : Int) % 64)] 5)) = .ok (.string (Utf8.encode n)) (w.alloc (.cells #[.int .u8 (192 + (n : Int) / 64), .int .u8 (128 + (n : Int) % 64)] 5)) := fun w => by
    have := conv_back [192 + (n : Int) / 64, 128 + (n : Int) % 64] w
    rw [ke] at this
    exact this
  clear ke
  go_enter Try.func43, Try.ntmps43
  go_wp2
  go_ret
  exact ⟨rfl, (Below.refl _ _).alloc (Nat.le_refl _) _⟩

set_option maxHeartbeats 1000000 in
theorem refBytes3 (n : Nat) (h : 2048 ≤ n) (h' : n < 65536) (hr : n < 55296 ∨ 57343 < n) (w : World) :
    Calls Try.prog 43 #[.int .i32 n] w fun e w' => e = .returned (.string (Utf8.encode n)) ∧ Below w.heap.size w w' := by
  have hz : ¬ (n : Int) < 128 := by omega
  have hz' : ¬ (n : Int) < 2048 := by omega
  have hz'' : (n : Int) < 65536 := by omega
  have ke := encode_of n (isR_of (by omega)) [224 + (n : Int) / 4096, 128 + (n : Int) / 64 % 64, 128 + (n : Int) % 64] (by
    rw [enc3 n h h' hr]
    have e1 : (224 + (n : Int) / 4096).toNat = 224 + n / 4096 := by omega
    have e2 : (128 + (n : Int) / 64 % 64).toNat = 128 + n / 64 % 64 := by omega
    have e3 : (128 + (n : Int) % 64).toNat = 128 + n % 64 := by omega
    simp only [List.map, e1, e2, e3])
  have kc : ∀ w : World, (convert 57 9 (.slice (some ⟨w.heap.size, 0, none⟩) 3 3)).run Try.prog (w.alloc (.cells #[.int .u8 (224 + (n : Int) / 4096), .int .u8 (128 + (n : Int) / 64 % 64), .int .u8 (128 + (n : Int) % 64)] 5)) = .ok (.string (Utf8.encode n)) (w.alloc (.cells #[.int .u8 (224 + (n : Int) / 4096), .int .u8 (128 + (n : Int) / 64 % 64), .int .u8 (128 + (n : Int) % 64)] 5)) := fun w => by
    have := conv_back [224 + (n : Int) / 4096, 128 + (n : Int) / 64 % 64, 128 + (n : Int) % 64] w
    rw [ke] at this
    exact this
  clear ke
  go_enter Try.func43, Try.ntmps43
  go_wp2
  go_ret
  exact ⟨rfl, (Below.refl _ _).alloc (Nat.le_refl _) _⟩

set_option maxHeartbeats 1000000 in
theorem refBytes4 (n : Nat) (h : 65536 ≤ n) (h' : n ≤ 1114111) (w : World) :
    Calls Try.prog 43 #[.int .i32 n] w fun e w' => e = .returned (.string (Utf8.encode n)) ∧ Below w.heap.size w w' := by
  have hz : ¬ (n : Int) < 128 := by omega
  have hz' : ¬ (n : Int) < 2048 := by omega
  have hz'' : ¬ (n : Int) < 65536 := by omega
  have hz4 : (n : Int) ≤ 1114111 := by omega
  have ke := encode_of n (isR_of (by omega)) [240 + (n : Int) / 262144, 128 + (n : Int) / 4096 % 64, 128 + (n : Int) / 64 % 64, 128 + (n : Int) % 64] (by
    rw [enc4 n h h']
    have e1 : (240 + (n : Int) / 262144).toNat = 240 + n / 262144 := by omega
    have e2 : (128 + (n : Int) / 4096 % 64).toNat = 128 + n / 4096 % 64 := by omega
    have e3 : (128 + (n : Int) / 64 % 64).toNat = 128 + n / 64 % 64 := by omega
    have e4 : (128 + (n : Int) % 64).toNat = 128 + n % 64 := by omega
    simp only [List.map, e1, e2, e3, e4])
  have kc : ∀ w : World, (convert 57 9 (.slice (some ⟨w.heap.size, 0, none⟩) 4 4)).run Try.prog (w.alloc (.cells #[.int .u8 (240 + (n : Int) / 262144), .int .u8 (128 + (n : Int) / 4096 % 64), .int .u8 (128 + (n : Int) / 64 % 64), .int .u8 (128 + (n : Int) % 64)] 5)) = .ok (.string (Utf8.encode n)) (w.alloc (.cells #[.int .u8 (240 + (n : Int) / 262144), .int .u8 (128 + (n : Int) / 4096 % 64), .int .u8 (128 + (n : Int) / 64 % 64), .int .u8 (128 + (n : Int) % 64)] 5)) := fun w => by
    have := conv_back [240 + (n : Int) / 262144, 128 + (n : Int) / 4096 % 64, 128 + (n : Int) / 64 % 64, 128 + (n : Int) % 64] w
    rw [ke] at this
    exact this
  clear ke
  go_enter Try.func43, Try.ntmps43
  go_wp2
  go_ret
  exact ⟨rfl, (Below.refl _ _).alloc (Nat.le_refl _) _⟩

theorem refBytes_c (r : Int) (hr : isR r = true) (w : World) :
    Calls Try.prog 43 #[.int .i32 r] w fun e w' => e = .returned (.string (Utf8.encode r)) ∧ Below w.heap.size w w' := by
  have h := isR_is hr
  obtain ⟨n, rfl⟩ : ∃ n : Nat, r = (n : Int) := ⟨r.toNat, by omega⟩
  by_cases h1 : n < 128
  · exact refBytes1 n h1 w
  · by_cases h2 : n < 2048
    · exact refBytes2 n (by omega) h2 w
    · by_cases h3 : n < 65536
      · exact refBytes3 n (by omega) h3 (by omega) w
      · exact refBytes4 n (by omega) (by omega) w
end Go.Proofs.Ytjakelphkehonaa
