/-
  The contracts of the reference's Digits and Name.
-/
import Derived.Test.YtfmjhamnpgcdcaaGreatDoorShMath
import Derived.Test.YtfmjhamnpgcdcaaGreatDoorProg
import Derived.WalkKit
import Derived.WalkSpells
import Derived.IntWalk
import Derived.ProofKit
import Derived.Below
import Derived.LoopTactic
import Derived.Deep.LoopGhost
import Derived.Laws.IdiomStrings
import Derived.Laws.NewBlocks
import Derived.PlainAid
namespace Go.Proofs.YtfmjhamnpgcdcaaGreatDoor
open Go.RowKit
set_option linter.unusedVariables false

theorem one_byte (m : Nat) (hm : m < 10) (w : World) : (convert 58 9 (.slice (some ⟨w.heap.size, 0, none⟩) 1 1)).run Tryz.prog (w.alloc (.cells #[.int .u8 (48 + (m : Int))] 5)) = .ok (.string ⟨#[UInt8.ofNat (48 + m)]⟩) (w.alloc (.cells #[.int .u8 (48 + (m : Int))] 5)) := by
  refine run_convert_bytes_back (P := Tryz.prog) (w.alloc (.cells #[.int .u8 (48 + (m : Int))] 5)) 58 9 5 ⟨w.heap.size, 0, none⟩ 1 [UInt8.ofNat (48 + m)] Tryz.underlying58 Tryz.underlying5 Tryz.underlying9 (fun j hj => ?_)
  have hj0 : j = 0 := by simp at hj; omega
  subst hj0
  have h1 : (Addr.add ⟨w.heap.size, 0, none⟩ 0) = ⟨w.heap.size, 0, none⟩ := rfl
  rw [h1, World.cell?_alloc_at _ _ _ _ rfl]
  have h2 : (UInt8.ofNat (48 + m)).toNat = 48 + m := by
    have h : (UInt8.ofNat (48 + m)).toNat = (48 + m) % 256 := by simp
    rw [h]; omega
  show some (Value.int .u8 (48 + (m : Int))) = some (Value.int .u8 (((UInt8.ofNat (48 + m)).toNat : Nat) : Int))
  rw [h2]; congr 2
theorem string_two {a b : ByteArray} {l : List UInt8} (h : a.data.toList ++ b.data.toList = l) : a ++ b = ⟨l.toArray⟩ := by
  subst h
  apply ByteArray.ext
  apply Array.toList_inj.1
  simp
set_option maxHeartbeats 2000000 in
set_option maxRecDepth 100000 in
theorem rdig_c (n : Nat) (hn : n < 10000000) (w : World) :
    Calls Tryz.prog 29 #[.int .i64 n] w fun e w' => e = .returned (.string ⟨(Lib.decDigits n).toArray⟩) ∧ Below w.heap.size w w' := by
  have HL : Hid ((Lib.decDigits n).length ≤ 7) := Lib.hid (dec_length 7 n (by decide) (by omega)).2
  go_enter Tryz.func29, Tryz.ntmps29
  go_wp2
  go_loopg [0, 3] n (fun gk nv sv wr => ∃ s : ByteArray, gk < 10000000 ∧ nv = .int .i64 gk ∧ sv = .string s ∧ Lib.decDigits n = Lib.decDigits gk ++ s.data.toList ∧ Below w.heap.size w wr)
  case atStart => exact ⟨⟨#[]⟩, hn, rfl, rfl, by simp, Below.refl _ _⟩
  case round =>
    obtain ⟨s, hgk, rfl, rfl, hd, hbel⟩ := hrel
    have HD := Lib.hid hd
    have HBEL := Lib.hid hbel
    have hss : s.size ≤ 7 := by
      have h1 := congrArg List.length hd
      have h2 := HL.out
      rw [List.length_append] at h1
      have h3 : s.data.toList.length = s.size := rfl
      omega
    clear hd hbel
    by_cases h10 : gk < 10
    · have hz : ¬ ((9 : Int) < (gk : Int)) := by omega
      have kc := one_byte gk h10 wr
      have HX : Hid ((⟨#[UInt8.ofNat (48 + gk)]⟩ : ByteArray) ++ s = ⟨(Lib.decDigits n).toArray⟩) := Lib.hid (string_two (by rw [HD.out, dec_small h10]))
      have HB : Hid (Below w.heap.size w (wr.alloc (.cells #[.int .u8 (48 + (gk : Int))] 5))) := Lib.hid (HBEL.out.alloc HBEL.out.size _)
      have h9 : (gk : Int) ≤ 9 := by omega
      clear h10
      generalize UInt8.ofNat (48 + gk) = D at *
      go_wp2
      go_ret
      exact ⟨by rw [← HX.out]; rfl, HB.out⟩
    · have hz : ((9 : Int) < (gk : Int)) := by omega
      obtain ⟨m, hm⟩ : ∃ m, gk % 10 = m := ⟨_, rfl⟩
      have hmz : (gk : Int) % 10 = (m : Int) := by omega
      have hm9 : (m : Int) ≤ 9 := by omega
      have kc := one_byte m (by omega) wr
      have HX : Hid (Lib.decDigits n = Lib.decDigits (gk / 10) ++ ((⟨#[UInt8.ofNat (48 + m)]⟩ : ByteArray) ++ s).data.toList) := Lib.hid (by rw [HD.out, dec_big h10, hm]; simp)
      have HB : Hid (Below w.heap.size w (wr.alloc (.cells #[.int .u8 (48 + (m : Int))] 5))) := Lib.hid (HBEL.out.alloc HBEL.out.size _)
      have HQ : Hid ((gk : Int) / 10 = ((gk / 10 : Nat) : Int)) := Lib.hid (by omega)
      clear hm
      generalize UInt8.ofNat (48 + m) = D at *
      go_wp2
      go_roundg (gk / 10)
      case measure => omega
      case rel => exact ⟨_, by omega, by first | rfl | rw [HQ.out], rfl, HX.out, HB.out⟩

def dgs : ByteArray := ⟨#[48, 49, 50, 51, 52, 53, 54, 55, 56, 57, 97, 98, 99, 100, 101, 102]⟩
theorem dgs_at : ∀ m : Nat, m < 16 → (dgs.extract m (m + 1)).data.toList = [dgB m] := by decide +kernel
theorem padN_front : ∀ (n u : Nat), u < 16 ^ 8 → n < 8 → padN (n + 1) u = padN n (u / 16) ++ [dgB (u % 16)] := fun n u _ _ => rfl
set_option maxHeartbeats 4000000 in
set_option maxRecDepth 100000 in
theorem rname_c (h : Nat) (hh : h < 4294967296) (n : Int) (w : World) :
    Calls Tryz.prog 16 #[.int .u32 h, .int .i64 n] w fun e w' => e = .returned (.string ⟨(nameL h n).toArray⟩) ∧ Below w.heap.size w w' := by
  by_cases h1 : n < 1
  · rw [nameL_no (Or.inl h1)]
    go_enter Tryz.func16, Tryz.ntmps16
    go_wp2
    go_ret
    exact ⟨rfl, Below.refl _ _⟩
  · by_cases h2 : 1000000 < n
    · rw [nameL_no (Or.inr h2)]
      go_enter Tryz.func16, Tryz.ntmps16
      go_wp2
      go_ret
      exact ⟨rfl, Below.refl _ _⟩
    · obtain ⟨k, hk⟩ : ∃ k : Nat, n = (k : Int) := ⟨n.toNat, by omega⟩
      subst hk
      have HD : Hid (∀ w1, Calls Tryz.prog 29 #[.int .i64 (k : Int)] w1 fun e w' => e = .returned (.string ⟨(Lib.decDigits k).toArray⟩) ∧ Below w1.heap.size w1 w') := Lib.hid (fun w1 => rdig_c k (by omega) w1)
      have HX : Hid (∀ s : ByteArray, s.data.toList = padN 8 h → (⟨#[37, 126]⟩ : ByteArray) ++ s ++ ⟨#[45]⟩ ++ ⟨(Lib.decDigits k).toArray⟩ = ⟨(nameL h k).toArray⟩) := Lib.hid (fun s hs => by
        apply ByteArray.ext
        apply Array.toList_inj.1
        rw [nameL_ok (by omega) (by omega)]
        simp [hs])
      have HT : Hid ((⟨(Lib.decDigits k).toArray⟩ : ByteArray).size ≤ 7) := Lib.hid (by
        have := dec_length 7 k (by decide) (by omega)
        show (Lib.decDigits k).toArray.size ≤ _; simp; omega)
      generalize (⟨(Lib.decDigits k).toArray⟩ : ByteArray) = T at *
      generalize (⟨(nameL h k).toArray⟩ : ByteArray) = R at *
      have hk1 : ¬ ((k : Int) < 1) := h1
      go_enter Tryz.func16, Tryz.ntmps16
      go_wp2
      go_loop [0, 5, 7] (fun hv sv iv => ∃ (i u : Nat) (s : ByteArray), i ≤ 8 ∧ u < 4294967296 ∧ iv = .int .i64 i ∧ hv = .int .u32 u ∧ sv = .string s ∧ s.size = i ∧ padN 8 h = padN (8 - i) u ++ s.data.toList) (fun _ _ iv => 8 - (intOf iv).toNat)
      case atStart => exact ⟨0, h, ⟨#[]⟩, by omega, hh, rfl, rfl, rfl, rfl, by simp⟩
      case round =>
        obtain ⟨i, u, s, hi, hu, rfl, rfl, rfl, hss, hp⟩ := hrel
        have HP := Lib.hid hp
        have HSS := Lib.hid hss
        clear hp
        by_cases hlt : i < 8
        · have hz : (i : Int) < 8 := by omega
          obtain ⟨m, hm⟩ : ∃ m, u % 16 = m := ⟨_, rfl⟩
          have hmz : (u : Int) % 16 = (m : Int) := by omega
          have m0 : (0 : Int) ≤ (m : Int) := by omega
          have m15 : (m : Int) ≤ 15 := by omega
          have wm : IntKind.u32.wrap ((m : Int) + 1) = ((m + 1 : Nat) : Int) := by rw [IntKind.wrap_u32]; omega
          have HQ : Hid ((u : Int) / 16 = ((u / 16 : Nat) : Int)) := Lib.hid (by omega)
          have hE := dgs_at m (by omega)
          unfold dgs at hE
          have HN : Hid (padN 8 h = padN (8 - (i + 1)) (u / 16) ++ ((⟨#[48, 49, 50, 51, 52, 53, 54, 55, 56, 57, 97, 98, 99, 100, 101, 102]⟩ : ByteArray).extract m (m + 1) ++ s).data.toList) := Lib.hid (by
            rw [ByteArray.data_append, Array.toList_append, hE, HP.out, show 8 - i = (8 - (i + 1)) + 1 by omega, padN, hm]
            simp)
          have HE1 : Hid (((⟨#[48, 49, 50, 51, 52, 53, 54, 55, 56, 57, 97, 98, 99, 100, 101, 102]⟩ : ByteArray).extract m (m + 1) ++ s).size = i + 1) := Lib.hid (by
            have : ((⟨#[48, 49, 50, 51, 52, 53, 54, 55, 56, 57, 97, 98, 99, 100, 101, 102]⟩ : ByteArray).extract m (m + 1)).data.toList.length = 1 := by rw [hE]; rfl
            rw [ByteArray.size_append, HSS.out]
            have h3 : ((⟨#[48, 49, 50, 51, 52, 53, 54, 55, 56, 57, 97, 98, 99, 100, 101, 102]⟩ : ByteArray).extract m (m + 1)).size = 1 := this
            omega)
          have hs9 : s.size ≤ 8 := by omega
          clear hE hm hss
          go_wp2
          go_round
          case rel => exact ⟨i + 1, u / 16, _, by omega, by omega, by go_num, by rw [HQ.out], rfl, HE1.out, HN.out⟩
          case measure => simp [intOf]; omega
        · have hie : i = 8 := by omega
          subst hie
          have HX2 := Lib.hid (HX.out s (by rw [HP.out]; simp [padN]))
          have hs9 : s.size ≤ 8 := by omega
          have cD := HD.out w
          have hT := HT.out
          clear hss
          go_wp2_with fail
          refine cD.mono ?_
          rintro e w1 ⟨rfl, hb⟩
          have HB := Lib.hid hb
          clear cD hb
          go_wp2
          go_ret
          exact ⟨by rw [← HX2.out]; rfl, HB.out⟩
end Go.Proofs.YtfmjhamnpgcdcaaGreatDoor
