/- Kit. -/
import Derived.Test.YtfioknaadbgjlaaGreatDoorEK9
import Derived.Test.YtfioknaadbgjlaaGreatDoorEK8
set_option maxRecDepth 100000
set_option linter.unusedVariables false
set_option linter.unusedSimpArgs false
namespace Go.Proofs.YtfioknaadbgjlaaGreatDoor.F
open Go.RowKit Go.Sort
/-- The piece that is handed on. -/
def pieceV4 (enc : Int) (b : ByteArray) (k : Nat) : Value := .agg #[.int .i32 (pieceL enc (b.data.toList.drop k)).1, .string (b.extract k (k + (pieceL enc (b.data.toList.drop k)).2)), .bool (decide ((k : Int) + ((pieceL enc (b.data.toList.drop k)).2 : Int) = (b.size : Int)))]
set_option maxHeartbeats 4000000 in
set_option maxRecDepth 100000 in
theorem each_take (enc : Int) (h0 : 0 ≤ enc) (b : ByteArray) (hs : b.size ≤ 1000) (v : Value) (wP : World) (hv : PiecesIs wP v (piecesL enc b.data.toList)) (g0 : Nat) (I : Nat → World → Prop)
    (hI : ∀ k wr w', I k wr → Below wr.heap.size wr w' → I k w')
    (hC : ∀ k wr, k < b.size → I k wr → wP.heap.size ≤ wr.heap.size → Calls Tryz.prog 53 #[.pointer (some ⟨g0, 0, none⟩), pieceV4 enc b k] wr fun e w' => e = .returned (.tuple #[]) ∧ I (k + (pieceL enc (b.data.toList.drop k)).2) w' ∧ Below wP.heap.size wr w')
    (w : World) (hw : Below wP.heap.size wP w) (hi : I 0 w) :
    Calls Tryz.prog 52 #[v, .string b, .func (.func 53) #[.pointer (some ⟨g0, 0, none⟩)] #[]] w fun e w' => e = .returned (.tuple #[]) ∧ I b.size w' ∧ Below wP.heap.size wP w' := by
  have hsz : b.data.toList.length = b.size := by simp
  have HZ := Lib.hid hsz
  have HV := Lib.hid hv
  have HII := Lib.hid hI
  have HCC := Lib.hid hC
  have HI0 := Lib.hid hi
  obtain ⟨a, cap, hva⟩ := hv.len
  obtain ⟨n, hn⟩ : ∃ n, (piecesL enc b.data.toList).length = n := ⟨_, rfl⟩
  rw [hn] at hva
  have HN := Lib.hid hn
  subst hva
  clear hsz hv hI hC hi hn
  go_enter Tryz.func52, Tryz.ntmps52
  go_wp2
  go_loopg [6, 12] n (fun gk av iv wr => ∃ j k : Nat, j + gk = n ∧ av = .int .i64 k ∧ iv = .int .i64 j ∧ k ≤ b.size ∧ j ≤ k ∧ (piecesL enc b.data.toList).drop j = piecesL enc (b.data.toList.drop k) ∧ I k wr ∧ Below wP.heap.size wP wr)
  case atStart => exact ⟨0, 0, by omega, rfl, rfl, by omega, by omega, by simp, HI0.out, hw⟩
  case round =>
    obtain ⟨j, k, hjg, rfl, rfl, hk, hjk, hdr, hik, hbel⟩ := hrel
    have HD := Lib.hid hdr
    have HK := Lib.hid hik
    clear hdr hik
    by_cases hlt : j < n
    · have hltz : (j : Int) < (n : Int) := by omega
      have hjl : j < (piecesL enc b.data.toList).length := by rw [HN.out]; exact hlt
      have hne : b.data.toList.drop k ≠ [] := by
        intro h
        have h1 := HD.out
        rw [h, piecesL_nil] at h1
        have := congrArg List.length h1
        rw [List.length_drop, HN.out, List.length_nil] at this
        omega
      have hkl : k < b.size := by
        have := List.length_pos_iff.2 hne
        rw [List.length_drop, HZ.out] at this
        omega
      have hst := HD.out
      rw [piecesL_step h0 hne, List.drop_eq_getElem_cons hjl] at hst
      have hhead : (piecesL enc b.data.toList)[j] = pieceL enc (b.data.toList.drop k) := (List.cons.inj hst).1
      have htail := (List.cons.inj hst).2
      rw [List.drop_drop] at htail
      have hrg := pieceL_range h0 hne
      rw [List.length_drop, HZ.out] at hrg
      have hcell : ∃ g, a = some ⟨g, 0, none⟩ ∧ g < wP.heap.size ∧ wP.cell? ⟨g, j * 2, none⟩ = some (.int .i32 (pieceL enc (b.data.toList.drop k)).1) ∧ wP.cell? ⟨g, j * 2 + 1, none⟩ = some (.int .i64 (pieceL enc (b.data.toList.drop k)).2) := by
        rcases HV.out with ⟨h1, _⟩ | ⟨g, cap', hg, hv', hc⟩
        · rw [h1] at hjl; exact absurd hjl (by simp)
        · have := hc j hjl
          rw [hhead] at this
          refine ⟨g, ?_, hg, this⟩
          injection hv'
      obtain ⟨g, rfl, hg, c0, c1⟩ := hcell
      have hC1 := HCC.out k
      unfold pieceV4 at hC1
      generalize hRR : (pieceL enc (b.data.toList.drop k)).1 = R at *
      generalize hKK : (pieceL enc (b.data.toList.drop k)).2 = K at *
      have hKb : 1 ≤ K ∧ k + K ≤ b.size := by omega
      have d0 : wr.cell? ⟨g, j * 2, none⟩ = some (.int .i32 R) := by rw [hbel.cell (p := ⟨g, j * 2, none⟩) hg]; exact c0
      have d1 : wr.cell? ⟨g, j * 2 + 1, none⟩ = some (.int .i64 (K : Int)) := by rw [hbel.cell (p := ⟨g, j * 2 + 1, none⟩) hg]; exact c1
      have hw0 : IntKind.i64.wrap ((k : Int) + (K : Int)) = (k : Int) + (K : Int) := by rw [IntKind.wrap_i64]; omega
      have z0 : (0 : Int) ≤ (k : Int) := by omega
      have z1 : (0 : Int) ≤ (k : Int) + (K : Int) := by omega
      have z2 : (k : Int) ≤ (k : Int) + (K : Int) := by omega
      have z3 : (k : Int) + (K : Int) ≤ (b.size : Int) := by omega
      have z4 : ((k : Int) + (K : Int)).toNat = k + K := by omega
      have z5 : ((k : Int)).toNat = k := by omega
      have HT := Lib.hid htail
      have hbs := hbel.size
      have hI1 : I k ((wr.alloc (.cells #[.int .i32 R, .int .i64 (K : Int)] 155)).drew) := HII.out k wr _ HK.out (((Below.refl _ _).alloc (Nat.le_refl _) _).drew)
      have cK := hC1 _ hkl hI1 (by show wP.heap.size ≤ (wr.heap.push _).size; simp; omega)
      have HB1 : Hid (Below wP.heap.size wP ((wr.alloc (.cells #[.int .i32 R, .int .i64 (K : Int)] 155)).drew)) := Lib.hid ((hbel.alloc hbs _).drew)
      clear hst hhead htail hrg c0 c1 hC1 hRR hKK hne hjl hI1
      go_wp2_with fail
      go_region_with (first | (go_at_call 53; refine cK.mono ?_; rintro e w2 ⟨rfl, hi2, hb2⟩; have HI2 := Lib.hid hi2; clear hi2))
      go_wp2
      go_roundg (n - (j + 1))
      case measure => omega
      case rel => exact ⟨j + 1, k + K, by omega, by first | rfl | go_num, by first | rfl | go_num, by omega, by omega, HT.out, HI2.out, HB1.out.trans hb2⟩
    · have hje : j = n := by omega
      have hke : k = b.size := by
        have h1 := HD.out
        rw [List.drop_eq_nil_of_le (by rw [HN.out]; omega)] at h1
        by_cases hne : b.data.toList.drop k = []
        · have := congrArg List.length hne
          rw [List.length_drop, HZ.out, List.length_nil] at this
          omega
        · rw [piecesL_step h0 hne] at h1
          cases h1
      have hge : ¬ ((j : Int) < (n : Int)) := by omega
      have HKE : Hid (I b.size wr) := Lib.hid (by rw [← hke]; exact HK.out)
      clear hje hlt hjg hke
      go_wp2
      go_end0
      exact ⟨rfl, HKE.out, hbel⟩
set_option maxHeartbeats 4000000 in
set_option maxRecDepth 100000 in
theorem each_reg (enc : Int) (h0 : 0 ≤ enc) (b : ByteArray) (hs : b.size ≤ 1000) (v : Value) (wP : World) (hv : PiecesIs wP v (piecesL enc b.data.toList)) (g0 : Nat) (I : Nat → World → Prop)
    (hI : ∀ k wr w', I k wr → Below wr.heap.size wr w' → I k w')
    (hC : ∀ k wr, k < b.size → I k wr → wP.heap.size ≤ wr.heap.size → Calls Tryz.prog 55 #[.pointer (some ⟨g0, 0, none⟩), pieceV4 enc b k] wr fun e w' => e = .returned (.tuple #[]) ∧ I (k + (pieceL enc (b.data.toList.drop k)).2) w' ∧ Below wP.heap.size wr w')
    (w : World) (hw : Below wP.heap.size wP w) (hi : I 0 w) :
    Calls Tryz.prog 52 #[v, .string b, .func (.func 55) #[.pointer (some ⟨g0, 0, none⟩)] #[]] w fun e w' => e = .returned (.tuple #[]) ∧ I b.size w' ∧ Below wP.heap.size wP w' := by
  have hsz : b.data.toList.length = b.size := by simp
  have HZ := Lib.hid hsz
  have HV := Lib.hid hv
  have HII := Lib.hid hI
  have HCC := Lib.hid hC
  have HI0 := Lib.hid hi
  obtain ⟨a, cap, hva⟩ := hv.len
  obtain ⟨n, hn⟩ : ∃ n, (piecesL enc b.data.toList).length = n := ⟨_, rfl⟩
  rw [hn] at hva
  have HN := Lib.hid hn
  subst hva
  clear hsz hv hI hC hi hn
  go_enter Tryz.func52, Tryz.ntmps52
  go_wp2
  go_loopg [6, 12] n (fun gk av iv wr => ∃ j k : Nat, j + gk = n ∧ av = .int .i64 k ∧ iv = .int .i64 j ∧ k ≤ b.size ∧ j ≤ k ∧ (piecesL enc b.data.toList).drop j = piecesL enc (b.data.toList.drop k) ∧ I k wr ∧ Below wP.heap.size wP wr)
  case atStart => exact ⟨0, 0, by omega, rfl, rfl, by omega, by omega, by simp, HI0.out, hw⟩
  case round =>
    obtain ⟨j, k, hjg, rfl, rfl, hk, hjk, hdr, hik, hbel⟩ := hrel
    have HD := Lib.hid hdr
    have HK := Lib.hid hik
    clear hdr hik
    by_cases hlt : j < n
    · have hltz : (j : Int) < (n : Int) := by omega
      have hjl : j < (piecesL enc b.data.toList).length := by rw [HN.out]; exact hlt
      have hne : b.data.toList.drop k ≠ [] := by
        intro h
        have h1 := HD.out
        rw [h, piecesL_nil] at h1
        have := congrArg List.length h1
        rw [List.length_drop, HN.out, List.length_nil] at this
        omega
      have hkl : k < b.size := by
        have := List.length_pos_iff.2 hne
        rw [List.length_drop, HZ.out] at this
        omega
      have hst := HD.out
      rw [piecesL_step h0 hne, List.drop_eq_getElem_cons hjl] at hst
      have hhead : (piecesL enc b.data.toList)[j] = pieceL enc (b.data.toList.drop k) := (List.cons.inj hst).1
      have htail := (List.cons.inj hst).2
      rw [List.drop_drop] at htail
      have hrg := pieceL_range h0 hne
      rw [List.length_drop, HZ.out] at hrg
      have hcell : ∃ g, a = some ⟨g, 0, none⟩ ∧ g < wP.heap.size ∧ wP.cell? ⟨g, j * 2, none⟩ = some (.int .i32 (pieceL enc (b.data.toList.drop k)).1) ∧ wP.cell? ⟨g, j * 2 + 1, none⟩ = some (.int .i64 (pieceL enc (b.data.toList.drop k)).2) := by
        rcases HV.out with ⟨h1, _⟩ | ⟨g, cap', hg, hv', hc⟩
        · rw [h1] at hjl; exact absurd hjl (by simp)
        · have := hc j hjl
          rw [hhead] at this
          refine ⟨g, ?_, hg, this⟩
          injection hv'
      obtain ⟨g, rfl, hg, c0, c1⟩ := hcell
      have hC1 := HCC.out k
      unfold pieceV4 at hC1
      generalize hRR : (pieceL enc (b.data.toList.drop k)).1 = R at *
      generalize hKK : (pieceL enc (b.data.toList.drop k)).2 = K at *
      have hKb : 1 ≤ K ∧ k + K ≤ b.size := by omega
      have d0 : wr.cell? ⟨g, j * 2, none⟩ = some (.int .i32 R) := by rw [hbel.cell (p := ⟨g, j * 2, none⟩) hg]; exact c0
      have d1 : wr.cell? ⟨g, j * 2 + 1, none⟩ = some (.int .i64 (K : Int)) := by rw [hbel.cell (p := ⟨g, j * 2 + 1, none⟩) hg]; exact c1
      have hw0 : IntKind.i64.wrap ((k : Int) + (K : Int)) = (k : Int) + (K : Int) := by rw [IntKind.wrap_i64]; omega
      have z0 : (0 : Int) ≤ (k : Int) := by omega
      have z1 : (0 : Int) ≤ (k : Int) + (K : Int) := by omega
      have z2 : (k : Int) ≤ (k : Int) + (K : Int) := by omega
      have z3 : (k : Int) + (K : Int) ≤ (b.size : Int) := by omega
      have z4 : ((k : Int) + (K : Int)).toNat = k + K := by omega
      have z5 : ((k : Int)).toNat = k := by omega
      have HT := Lib.hid htail
      have hbs := hbel.size
      have hI1 : I k ((wr.alloc (.cells #[.int .i32 R, .int .i64 (K : Int)] 155)).drew) := HII.out k wr _ HK.out (((Below.refl _ _).alloc (Nat.le_refl _) _).drew)
      have cK := hC1 _ hkl hI1 (by show wP.heap.size ≤ (wr.heap.push _).size; simp; omega)
      have HB1 : Hid (Below wP.heap.size wP ((wr.alloc (.cells #[.int .i32 R, .int .i64 (K : Int)] 155)).drew)) := Lib.hid ((hbel.alloc hbs _).drew)
      clear hst hhead htail hrg c0 c1 hC1 hRR hKK hne hjl hI1
      go_wp2_with fail
      go_region_with (first | (go_at_call 55; refine cK.mono ?_; rintro e w2 ⟨rfl, hi2, hb2⟩; have HI2 := Lib.hid hi2; clear hi2))
      go_wp2
      go_roundg (n - (j + 1))
      case measure => omega
      case rel => exact ⟨j + 1, k + K, by omega, by first | rfl | go_num, by first | rfl | go_num, by omega, by omega, HT.out, HI2.out, HB1.out.trans hb2⟩
    · have hje : j = n := by omega
      have hke : k = b.size := by
        have h1 := HD.out
        rw [List.drop_eq_nil_of_le (by rw [HN.out]; omega)] at h1
        by_cases hne : b.data.toList.drop k = []
        · have := congrArg List.length hne
          rw [List.length_drop, HZ.out, List.length_nil] at this
          omega
        · rw [piecesL_step h0 hne] at h1
          cases h1
      have hge : ¬ ((j : Int) < (n : Int)) := by omega
      have HKE : Hid (I b.size wr) := Lib.hid (by rw [← hke]; exact HK.out)
      clear hje hlt hjg hke
      go_wp2
      go_end0
      exact ⟨rfl, HKE.out, hbel⟩
set_option maxHeartbeats 4000000 in
set_option maxRecDepth 100000 in
theorem each_irr (enc : Int) (h0 : 0 ≤ enc) (b : ByteArray) (hs : b.size ≤ 1000) (v : Value) (wP : World) (hv : PiecesIs wP v (piecesL enc b.data.toList)) (g0 : Nat) (I : Nat → World → Prop)
    (hI : ∀ k wr w', I k wr → Below wr.heap.size wr w' → I k w')
    (hC : ∀ k wr, k < b.size → I k wr → wP.heap.size ≤ wr.heap.size → Calls Tryz.prog 56 #[.pointer (some ⟨g0, 0, none⟩), pieceV4 enc b k] wr fun e w' => e = .returned (.tuple #[]) ∧ I (k + (pieceL enc (b.data.toList.drop k)).2) w' ∧ Below wP.heap.size wr w')
    (w : World) (hw : Below wP.heap.size wP w) (hi : I 0 w) :
    Calls Tryz.prog 52 #[v, .string b, .func (.func 56) #[.pointer (some ⟨g0, 0, none⟩)] #[]] w fun e w' => e = .returned (.tuple #[]) ∧ I b.size w' ∧ Below wP.heap.size wP w' := by
  have hsz : b.data.toList.length = b.size := by simp
  have HZ := Lib.hid hsz
  have HV := Lib.hid hv
  have HII := Lib.hid hI
  have HCC := Lib.hid hC
  have HI0 := Lib.hid hi
  obtain ⟨a, cap, hva⟩ := hv.len
  obtain ⟨n, hn⟩ : ∃ n, (piecesL enc b.data.toList).length = n := ⟨_, rfl⟩
  rw [hn] at hva
  have HN := Lib.hid hn
  subst hva
  clear hsz hv hI hC hi hn
  go_enter Tryz.func52, Tryz.ntmps52
  go_wp2
  go_loopg [6, 12] n (fun gk av iv wr => ∃ j k : Nat, j + gk = n ∧ av = .int .i64 k ∧ iv = .int .i64 j ∧ k ≤ b.size ∧ j ≤ k ∧ (piecesL enc b.data.toList).drop j = piecesL enc (b.data.toList.drop k) ∧ I k wr ∧ Below wP.heap.size wP wr)
  case atStart => exact ⟨0, 0, by omega, rfl, rfl, by omega, by omega, by simp, HI0.out, hw⟩
  case round =>
    obtain ⟨j, k, hjg, rfl, rfl, hk, hjk, hdr, hik, hbel⟩ := hrel
    have HD := Lib.hid hdr
    have HK := Lib.hid hik
    clear hdr hik
    by_cases hlt : j < n
    · have hltz : (j : Int) < (n : Int) := by omega
      have hjl : j < (piecesL enc b.data.toList).length := by rw [HN.out]; exact hlt
      have hne : b.data.toList.drop k ≠ [] := by
        intro h
        have h1 := HD.out
        rw [h, piecesL_nil] at h1
        have := congrArg List.length h1
        rw [List.length_drop, HN.out, List.length_nil] at this
        omega
      have hkl : k < b.size := by
        have := List.length_pos_iff.2 hne
        rw [List.length_drop, HZ.out] at this
        omega
      have hst := HD.out
      rw [piecesL_step h0 hne, List.drop_eq_getElem_cons hjl] at hst
      have hhead : (piecesL enc b.data.toList)[j] = pieceL enc (b.data.toList.drop k) := (List.cons.inj hst).1
      have htail := (List.cons.inj hst).2
      rw [List.drop_drop] at htail
      have hrg := pieceL_range h0 hne
      rw [List.length_drop, HZ.out] at hrg
      have hcell : ∃ g, a = some ⟨g, 0, none⟩ ∧ g < wP.heap.size ∧ wP.cell? ⟨g, j * 2, none⟩ = some (.int .i32 (pieceL enc (b.data.toList.drop k)).1) ∧ wP.cell? ⟨g, j * 2 + 1, none⟩ = some (.int .i64 (pieceL enc (b.data.toList.drop k)).2) := by
        rcases HV.out with ⟨h1, _⟩ | ⟨g, cap', hg, hv', hc⟩
        · rw [h1] at hjl; exact absurd hjl (by simp)
        · have := hc j hjl
          rw [hhead] at this
          refine ⟨g, ?_, hg, this⟩
          injection hv'
      obtain ⟨g, rfl, hg, c0, c1⟩ := hcell
      have hC1 := HCC.out k
      unfold pieceV4 at hC1
      generalize hRR : (pieceL enc (b.data.toList.drop k)).1 = R at *
      generalize hKK : (pieceL enc (b.data.toList.drop k)).2 = K at *
      have hKb : 1 ≤ K ∧ k + K ≤ b.size := by omega
      have d0 : wr.cell? ⟨g, j * 2, none⟩ = some (.int .i32 R) := by rw [hbel.cell (p := ⟨g, j * 2, none⟩) hg]; exact c0
      have d1 : wr.cell? ⟨g, j * 2 + 1, none⟩ = some (.int .i64 (K : Int)) := by rw [hbel.cell (p := ⟨g, j * 2 + 1, none⟩) hg]; exact c1
      have hw0 : IntKind.i64.wrap ((k : Int) + (K : Int)) = (k : Int) + (K : Int) := by rw [IntKind.wrap_i64]; omega
      have z0 : (0 : Int) ≤ (k : Int) := by omega
      have z1 : (0 : Int) ≤ (k : Int) + (K : Int) := by omega
      have z2 : (k : Int) ≤ (k : Int) + (K : Int) := by omega
      have z3 : (k : Int) + (K : Int) ≤ (b.size : Int) := by omega
      have z4 : ((k : Int) + (K : Int)).toNat = k + K := by omega
      have z5 : ((k : Int)).toNat = k := by omega
      have HT := Lib.hid htail
      have hbs := hbel.size
      have hI1 : I k ((wr.alloc (.cells #[.int .i32 R, .int .i64 (K : Int)] 155)).drew) := HII.out k wr _ HK.out (((Below.refl _ _).alloc (Nat.le_refl _) _).drew)
      have cK := hC1 _ hkl hI1 (by show wP.heap.size ≤ (wr.heap.push _).size; simp; omega)
      have HB1 : Hid (Below wP.heap.size wP ((wr.alloc (.cells #[.int .i32 R, .int .i64 (K : Int)] 155)).drew)) := Lib.hid ((hbel.alloc hbs _).drew)
      clear hst hhead htail hrg c0 c1 hC1 hRR hKK hne hjl hI1
      go_wp2_with fail
      go_region_with (first | (go_at_call 56; refine cK.mono ?_; rintro e w2 ⟨rfl, hi2, hb2⟩; have HI2 := Lib.hid hi2; clear hi2))
      go_wp2
      go_roundg (n - (j + 1))
      case measure => omega
      case rel => exact ⟨j + 1, k + K, by omega, by first | rfl | go_num, by first | rfl | go_num, by omega, by omega, HT.out, HI2.out, HB1.out.trans hb2⟩
    · have hje : j = n := by omega
      have hke : k = b.size := by
        have h1 := HD.out
        rw [List.drop_eq_nil_of_le (by rw [HN.out]; omega)] at h1
        by_cases hne : b.data.toList.drop k = []
        · have := congrArg List.length hne
          rw [List.length_drop, HZ.out, List.length_nil] at this
          omega
        · rw [piecesL_step h0 hne] at h1
          cases h1
      have hge : ¬ ((j : Int) < (n : Int)) := by omega
      have HKE : Hid (I b.size wr) := Lib.hid (by rw [← hke]; exact HK.out)
      clear hje hlt hjg hke
      go_wp2
      go_end0
      exact ⟨rfl, HKE.out, hbel⟩
end Go.Proofs.YtfioknaadbgjlaaGreatDoor.F
namespace Go.Proofs.YtfioknaadbgjlaaGreatDoor.F
open Go.RowKit Go.Sort
/-- A writer that was just made. -/
theorem ws_fresh (w : World) : WS w.heap.size w.heap.size [] [] (w.alloc (.cells #[.pointer none, .slice none 0 0, .slice none 0 0] 115)) :=
  ⟨.slice none 0 0, Or.inl ⟨Nat.le_refl _, .slice none 0 0, heap_alloc_new w _, World.ownsRow_nil _ _ _ _, by simp [Value.ownBlock]⟩, OwnI.nil _ _⟩
theorem last_same {b : ByteArray} {k K : Nat} (hk : k + K ≤ b.size) : decide ((k : Int) + (K : Int) = (b.size : Int)) = decide ((b.data.toList.drop k).length = K) := by
  rw [decide_eq_decide, List.length_drop, len_list]; omega
theorem ext_size {b : ByteArray} {k K : Nat} (hk : k + K ≤ b.size) : (b.extract k (k + K)).size = K := by
  rw [← len_list, ext_list, List.length_take, List.length_drop, len_list]; omega
theorem drop_ne {b : ByteArray} {k : Nat} (hk : k < b.size) : b.data.toList.drop k ≠ [] := by
  intro h
  have := congrArg List.length h
  rw [List.length_drop, List.length_nil, len_list] at this
  omega
theorem drop_all (b : ByteArray) : b.data.toList.drop b.size = [] := List.drop_eq_nil_of_le (by rw [len_list]; exact Nat.le_refl _)
theorem bs_list (r : Int) : (bsOf r).data.toList = if isR r = true then Lib.encodeRune r else [] := bsOf_list r
/-- What has been written, characters not put together. -/
def IPlain (B b0 : Nat) (enc : Int) (good : Bool) (b : ByteArray) (total : List UInt8) (k : Nat) (w : World) : Prop :=
  ∃ (done : List UInt8) (op : List Int), WS B b0 (done ++ joinL op) [] w ∧ B ≤ w.heap.size ∧ done ++ presN enc good (b.data.toList.drop k) op = total ∧ (done ++ joinL op).length ≤ 4 * k
theorem IPlain.step {B b0 : Nat} {enc : Int} (h0 : 0 ≤ enc) {good : Bool} (hg : enc ≠ 8 ∨ good = false) {b : ByteArray} {total : List UInt8} {k : Nat} (hk : k < b.size) {w' : World} {done : List UInt8} {op : List Int}
    (hB : B ≤ w'.heap.size) (ht : done ++ presN enc good (b.data.toList.drop k) op = total) (hl : (done ++ joinL op).length ≤ 4 * k) {H : Bool}
    (hH : ∀ last, last = decide ((b.data.toList.drop k).length = (pieceL enc (b.data.toList.drop k)).2) → hideB (decide (enc = 8)) good last (decide (op = [])) (pieceL enc (b.data.toList.drop k)).1 = H)
    (h' : WS B b0 (done ++ joinL op ++ (if H = true then escL ((b.data.toList.drop k).take (pieceL enc (b.data.toList.drop k)).2) else (bsOf (pieceL enc (b.data.toList.drop k)).1).data.toList)) [] w') :
    IPlain B b0 enc good b total (k + (pieceL enc (b.data.toList.drop k)).2) w' := by
  have hne := drop_ne hk
  have hst := presN_step h0 good hne op
  rw [hH _ rfl] at hst
  have hr := pieceL_range h0 hne
  rw [List.length_drop, len_list] at hr
  have hj : ∀ l, joinT (decide (enc = 8)) good l = l := fun l => by
    unfold joinT
    rw [if_neg]
    rcases hg with h | h
    · rw [decide_eq_false h, Bool.false_and]; exact Bool.false_ne_true
    · rw [h, Bool.and_false]; exact Bool.false_ne_true
  rw [List.drop_drop] at hst
  cases H with
  | true =>
    rw [if_pos rfl, hj] at hst
    rw [if_pos rfl] at h'
    refine ⟨done ++ joinL op ++ escL ((b.data.toList.drop k).take (pieceL enc (b.data.toList.drop k)).2), [], by simpa [joinL] using h', hB, ?_, ?_⟩
    · rw [← ht, hst, escs_same]; simp
    · rw [show joinL [] = [] from rfl, List.append_nil, List.length_append, escL_length, List.length_take, List.length_drop, len_list]
      omega
  | false =>
    rw [if_neg (by decide)] at hst h'
    refine ⟨done, op ++ [(pieceL enc (b.data.toList.drop k)).1], ?_, hB, ?_, ?_⟩
    · rw [joinL_snoc, ← bs_list, ← List.append_assoc]; exact h'
    · rw [← ht, hst]
    · have h9 := bsOf_size (pieceL enc (b.data.toList.drop k)).1
      have h10 := len_list (bsOf (pieceL enc (b.data.toList.drop k)).1)
      rw [joinL_snoc, ← bs_list, ← List.append_assoc, List.length_append, h10]
      omega
set_option maxHeartbeats 1000000 in
/-- On a disk that isn't HFS's. -/
theorem each_plain (enc : Int) (h0 : 0 ≤ enc) (h7 : enc ≤ 7) (b : ByteArray) (hs : b.size ≤ 300) (v : Value) (wP : World) (hv : PiecesIs wP v (piecesL enc b.data.toList)) (total : List UInt8) (ht : presN enc true b.data.toList [] = total) :
    Calls Tryz.prog 52 #[v, .string b, .func (.func 53) #[.pointer (some ⟨wP.heap.size, 0, none⟩)] #[]] (wP.alloc (.cells #[.pointer none, .slice none 0 0, .slice none 0 0] 115)) fun e w' =>
      e = .returned (.tuple #[]) ∧ IPlain wP.heap.size wP.heap.size enc true b total b.size w' ∧ Below wP.heap.size wP w' := by
  refine each_take enc h0 b (by omega) v wP hv wP.heap.size (IPlain wP.heap.size wP.heap.size enc true b total) ?_ ?_ _ ((Below.refl _ _).alloc (Nat.le_refl _) _) ?_
  · rintro k wr w' ⟨done, op, h1, h2, h3, h4⟩ hb
    exact ⟨done, op, h1.below hb, by have := hb.size; omega, h3, h4⟩
  · rintro k wr hk ⟨done, op, h1, h2, h3, h4⟩ hB
    have hne := drop_ne hk
    have hr := pieceL_range h0 hne
    rw [List.length_drop, len_list] at hr
    have hes := ext_size (b := b) (k := k) (K := (pieceL enc (b.data.toList.drop k)).2) (by omega)
    refine (take_c _ _ _ _ _ _ _ wr h1 (by rw [hes]; omega) (by omega) hB).mono ?_
    rintro e w' ⟨rfl, h5, h6⟩
    refine ⟨rfl, ?_, h6⟩
    rw [ext_list, last_same (by omega)] at h5
    refine IPlain.step h0 (Or.inl (by omega)) hk (H := hidI _ _) (by have := h6.size; omega) h3 h4 ?_ h5
    intro last hl
    rw [decide_eq_false (by omega : ¬ enc = 8), hide_plain, hl]
  · exact ⟨[], [], ws_fresh wP, by simp, by rw [List.drop_zero]; exact ht, by simp [joinL]⟩
set_option maxHeartbeats 1000000 in
/-- An irregular name of HFS. -/
theorem each_bad (b : ByteArray) (hs : b.size ≤ 300) (v : Value) (wP : World) (hv : PiecesIs wP v (piecesL 8 b.data.toList)) (w : World) (hw : Below wP.heap.size wP w) (hws : WS wP.heap.size wP.heap.size [] [] w) (total : List UInt8) (ht : presN 8 false b.data.toList [] = total) :
    Calls Tryz.prog 52 #[v, .string b, .func (.func 56) #[.pointer (some ⟨wP.heap.size, 0, none⟩)] #[]] w fun e w' =>
      e = .returned (.tuple #[]) ∧ IPlain wP.heap.size wP.heap.size 8 false b total b.size w' ∧ Below wP.heap.size wP w' := by
  have h0 : (0 : Int) ≤ 8 := by decide
  refine each_irr 8 h0 b (by omega) v wP hv wP.heap.size (IPlain wP.heap.size wP.heap.size 8 false b total) ?_ ?_ w hw ?_
  · rintro k wr w' ⟨done, op, h1, h2, h3, h4⟩ hb
    exact ⟨done, op, h1.below hb, by have := hb.size; omega, h3, h4⟩
  · rintro k wr hk ⟨done, op, h1, h2, h3, h4⟩ hB
    have hne := drop_ne hk
    have hr := pieceL_range h0 hne
    rw [List.length_drop, len_list] at hr
    have hes := ext_size (b := b) (k := k) (K := (pieceL 8 (b.data.toList.drop k)).2) (by omega)
    refine (takeIrr_c _ _ _ _ _ _ _ wr h1 (by rw [hes]; omega) (by rw [hes]; omega) (by omega) hB).mono ?_
    rintro e w' ⟨rfl, h5, h6⟩
    refine ⟨rfl, ?_, h6⟩
    have hbt : Go.PlainAid.bt (b.extract k (k + (pieceL 8 (b.data.toList.drop k)).2)) 0 = Go.PlainAid.bt b k := by
      have g1 := (bt_list (b := b.extract k (k + (pieceL 8 (b.data.toList.drop k)).2)) (k := 0) (by omega))
      have g2 := bt_list hk
      rw [g1.2, g2.2]
      have g3 := g1.1
      rw [ext_list, List.getElem?_take, if_pos (by omega), List.getElem?_drop, Nat.add_zero, g2.1] at g3
      rw [Option.some.inj g3]
    rw [ext_list, last_same (by omega), hbt] at h5
    obtain ⟨H, hH⟩ : ∃ H : Bool, hideB true false (decide ((b.data.toList.drop k).length = (pieceL 8 (b.data.toList.drop k)).2)) (decide (op = [])) (pieceL 8 (b.data.toList.drop k)).1 = H := ⟨_, rfl⟩
    have hiff := hide_irr hk (decide ((b.data.toList.drop k).length = (pieceL 8 (b.data.toList.drop k)).2)) (decide (op = []))
    rw [hH] at hiff
    refine IPlain.step h0 (Or.inr rfl) hk (H := H) (by have := h6.size; omega) h3 h4 (fun last hl => by rw [hl]; exact hH) ?_
    simp only [hiff]
    exact h5
  · exact ⟨[], [], hws, hw.size, by rw [List.drop_zero]; exact ht, by simp [joinL]⟩
/-- What has been written of a regular name of HFS, and what waits. -/
def IReg (B b0 : Nat) (b : ByteArray) (total : List UInt8) (k : Nat) (w : World) : Prop :=
  ∃ (text : List UInt8) (wait : List Int), WS B b0 text wait w ∧ B ≤ w.heap.size ∧ text ++ presN 8 true (b.data.toList.drop k) wait = total ∧ text.length + 4 * wait.length ≤ 4 * k
set_option maxHeartbeats 1000000 in
theorem each_good (b : ByteArray) (hs : b.size ≤ 300) (v : Value) (wP : World) (hv : PiecesIs wP v (piecesL 8 b.data.toList)) (w : World) (hw : Below wP.heap.size wP w) (hws : WS wP.heap.size wP.heap.size [] [] w) (total : List UInt8) (ht : presN 8 true b.data.toList [] = total) :
    Calls Tryz.prog 52 #[v, .string b, .func (.func 55) #[.pointer (some ⟨wP.heap.size, 0, none⟩)] #[]] w fun e w' =>
      e = .returned (.tuple #[]) ∧ IReg wP.heap.size wP.heap.size b total b.size w' ∧ Below wP.heap.size wP w' := by
  have h0 : (0 : Int) ≤ 8 := by decide
  refine each_reg 8 h0 b (by omega) v wP hv wP.heap.size (IReg wP.heap.size wP.heap.size b total) ?_ ?_ w hw ?_
  · rintro k wr w' ⟨text, wait, h1, h2, h3, h4⟩ hb
    exact ⟨text, wait, h1.below hb, by have := hb.size; omega, h3, h4⟩
  · rintro k wr hk ⟨text, wait, h1, h2, h3, h4⟩ hB
    have hne := drop_ne hk
    have hr := pieceL_range h0 hne
    rw [List.length_drop, len_list] at hr
    have hes := ext_size (b := b) (k := k) (K := (pieceL 8 (b.data.toList.drop k)).2) (by omega)
    refine (takeReg_c _ _ _ _ _ _ _ wr h1 (by rw [hes]; omega) (by omega) (by omega) hB).mono ?_
    rintro e w' ⟨rfl, h5, h6⟩
    refine ⟨rfl, ?_, h6⟩
    rw [ext_list, last_same (by omega), ← hide_reg] at h5
    have hst := presN_step h0 true hne wait
    rw [List.drop_drop] at hst
    have hlast : decide ((8 : Int) = 8) = true := rfl
    rw [hlast] at hst
    have hsz := h6.size
    split at h5
    · rename_i hh
      rw [if_pos hh] at hst
      refine ⟨_, [], h5, by omega, ?_, ?_⟩
      · rw [← h3, hst, escs_same]
        simp only [List.append_assoc]
        rfl
      · have hj := joinT_len true true wait
        have e9 : joinT true true wait = togI wait := rfl
        rw [e9] at hj
        simp only [List.length_append, escL_length, List.length_take, List.length_drop, len_list, List.length_nil]
        omega
    · rename_i hh
      rw [if_neg hh] at hst
      refine ⟨text, wait ++ [_], h5, by omega, by rw [← h3, hst], ?_⟩
      simp only [List.length_append, List.length_cons, List.length_nil]
      omega
  · exact ⟨[], [], hws, hw.size, by rw [List.drop_zero]; exact ht, by simp⟩
end Go.Proofs.YtfioknaadbgjlaaGreatDoor.F
namespace Go.Proofs.YtfioknaadbgjlaaGreatDoor.F
open Go.RowKit Go.Sort
theorem pieces_len (enc : Int) (h0 : 0 ≤ enc) : ∀ (n : Nat) (l : List UInt8), l.length ≤ n → (piecesL enc l).length ≤ l.length
  | 0, l, h => by
    have : l = [] := List.eq_nil_of_length_eq_zero (by omega)
    subst this
    rw [piecesL_nil]; simp
  | n + 1, l, h => by
    by_cases hne : l = []
    · subst hne; rw [piecesL_nil]; simp
    · have hl : 0 < l.length := List.length_pos_iff.2 hne
      have hr := pieceL_range h0 hne
      have ih := pieces_len enc h0 n (l.drop (pieceL enc l).2) (by rw [List.length_drop]; omega)
      rw [List.length_drop] at ih
      rw [piecesL_step h0 hne, List.length_cons]
      omega
theorem IPlain.done {B b0 : Nat} {enc : Int} {good : Bool} (hg : enc ≠ 8 ∨ good = false) {b : ByteArray} {total : List UInt8} {w : World} (h : IPlain B b0 enc good b total b.size w) : ∃ text, WS B b0 text [] w ∧ text = total ∧ B ≤ w.heap.size ∧ text.length ≤ 4 * b.size := by
  obtain ⟨done, op, h1, h2, h3, h4⟩ := h
  refine ⟨_, h1, ?_, h2, h4⟩
  rw [drop_all, presN_nil] at h3
  rw [← h3]
  congr 1
  unfold joinT
  rw [if_neg]
  rcases hg with h | h
  · rw [decide_eq_false h, Bool.false_and]; exact Bool.false_ne_true
  · rw [h, Bool.and_false]; exact Bool.false_ne_true
theorem IReg.done {B b0 : Nat} {b : ByteArray} {total : List UInt8} {w : World} (h : IReg B b0 b total b.size w) : ∃ text wait, WS B b0 text wait w ∧ text ++ joinL (togI wait) = total ∧ B ≤ w.heap.size ∧ text.length + 4 * wait.length ≤ 4 * b.size := by
  obtain ⟨text, wait, h1, h2, h3, h4⟩ := h
  refine ⟨text, wait, h1, ?_, h2, h4⟩
  rw [drop_all, presN_nil] at h3
  exact h3
abbrev freshW (w : World) : World := w.alloc (.cells #[.pointer none, .slice none 0 0, .slice none 0 0] 115)
set_option maxHeartbeats 2000000 in
set_option maxRecDepth 100000 in
theorem present_plain (enc : Int) (h0 : 0 ≤ enc) (h7 : enc ≤ 7) (b : ByteArray) (hs : b.size ≤ 300) (w : World) (hT : Tabs w) :
    Calls Tryz.prog 30 #[.int .i64 enc, .string b] w fun e w' => e = .returned (.string ⟨(presL enc b.data.toList).toArray⟩) ∧ Below w.heap.size w w' := by
  have cP := pieces_in enc h0 (by omega) b (by omega) w hT
  unfold PiecesPost at cP
  have HE : Hid (∀ v wP, PiecesIs wP v (piecesL enc b.data.toList) → _) := Lib.hid (fun v wP hv => each_plain enc h0 h7 b hs v wP hv (presL enc b.data.toList) (by rw [presL_N, decide_eq_true (by omega : enc ≠ 8)]; rfl))
  have he8 : (enc != 8) = true := by rw [bne_iff_ne]; omega
  have HD : Hid (enc ≠ 8) := Lib.hid (by omega)
  clear hT h0 h7
  go_enter Tryz.func30, Tryz.ntmps30
  go_wp2_with fail
  refine cP.mono ?_
  rintro e wP ⟨v, rfl, hv, hbP⟩
  have cE := HE.out v wP hv
  go_wp2_with (first | (go_at_call 52; refine cE.mono ?_; rintro e w2 ⟨rfl, hi, hb2⟩))
  obtain ⟨text, hws, htx, hB, hl⟩ := IPlain.done (Or.inl HD.out) hi
  have cN := end_c _ _ text [] w2 hws (by simp) (by omega) hB
  rw [show text ++ joinL (togI []) = text by rw [show togI [] = [] from rfl]; simp [joinL], htx] at cN
  go_wp2_with fail
  refine cN.mono ?_
  rintro e w3 ⟨rfl, hb3⟩
  go_wp2
  go_ret
  exact ⟨rfl, hbP.trans ((hb2.trans hb3).mono hbP.size)⟩
set_option maxHeartbeats 2000000 in
set_option maxRecDepth 100000 in
theorem present_hfs (b : ByteArray) (hs : b.size ≤ 300) (w : World) (hT : Tabs w) :
    Calls Tryz.prog 30 #[.int .i64 8, .string b] w fun e w' => e = .returned (.string ⟨(presL 8 b.data.toList).toArray⟩) ∧ Below w.heap.size w w' := by
  have cP := pieces_in 8 (by decide) (by decide) b (by omega) w hT
  unfold PiecesPost at cP
  have hpl := pieces_len 8 (by decide) _ b.data.toList (Nat.le_refl _)
  have hsz := len_list b
  have HR : Hid (∀ v w', PiecesIs w' v (piecesL 8 b.data.toList) → Calls Tryz.prog 54 #[v] w' fun e w'' => e = .returned (.bool (regL b.data.toList)) ∧ Below w'.heap.size w' w'') := Lib.hid (fun v w' hv => by
    have := regular4_c _ v w' hv (by omega)
    unfold ReguPost at this
    rw [regP_regL] at this
    exact this)
  cases hg : regL b.data.toList with
  | true =>
    have HE : Hid (∀ v wP w2, PiecesIs wP v (piecesL 8 b.data.toList) → Below wP.heap.size wP w2 → WS wP.heap.size wP.heap.size [] [] w2 → _) := Lib.hid (fun v wP w2 hv hw2 hws => each_good b hs v wP hv w2 hw2 hws (presL 8 b.data.toList) (by rw [presL_N, hg]; rfl))
    rw [hg] at HR
    clear hT hg hpl hsz
    go_enter Tryz.func30, Tryz.ntmps30
    go_wp2_with fail
    refine cP.mono ?_
    rintro e wP ⟨v, rfl, hv, hbP⟩
    have HF : Hid (∀ w2, Below (freshW wP).heap.size (freshW wP) w2 → Below wP.heap.size wP w2 ∧ WS wP.heap.size wP.heap.size [] [] w2) := Lib.hid (fun w2 hb => by
      have h1 : Below wP.heap.size wP (freshW wP) := (Below.refl _ _).alloc (Nat.le_refl _) _
      exact ⟨h1.trans (hb.mono h1.size), (ws_fresh wP).below hb⟩)
    have cR := HR.out v (freshW wP) (hv.kept ((Below.refl _ _).alloc (Nat.le_refl _) _))
    go_wp2_with (first | (go_at_call 54; refine cR.mono ?_; rintro e w1 ⟨rfl, hb1⟩; have cE := HE.out v wP w1 hv (HF.out w1 hb1).1 (HF.out w1 hb1).2) | (go_at_call 52; refine cE.mono ?_; rintro e w2 ⟨rfl, hi, hb2⟩))
    obtain ⟨text, wait, hws, htx, hB, hl⟩ := IReg.done hi
    have cN := end_c _ _ text wait w2 hws (by omega) (by omega) hB
    rw [htx] at cN
    go_wp2_with fail
    refine cN.mono ?_
    rintro e w3 ⟨rfl, hb3⟩
    go_wp2
    go_ret
    exact ⟨rfl, hbP.trans ((hb2.trans hb3).mono hbP.size)⟩
  | false =>
    have HE : Hid (∀ v wP w2, PiecesIs wP v (piecesL 8 b.data.toList) → Below wP.heap.size wP w2 → WS wP.heap.size wP.heap.size [] [] w2 → _) := Lib.hid (fun v wP w2 hv hw2 hws => each_bad b hs v wP hv w2 hw2 hws (presL 8 b.data.toList) (by rw [presL_N, hg]; rfl))
    rw [hg] at HR
    clear hT hg hpl hsz
    go_enter Tryz.func30, Tryz.ntmps30
    go_wp2_with fail
    refine cP.mono ?_
    rintro e wP ⟨v, rfl, hv, hbP⟩
    have HF : Hid (∀ w2, Below (freshW wP).heap.size (freshW wP) w2 → Below wP.heap.size wP w2 ∧ WS wP.heap.size wP.heap.size [] [] w2) := Lib.hid (fun w2 hb => by
      have h1 : Below wP.heap.size wP (freshW wP) := (Below.refl _ _).alloc (Nat.le_refl _) _
      exact ⟨h1.trans (hb.mono h1.size), (ws_fresh wP).below hb⟩)
    have cR := HR.out v (freshW wP) (hv.kept ((Below.refl _ _).alloc (Nat.le_refl _) _))
    go_wp2_with (first | (go_at_call 54; refine cR.mono ?_; rintro e w1 ⟨rfl, hb1⟩; have cE := HE.out v wP w1 hv (HF.out w1 hb1).1 (HF.out w1 hb1).2) | (go_at_call 52; refine cE.mono ?_; rintro e w2 ⟨rfl, hi, hb2⟩))
    obtain ⟨text, hws, htx, hB, hl⟩ := IPlain.done (Or.inr rfl) hi
    have cN := end_c _ _ text [] w2 hws (by simp) (by omega) hB
    rw [show text ++ joinL (togI []) = text by rw [show togI [] = [] from rfl]; simp [joinL], htx] at cN
    go_wp2_with fail
    refine cN.mono ?_
    rintro e w3 ⟨rfl, hb3⟩
    go_wp2
    go_ret
    exact ⟨rfl, hbP.trans ((hb2.trans hb3).mono hbP.size)⟩
theorem present_c (enc : Int) (h0 : 0 ≤ enc) (h8 : enc ≤ 8) (b : ByteArray) (hs : b.size ≤ 300) (w : World) (hT : Tabs w) :
    Calls Tryz.prog 30 #[.int .i64 enc, .string b] w fun e w' => e = .returned (.string ⟨(presL enc b.data.toList).toArray⟩) ∧ Below w.heap.size w w' := by
  by_cases h7 : enc ≤ 7
  · exact present_plain enc h0 h7 b hs w hT
  · have e : enc = 8 := by omega
    subst e
    exact present_hfs b hs w hT
end Go.Proofs.YtfioknaadbgjlaaGreatDoor.F
