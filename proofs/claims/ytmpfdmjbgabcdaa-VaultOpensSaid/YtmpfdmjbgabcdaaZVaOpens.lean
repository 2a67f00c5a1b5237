/-
  The law VaultOpens.
-/
import Derived.Test.YtmpfdmjbgabcdaaZVaOpKit
namespace Go.Proofs.Ytmpfdmjbgabcdaa
open Go.RowKit Go.Sort
set_option linter.unusedVariables false

set_option maxHeartbeats 32000000 in
set_option maxRecDepth 100000 in
theorem opens_walk (v : Value) (l : List ByteArray) (e0 e1 : Int) (he0 : 0 ≤ e0 ∧ e0 ≤ 18446744073709551615) (he1 : 0 ≤ e1 ∧ e1 ≤ 18446744073709551615) (u0 u1 : Value) (R0 R1 : List ByteArray) (w : World) (hv : StrsIs w v l) (hl : l.length ≤ 9223372036854775807) (hls : ∀ s ∈ l, s.size ≤ 9223372036854775807)
    (h0 : StrsIs w u0 R0) (hl0 : R0.length ≤ 9223372036854775807) (hs0 : ∀ s ∈ R0, s.size ≤ 9223372036854775807) (h1 : StrsIs w u1 R1) (hl1 : R1.length ≤ 9223372036854775807) (hs1 : ∀ s ∈ R1, s.size ≤ 9223372036854775807) :
    Calls Try.prog 6 #[v, .agg #[.int .u64 e0, .int .u64 e1], .agg #[u0, u1]] w fun e w' => e = .returned (.bool true) ∧ Below w.heap.size w w' := by
  obtain ⟨av, cv, rfl⟩ := hv.len
  obtain ⟨a0, k0, rfl⟩ := h0.len
  obtain ⟨a1, k1, rfl⟩ := h1.len
  obtain ⟨L, hL⟩ : ∃ L, l.length = L := ⟨_, rfl⟩
  obtain ⟨L0, hL0⟩ : ∃ L0, R0.length = L0 := ⟨_, rfl⟩
  obtain ⟨L1, hL1⟩ : ∃ L1, R1.length = L1 := ⟨_, rfl⟩
  rw [hL] at hv ⊢
  rw [hL0] at h0 ⊢
  rw [hL1] at h1 ⊢
  have HV := Lib.hid hv
  have H0 := Lib.hid h0
  have H1 := Lib.hid h1
  have HL := Lib.hid hL
  have HL0 := Lib.hid hL0
  have HL1 := Lib.hid hL1
  have HSZ := Lib.hid hls
  have HS0 := Lib.hid hs0
  have HS1 := Lib.hid hs1
  have HE := Lib.hid (And.intro he0 he1)
  rw [hL] at hl
  rw [hL0] at hl0
  rw [hL1] at hl1
  clear hv h0 h1 hL hL0 hL1 hls hs0 hs1 he0 he1
  obtain ⟨W0, hW0⟩ : ∃ W0, (w.alloc (.cells #[.int .u64 e0, .int .u64 e1] 51)).alloc (.cells #[.slice a0 L0 k0, .slice a1 L1 k1] 52) = W0 := ⟨_, rfl⟩
  have HB0 : Hid (Below w.heap.size w W0) := Lib.hid (by rw [← hW0]; exact ((Below.refl _ _).alloc (Nat.le_refl _) _).alloc (by simp) _)
  have HH4 : Hid (W0.heap[w.heap.size]? = some (.cells #[.int .u64 e0, .int .u64 e1] 51 (0, 0))) := Lib.hid (by rw [← hW0, Below.heap_alloc _ _ _ (by simp)]; exact heap_alloc_new _ _)
  have HH5 : Hid (W0.heap[w.heap.size + 1]? = some (.cells #[.slice a0 L0 k0, .slice a1 L1 k1] 52 (0, 0))) := Lib.hid (by rw [← hW0]; exact heap_alloc2_new _ _ _)
  have H5C : Hid (∀ W : World, W.heap[w.heap.size + 1]? = some (.cells #[.slice a0 L0 k0, .slice a1 L1 k1] 52 (0, 0)) → W.cell? ⟨w.heap.size + 1, 0, none⟩ = some (.slice a0 L0 k0) ∧ W.cell? ⟨w.heap.size + 1, 1, none⟩ = some (.slice a1 L1 k1)) := Lib.hid (fun W h => ⟨by rw [cell_of_row _ _ _ _ _ _ h]; rfl, by rw [cell_of_row _ _ _ _ _ _ h]; rfl⟩)
  have cA := awake8_c W0
  by_cases hb : 40 < L
  · have hbz : (40 : Int) < (L : Int) := by omega
    go_enter Try.func6, Try.ntmps6
    go_wp2_with fail
    try rw [hW0]
    clear hW0
    refine cA.mono ?_
    rintro e w1 ⟨rfl, hb1⟩
    have HB1 : Hid (Below w.heap.size w w1) := Lib.hid (HB0.out.trans (hb1.mono HB0.out.size))
    have HR4 : Hid (w1.heap[w.heap.size]? = some (.cells #[.int .u64 e0, .int .u64 e1] 51 (0, 0))) := Lib.hid (by rw [hb1.block _ (lt_of_get HH4.out)]; exact HH4.out)
    have HR5 : Hid (w1.heap[w.heap.size + 1]? = some (.cells #[.slice a0 L0 k0, .slice a1 L1 k1] 52 (0, 0))) := Lib.hid (by rw [hb1.block _ (lt_of_get HH5.out)]; exact HH5.out)
    obtain ⟨r0, r1⟩ := H5C.out w1 HR5.out
    clear cA hb1 HH4 HH5
    have cA2 := awake8_c w1
    go_wp2_with fail
    refine cA2.mono ?_
    rintro e w3 ⟨rfl, hb3⟩
    have HB3 := Lib.hid (HB1.out.trans (hb3.mono HB1.out.size))
    clear cA2 hb3
    go_wp2
    go_ret
    exact ⟨rfl, HB3.out⟩
  · have hbz : ¬ (40 : Int) < (L : Int) := by omega
    have hbd : decide ((40 : Int) < (L : Int)) = false := decide_eq_false hbz
    by_cases hc : 5 < L0
    · have hcz : (5 : Int) < (L0 : Int) := by omega
      go_enter Try.func6, Try.ntmps6
      go_wp2_with fail
      try rw [hW0]
      clear hW0
      refine cA.mono ?_
      rintro e w1 ⟨rfl, hb1⟩
      have HB1 : Hid (Below w.heap.size w w1) := Lib.hid (HB0.out.trans (hb1.mono HB0.out.size))
      have HR4 : Hid (w1.heap[w.heap.size]? = some (.cells #[.int .u64 e0, .int .u64 e1] 51 (0, 0))) := Lib.hid (by rw [hb1.block _ (lt_of_get HH4.out)]; exact HH4.out)
      have HR5 : Hid (w1.heap[w.heap.size + 1]? = some (.cells #[.slice a0 L0 k0, .slice a1 L1 k1] 52 (0, 0))) := Lib.hid (by rw [hb1.block _ (lt_of_get HH5.out)]; exact HH5.out)
      obtain ⟨r0, r1⟩ := H5C.out w1 HR5.out
      clear cA hb1 HH4 HH5
      have cA2 := awake8_c w1
      go_wp2_with fail
      refine cA2.mono ?_
      rintro e w3 ⟨rfl, hb3⟩
      have HB3 := Lib.hid (HB1.out.trans (hb3.mono HB1.out.size))
      clear cA2 hb3
      go_wp2
      go_ret
      exact ⟨rfl, HB3.out⟩
    · have hcz : ¬ (5 : Int) < (L0 : Int) := by omega
      have hcd : decide ((5 : Int) < (L0 : Int)) = false := decide_eq_false hcz
      by_cases hd : 5 < L1
      · have hdz : (5 : Int) < (L1 : Int) := by omega
        go_enter Try.func6, Try.ntmps6
        go_wp2_with fail
        try rw [hW0]
        clear hW0
        refine cA.mono ?_
        rintro e w1 ⟨rfl, hb1⟩
        have HB1 : Hid (Below w.heap.size w w1) := Lib.hid (HB0.out.trans (hb1.mono HB0.out.size))
        have HR4 : Hid (w1.heap[w.heap.size]? = some (.cells #[.int .u64 e0, .int .u64 e1] 51 (0, 0))) := Lib.hid (by rw [hb1.block _ (lt_of_get HH4.out)]; exact HH4.out)
        have HR5 : Hid (w1.heap[w.heap.size + 1]? = some (.cells #[.slice a0 L0 k0, .slice a1 L1 k1] 52 (0, 0))) := Lib.hid (by rw [hb1.block _ (lt_of_get HH5.out)]; exact HH5.out)
        obtain ⟨r0, r1⟩ := H5C.out w1 HR5.out
        clear cA hb1 HH4 HH5
        have cA2 := awake8_c w1
        go_wp2_with fail
        refine cA2.mono ?_
        rintro e w3 ⟨rfl, hb3⟩
        have HB3 := Lib.hid (HB1.out.trans (hb3.mono HB1.out.size))
        clear cA2 hb3
        go_wp2
        go_ret
        exact ⟨rfl, HB3.out⟩
      · have hdz : ¬ (5 : Int) < (L1 : Int) := by omega
        have hdd : decide ((5 : Int) < (L1 : Int)) = false := decide_eq_false hdz
        go_enter Try.func6, Try.ntmps6
        go_wp2_with fail
        try rw [hW0]
        clear hW0
        refine cA.mono ?_
        rintro e w1 ⟨rfl, hb1⟩
        have HB1 : Hid (Below w.heap.size w w1) := Lib.hid (HB0.out.trans (hb1.mono HB0.out.size))
        have HR4 : Hid (w1.heap[w.heap.size]? = some (.cells #[.int .u64 e0, .int .u64 e1] 51 (0, 0))) := Lib.hid (by rw [hb1.block _ (lt_of_get HH4.out)]; exact HH4.out)
        have HR5 : Hid (w1.heap[w.heap.size + 1]? = some (.cells #[.slice a0 L0 k0, .slice a1 L1 k1] 52 (0, 0))) := Lib.hid (by rw [hb1.block _ (lt_of_get HH5.out)]; exact HH5.out)
        obtain ⟨r0, r1⟩ := H5C.out w1 HR5.out
        clear cA hb1 HH4 HH5
        have hN := new_c 40 w1
        unfold NewPost at hN
        rw [show sizeI 40 = 40 from rfl] at hN
        go_wp2_with fail
        refine hN.mono ?_
        rintro e w3 ⟨b, rfl, hd3, hb3, ho3⟩
        have HB3 : Hid (Below w.heap.size w w3) := Lib.hid (HB1.out.trans (hb3.mono HB1.out.size))
        have HS3 : Hid (OpS w b w.heap.size (w.heap.size + 1) #[.int .u64 e0, .int .u64 e1] #[.slice a0 L0 k0, .slice a1 L1 k1] 0 w3) := Lib.hid ⟨⟨_, hd3.base HB1.out.size, fmNew 40 (by decide)⟩, HB3.out, ho3 _ (by simp) _ _ _ HR4.out, ho3 _ (by simp) _ _ _ HR5.out⟩
        clear hd3 hb3 ho3 hN r0 r1 HR4 HR5 HB3
        obtain ⟨c4, hc4⟩ : ∃ c4 : Array Value, c4 = #[.int .u64 e0, .int .u64 e1] := ⟨_, rfl⟩
        obtain ⟨c5, hc5⟩ : ∃ c5 : Array Value, c5 = #[.slice a0 L0 k0, .slice a1 L1 k1] := ⟨_, rfl⟩
        rw [← hc4, ← hc5] at HS3
        have HC4 := Lib.hid hc4
        have HC5 := Lib.hid hc5
        clear hc4 hc5 H5C
        obtain ⟨g4, hg4⟩ : ∃ g4, g4 = w.heap.size := ⟨_, rfl⟩
        obtain ⟨g5, hg5⟩ : ∃ g5, g5 = w.heap.size + 1 := ⟨_, rfl⟩
        go_wp2
        rw [← hg5, ← hg4]
        rw [← hg5, ← hg4] at HS3
        clear hg4 hg5
        -- all sectors by hand
        go_loopw [8] (fun iv wr => ∃ i : Nat, i ≤ L ∧ iv = .int .i64 i ∧ OpS w b g4 g5 c4 c5 i wr) (fun iv _ => L - (intOf iv).toNat)
        case atStart => exact ⟨0, by omega, rfl, HS3.out⟩
        case round =>
          obtain ⟨i, hi, rfl, hs⟩ := hrel
          have HS := Lib.hid hs
          clear hs
          by_cases hiL : i < L
          · have hiz : (i : Int) < (L : Int) := by omega
            obtain ⟨o, ho⟩ : ∃ o, l[i]? = some o := ⟨_, List.getElem?_eq_getElem (by rw [HL.out]; exact hiL)⟩
            obtain ⟨g, off, rfl, hg, hop⟩ := HV.out.at ho
            have q1 : wr.cell? ⟨g, off + i, none⟩ = some (.string o) := by rw [HS.out.bel.cell (p := ⟨g, _, none⟩) hg]; exact hop
            have hoz := HSZ.out o (List.mem_of_getElem? ho)
            clear ho hg hop
            obtain ⟨z, hz⟩ : ∃ z, o.size = z := ⟨_, rfl⟩
            have HZ := Lib.hid hz
            rw [hz] at hoz
            by_cases h64 : z = 64
            · have h64z : ((z : Int) == 64) = true := by rw [beq_iff_eq]; omega
              have cP := os_put HS.out (by omega) (i : Int) (by omega) (by omega) o (by rw [HZ.out]; exact h64)
              clear h64
              go_wp2_with fail
              refine cP.mono ?_
              rintro e w4 ⟨rfl, hs4, _⟩
              have HS4 := Lib.hid hs4
              clear hs4 cP q1
              go_wp2
              go_roundw
              case rel => exact ⟨i + 1, by omega, by first | rfl | go_num, HS4.out⟩
              case measure => simp [intOf]; omega
            · have h64z : ((z : Int) == 64) = false := by rw [beq_eq_false_iff_ne]; omega
              go_wp2
              go_roundw
              case rel => exact ⟨i + 1, by omega, by first | rfl | go_num, HS.out.mono (Nat.le_succ i)⟩
              case measure => simp [intOf]; omega
          · have hge : ¬ ((i : Int) < (L : Int)) := by omega
            have HSA : Hid (OpS w b g4 g5 c4 c5 40 wr) := Lib.hid (HS.out.mono (by omega))
            clear HS
            go_wp2
            go_loopw [9] (fun kv wr => ∃ k : Nat, k ≤ 2 ∧ kv = .int .i64 k ∧ OpS w b g4 g5 c4 c5 (40 + 20 * k) wr) (fun kv _ => 2 - (intOf kv).toNat)
            case atStart => exact ⟨0, by omega, rfl, HSA.out⟩
            case round =>
              obtain ⟨k, hk, rfl, hs⟩ := hrel
              have HS := Lib.hid hs
              clear hs HSA
              by_cases hk2 : k < 2
              · have hkz : (k : Int) < 2 := by omega
                have hm1 : IntKind.i64.wrap (20 * (k : Int)) = 20 * (k : Int) := by rw [IntKind.wrap_i64]; omega
                have hm2 : IntKind.i64.wrap (20 * (k : Int) + 1) = 20 * (k : Int) + 1 := by rw [IntKind.wrap_i64]; omega
                have hm3 : IntKind.i64.wrap (20 * (k : Int) + 20) = 20 * (k : Int) + 20 := by rw [IntKind.wrap_i64]; omega
                obtain ⟨ak, Lk, kk, Rk, N, HCK, HRK⟩ : ∃ (ak : Option Addr) (Lk kk : Nat) (Rk : List ByteArray) (N : Nat), Hid (∀ W, OpS w b g4 g5 c4 c5 0 W → W.cell? ⟨g5, k, none⟩ = some (.slice ak Lk kk) ∧ W.cell? ⟨g4, k, none⟩ = some (.int .u64 (N : Int))) ∧ Hid (StrsIs w (.slice ak Lk kk) Rk ∧ Rk.length = Lk ∧ Lk ≤ 5 ∧ (∀ s ∈ Rk, s.size ≤ 9223372036854775807) ∧ N < 18446744073709551616) := by
                  have hE := HE.out
                  rcases (show k = 0 ∨ k = 1 by omega) with rfl | rfl
                  · refine ⟨a0, L0, k0, R0, e0.toNat, Lib.hid (fun W hW => ⟨?_, ?_⟩), Lib.hid ⟨H0.out, HL0.out, by omega, HS0.out, by omega⟩⟩
                    · rw [cell_of_row _ _ _ _ _ _ hW.h5, HC5.out]; rfl
                    · rw [cell_of_row _ _ _ _ _ _ hW.h4, HC4.out, show ((e0.toNat : Nat) : Int) = e0 by omega]; rfl
                  · refine ⟨a1, L1, k1, R1, e1.toNat, Lib.hid (fun W hW => ⟨?_, ?_⟩), Lib.hid ⟨H1.out, HL1.out, by omega, HS1.out, by omega⟩⟩
                    · rw [cell_of_row _ _ _ _ _ _ hW.h5, HC5.out]; rfl
                    · rw [cell_of_row _ _ _ _ _ _ hW.h4, HC4.out, show ((e1.toNat : Nat) : Int) = e1 by omega]; rfl
                have hL5 : Lk ≤ 5 := HRK.out.2.2.1
                have HCA : Hid (∀ p W, OpS w b g4 g5 c4 c5 p W → W.cell? ⟨g5, k, none⟩ = some (.slice ak Lk kk) ∧ W.cell? ⟨g4, k, none⟩ = some (.int .u64 (N : Int))) := Lib.hid (fun p W h => by
                  rw [cell_of_row _ _ _ _ _ _ h.h5, cell_of_row _ _ _ _ _ _ h.h4]
                  have hE := HE.out
                  have := HCK.out
                  obtain ⟨W9, h9⟩ : ∃ W9 : World, OpS w b g4 g5 c4 c5 0 W9 := ⟨w3, HS3.out⟩
                  have h8 := this W9 h9
                  rw [cell_of_row _ _ _ _ _ _ h9.h5, cell_of_row _ _ _ _ _ _ h9.h4] at h8
                  exact h8)
                clear HCK
                go_wp2
                go_loopw [10, 11] (fun tv jv wr => ∃ (t j : Nat), 20 * k + 1 ≤ t ∧ t ≤ 20 * k + 20 ∧ j ≤ Lk ∧ tv = .int .i64 t ∧ jv = .int .i64 j ∧ OpS w b g4 g5 c4 c5 (40 + 20 * k + (t - (20 * k + 1))) wr) (fun _ jv _ => Lk - (intOf jv).toNat)
                case atStart => exact ⟨20 * k + 1, 0, by omega, by omega, by omega, by go_num, rfl, HS.out.mono (by omega)⟩
                case round =>
                  obtain ⟨t, j, ht1, ht2, hj, rfl, rfl, hs⟩ := hrel
                  have HSJ := Lib.hid hs
                  clear hs HS
                  obtain ⟨d5, d4⟩ := HCA.out _ _ HSJ.out
                  by_cases hjL : j < Lk
                  · have hjz : (j : Int) < (Lk : Int) := by omega
                    obtain ⟨o, ho⟩ : ∃ o, Rk[j]? = some o := ⟨_, List.getElem?_eq_getElem (by rw [HRK.out.2.1]; exact hjL)⟩
                    obtain ⟨g, off, rfl, hg, hop⟩ := HRK.out.1.at ho
                    have HQ : Hid (∀ p W, OpS w b g4 g5 c4 c5 p W → W.cell? ⟨g, off + j, none⟩ = some (.string o)) := Lib.hid (fun p W h => by rw [h.bel.cell (p := ⟨g, _, none⟩) hg]; exact hop)
                    have q1 := HQ.out _ _ HSJ.out
                    have hoz := HRK.out.2.2.2.1 o (List.mem_of_getElem? ho)
                    clear ho hg hop
                    obtain ⟨z, hz⟩ : ∃ z, o.size = z := ⟨_, rfl⟩
                    have HZ := Lib.hid hz
                    rw [hz] at hoz
                    by_cases h3 : 300 < z
                    · have h3z : (300 : Int) < (z : Int) := by omega
                      go_wp2
                      go_ret
                      exact ⟨rfl, HSJ.out.bel⟩
                    · have h3z : ¬ (300 : Int) < (z : Int) := by omega
                      have HCU : Hid (Calls Try.prog 19 #[.string o] wr fun e w' => ∃ a m c, e = .returned (.slice a (m : Nat) c) ∧ m ≤ 5 ∧ OpS w b g4 g5 c4 c5 (40 + 20 * k + (t - (20 * k + 1))) w' ∧ FrA w' a m) := Lib.hid (by
                        refine (cuto_c o wr (by rw [HZ.out]; omega)).mono ?_
                        rintro e w' ⟨a, c, he, hb, hf⟩
                        exact ⟨a, _, c, he, by rw [HZ.out]; omega, HSJ.out.below hb, hf⟩)
                      go_wp2_with fail
                      refine HCU.out.mono ?_
                      rintro e w4 ⟨af, m, cf, rfl, hm5, hs4, hf4⟩
                      have HS4 := Lib.hid hs4
                      have HF4 := Lib.hid hf4
                      clear hs4 hf4 HCU q1 d5 d4 HSJ
                      go_wp2
                      go_loopw [10, 13] (fun tv qv wr => ∃ (t q : Nat), 20 * k + 1 ≤ t ∧ t ≤ 20 * k + 20 ∧ q ≤ m ∧ tv = .int .i64 t ∧ qv = .int .i64 q ∧ OpS w b g4 g5 c4 c5 (40 + 20 * k + (t - (20 * k + 1))) wr ∧ FrA wr af m) (fun _ qv _ => m - (intOf qv).toNat)
                      case atStart => exact ⟨t, 0, ht1, ht2, by omega, rfl, rfl, HS4.out, HF4.out⟩
                      case round =>
                        clear ht1 ht2 HS4 HF4
                        obtain ⟨t, q, ht1, ht2, hq, rfl, rfl, hs, hf⟩ := hrel
                        have HSQ := Lib.hid hs
                        have HFQ := Lib.hid hf
                        clear hs hf
                        by_cases hqm : q < m
                        · have hqz : (q : Int) < (m : Int) := by omega
                          by_cases ht20 : t < 20 * k + 20
                          · have htz : (t : Int) < 20 * (k : Int) + 20 := by omega
                            have htw : IntKind.i64.wrap ((t : Int) + 1) = (t : Int) + 1 := by rw [IntKind.wrap_i64]; omega
                            obtain ⟨gf, f, rfl, q2, hf64⟩ := HFQ.out.at hqm
                            have cP := os_put HSQ.out (by omega) (t : Int) (by omega) (by omega) f hf64
                            clear hf64
                            go_wp2_with fail
                            refine cP.mono ?_
                            rintro e w5 ⟨rfl, hs5, ho5⟩
                            have HS5 := Lib.hid hs5
                            have HF5 := Lib.hid (HFQ.out.off ho5)
                            clear hs5 ho5 cP q2
                            go_wp2
                            go_roundw
                            case rel => exact ⟨t + 1, q + 1, by omega, by omega, by omega, by first | rfl | go_num, by first | rfl | go_num, HS5.out.mono (by omega), HF5.out⟩
                            case measure => simp [intOf]; omega
                          · have htz : ¬ (t : Int) < 20 * (k : Int) + 20 := by omega
                            go_wp2
                            go_roundw
                            case rel => exact ⟨t, j + 1, ht1, ht2, by omega, rfl, by first | rfl | go_num, HSQ.out⟩
                            case measure => simp [intOf]; omega
                        · have hqz : ¬ (q : Int) < (m : Int) := by omega
                          go_wp2
                          go_roundw
                          case rel => exact ⟨t, j + 1, ht1, ht2, by omega, rfl, by first | rfl | go_num, HSQ.out⟩
                          case measure => simp [intOf]; omega
                  · have hjz : ¬ (j : Int) < (Lk : Int) := by omega
                    by_cases hN0 : N = 0
                    · have hNz : ¬ (0 : Int) < (N : Int) := by omega
                      clear hN0
                      go_wp2
                      go_roundw
                      case rel => exact ⟨k + 1, by omega, by first | rfl | go_num, HSJ.out.mono (by omega)⟩
                      case measure => simp [intOf]; omega
                    · have hNz : (0 : Int) < (N : Int) := by omega
                      have HHD : Hid (Calls Try.prog 27 #[.int .u64 N] wr fun e w' => e = .returned (.string (headB N)) ∧ OpS w b g4 g5 c4 c5 (40 + 20 * k + 19) w') := Lib.hid (by
                        refine (head7_c N wr HRK.out.2.2.2.2).mono ?_
                        rintro e w' ⟨he, hb⟩
                        exact ⟨he, (HSJ.out.below hb).mono (by omega)⟩)
                      have HHZ : Hid ((headB N).size = 64) := Lib.hid (headB_size N)
                      go_wp2_with fail
                      refine HHD.out.mono ?_
                      rintro e w4 ⟨rfl, hs4⟩
                      have HS4 := Lib.hid hs4
                      clear hs4 HHD d4 d5
                      generalize headB N = hb9 at *
                      have cP := os_put HS4.out (by omega) (20 * (k : Int)) (by omega) (by omega) hb9 HHZ.out
                      go_wp2_with fail
                      refine cP.mono ?_
                      rintro e w5 ⟨rfl, hs5, ho5⟩
                      have HS5 := Lib.hid hs5
                      clear hs5 ho5 cP
                      go_wp2
                      go_roundw
                      case rel => exact ⟨k + 1, by omega, by first | rfl | go_num, HS5.out.mono (by omega)⟩
                      case measure => simp [intOf]; omega
              · have hkz : ¬ (k : Int) < 2 := by omega
                obtain ⟨st, hdv, hfm⟩ := HS.out.dev
                have HD := Lib.hid hdv
                have HFM := Lib.hid hfm
                have HB := Lib.hid HS.out.bel
                have HPN : Hid (st.pend.length ≤ 200) := Lib.hid (by have := hfm.pnd; omega)
                clear hdv hfm HS HS3
                generalize wr = wk at *
                obtain ⟨i0, hi0, hz0, hz1, hz2⟩ := info_parts Try.infoStr7
                have cG : Hid (∀ (i : Nat) (x : ByteArray) W, st.now[i]? = some x → Below wk.heap.size wk W → Calls Try.prog 28 #[.pointer (some ⟨b, 0, none⟩), .int .i64 i] W fun e w' => W = w' ∧ e = .returned (.tuple #[.string x, .int .i64 0])) := Lib.hid (fun i x W hx hW => by
                  have hi : i < st.now.length := (List.getElem?_eq_some_iff.1 hx).1
                  have h9 := get_c w.heap.size b st (i : Int) W (HD.out.below hW) HFM.out.good
                  unfold GetPost at h9
                  rw [ask_ok (free_gone HFM.out.lim) hi, if_pos rfl, Int.toNat_natCast, List.getD_eq_getElem?_getD, hx] at h9
                  exact h9)
                have HN : Hid (st.now.length = 40) := Lib.hid HFM.out.len
                go_wp2
                go_loopw [14, 15] (fun ov iv wr => ∃ i : Nat, iv = .int .i64 i ∧ i ≤ 40 ∧ (∃ o, o = ov ∧ wr.ownsRow wk.heap.size 9 1 o i ((st.now.take i).map Value.string)) ∧ Below wk.heap.size wk wr) (fun _ iv _ => 40 - (intOf iv).toNat)
                case atStart => exact ⟨0, rfl, by omega, ⟨_, rfl, rfl, Or.inl ⟨rfl, rfl⟩⟩, Below.refl _ _⟩
                case round =>
                  obtain ⟨i, rfl, hi, ⟨ov, rfl, hown⟩, hb⟩ := hrel
                  have HO := Lib.hid hown
                  have HBI := Lib.hid hb
                  clear hown hb
                  by_cases hin : i < 40
                  · have hiz : (i : Int) < 40 := by omega
                    obtain ⟨x, hx⟩ : ∃ x, st.now[i]? = some x := ⟨_, List.getElem?_eq_getElem (by rw [HN.out]; exact hin)⟩
                    have HX := Lib.hid hx
                    clear hx
                    have HA3 : Hid ((wr.alloc (.cells #[.string x] 9)).ownsRow wk.heap.size 9 1 ov i ((st.now.take i).map Value.string)) := Lib.hid (HO.out.alloc _)
                    go_wp2_with fail
                    refine (cG.out i x wr HX.out HBI.out).mono ?_
                    rintro e w2 ⟨rfl, rfl⟩
                    go_wp2_with (at_builtin; refine wpList_append_own _ rfl _ _ 39 rfl wk.heap.size 9 i0 (.string ⟨#[]⟩) 1 16 Try.underlying39 hi0 hz0 hz1 hz2 rfl (by decide) _ _ _ rfl HA3.out ⟨wr.heap.size, 0, none⟩ 1 1 [.string x] rfl rfl ?c1 ?c2 ?c3 ?c4 ?c5 ?_)
                    case c1 =>
                      intro j u hj
                      match j, hj with
                      | 0, hj => simp at hj; subst hj; simp [Addr.add]
                    case c2 => intro u hu; simp at hu; subst hu; rfl
                    case c3 => unfold maxLen; omega
                    case c4 => omega
                    case c5 => have h1 := HBI.out.size; simp; omega
                    intro v' w3 hown' hgrow _
                    have HO3 : Hid (w3.ownsRow wk.heap.size 9 1 v' (i + 1) ((st.now.take (i + 1)).map Value.string)) := Lib.hid (by
                      rw [List.take_add_one, HX.out, List.map_append, List.map_take]
                      exact hown')
                    have HB3 : Hid (Below wk.heap.size wk w3) := Lib.hid ((HBI.out.alloc HBI.out.size _).grown hgrow (by have := HBI.out.size; simp; omega) (fun j hj => (HO.out.lt j hj).1))
                    clear hown' hgrow
                    go_wp2
                    go_roundw
                    case rel => exact ⟨i + 1, by first | rfl | go_num, by omega, ⟨_, rfl, HO3.out⟩, HB3.out⟩
                    case measure => simp [intOf]; omega
                  · have hiz : ¬ ((i : Int) < 40) := by omega
                    have hin2 : i = 40 := by omega
                    have HOE : Hid (wr.ownsRow wk.heap.size 9 1 ov 40 (st.now.map Value.string)) := Lib.hid (by
                      have h9 := HO.out
                      rw [List.take_of_length_le (by rw [HN.out]; omega)] at h9
                      rw [← hin2]
                      exact h9)
                    obtain ⟨g, cap, hvv, hc1, hc2⟩ : ∃ g cap, ov = .slice (some ⟨g, 0, none⟩) 40 cap ∧ 40 ≤ cap ∧ cap ≤ maxLen := by
                      rcases HOE.out.2 with ⟨_, h0⟩ | ⟨g, cap, cur, hv, _, _, h2, h3, _⟩
                      · cases h0
                      · exact ⟨g, cap, hv, h2, h3⟩
                    subst hvv
                    have HST : Hid (StrsIs wr (.slice (some ⟨g, 0, none⟩) (40 : Nat) cap) st.now) := Lib.hid (by
                      have h9 := own_row HOE.out HN.out
                      exact h9.strs)
                    have cR := open8_c g 0 40 cap 20 st.now wr HN.out HST.out HFM.out.good.szn (by decide) (by decide) rfl hc1 hc2
                    unfold OpenPost at cR
                    clear hin2 hiz hi
                    have HBW : Hid (Below w.heap.size w wr) := Lib.hid (HB.out.trans (HBI.out.mono HB.out.size))
                    have HOP : Hid (∀ W, Below wr.heap.size wr W → Calls Try.prog 15 #[.pointer (some ⟨b, 0, none⟩)] W (OpPost w.heap.size b 40 20 st W)) := Lib.hid (fun W hW => vopen_c ((HD.out.below HBI.out).below hW) HFM.out.good HFM.out.lim HN.out rfl (by decide) (by have := HPN.out; omega) (Nat.le_trans HBW.out.size hW.size))
                    unfold OpPost at HOP
                    go_wp2_with fail
                    refine cR.mono ?_
                    rintro e w5 ⟨hb5, hx5⟩
                    have HB5 := Lib.hid hb5
                    rcases hx5 with ⟨hV, rfl⟩ | ⟨hV, v5, r, rs, hr, rfl, hsv, hty⟩
                    · have HVV := Lib.hid hV
                      clear hV hb5 cR
                      have HO5 : Hid (Calls Try.prog 15 #[.pointer (some ⟨b, 0, none⟩)] w5 fun e w' => e = .returned (.tuple #[.pointer none, .int .i64 2]) ∧ Below w.heap.size w w') := Lib.hid (by
                        refine (HOP.out w5 HB5.out).mono ?_
                        rintro e w' ⟨hb, ho, ⟨h1, _⟩ | ⟨_, _, he, _⟩ | ⟨_, h1, _⟩⟩
                        · omega
                        · exact ⟨he, (HBW.out.trans (HB5.out.mono HBW.out.size)).trans hb⟩
                        · rw [HVV.out] at h1; cases h1)
                      go_wp2_with fail
                      refine HO5.out.mono ?_
                      rintro e w6 ⟨rfl, hb6⟩
                      have HB6 := Lib.hid hb6
                      clear hb6
                      go_wp2
                      go_ret
                      exact ⟨rfl, HB6.out⟩
                    · have HVV := Lib.hid hV
                      have HR := Lib.hid hr
                      have HSV := Lib.hid hsv
                      have HTY := Lib.hid hty
                      clear hV hr hsv hty hb5 cR
                      have HO5 : Hid (Calls Try.prog 15 #[.pointer (some ⟨b, 0, none⟩)] w5 fun e w' => ∃ vb F S A E rv op st', e = .returned (.tuple #[.pointer (some ⟨vb, 0, none⟩), .int .i64 0]) ∧ Below w.heap.size w w' ∧ VaultAt w' vb b F S A E (mkS r) rv op ∧ RowAt w.heap.size w' rv (rs.map mkS) ∧ StrsIs w' v5 (rs.map mkS) ∧ rs.length ≤ 1000 ∧ Dev w.heap.size w' b st' ∧ st'.pend = []) := Lib.hid (by
                        refine (HOP.out w5 HB5.out).mono ?_
                        rintro e w' ⟨hb, ho, ⟨h1, _⟩ | ⟨_, h1, _⟩ | ⟨_, _, vb, A, img, rs', rv, he, hvb, hO⟩⟩
                        · omega
                        · rw [HVV.out] at h1; cases h1
                        · have hrd := hO.rd
                          rw [HR.out] at hrd
                          have h1 := congrArg (List.map mkS) hrd
                          rw [recs_mk] at h1
                          injection h1 with e1 e2
                          have hBB := HBW.out.trans (HB5.out.mono HBW.out.size)
                          refine ⟨vb, _, _, A, _, rv, _, _, he, hBB.trans hb, by rw [e1]; exact hO.vlt, by rw [e2]; exact hO.row.base hBB.size, ?_, ?_, hO.dev, rfl⟩
                          · rcases HSV.out with ⟨h2, h3⟩ | ⟨g7, off7, cap7, hg7, hv7, hc7⟩
                            · exact Or.inl ⟨h2, h3⟩
                            · obtain ⟨cur7, fr7, hb7⟩ := HTY.out _ _ _ hv7
                              have hb8 := ho.2 _ (by decide) g7 cur7 fr7 hg7 hb7
                              refine Or.inr ⟨g7, off7, cap7, lt_of_get hb8, hv7, fun j s hj => ?_⟩
                              have h9 := hc7 j s hj
                              rw [cell_of_row w5 g7 _ _ _ _ hb7] at h9
                              rw [cell_of_row w' g7 _ _ _ _ hb8]
                              exact h9
                          · have h2 := hO.end_
                            have h3 := hO.room
                            have h4 : rs.length = rs'.length := by rw [← e2, List.length_map]
                            have h5 : (recs (img :: rs')).length ≤ (layB (recs (img :: rs'))).length := recs_few8 (by rw [← hO.rd]; unfold readX; exact scan_good _)
                            have h6 : (recs (img :: rs')).length = rs'.length + 1 := by unfold recs bytesL; rw [List.length_map]; rfl
                            omega)
                      go_wp2_with fail
                      refine HO5.out.mono ?_
                      rintro e w6 ⟨vb6, F6, S6, A6, E6, rv6, op6, st6, rfl, hb6, hv6, hrow6, hsv6, hn6, hd6, hp6⟩
                      have HB6 := Lib.hid hb6
                      have HSV6 := Lib.hid hsv6
                      have HN6 := Lib.hid hn6
                      have cI := image_c hv6
                      have cRC := records_c hv6 hrow6 (by rw [List.length_map]; omega)
                      have HD6 := Lib.hid hd6
                      have HP6 := Lib.hid hp6
                      clear hb6 hv6 hrow6 hsv6 hd6 hp6 hn6
                      generalize mkS r = img at *
                      go_wp2_with fail
                      refine cI.mono ?_
                      rintro e w7 ⟨rfl, rfl⟩
                      clear cI
                      go_wp2_with fail
                      refine cRC.mono ?_
                      rintro e w7 ⟨v7, rfl, hown7, hb7⟩
                      have HB7 : Hid (Below w.heap.size w w7) := Lib.hid (HB6.out.trans (hb7.mono HB6.out.size))
                      have cS := same_c v7 v5 (rs.map mkS) (rs.map mkS) w7 (strs_owned hown7) (HSV6.out.kept hb7) (by rw [List.length_map]; have := HN6.out; omega) (by rw [List.length_map]; have := HN6.out; omega) true ⟨fun _ => rfl, fun _ => rfl⟩
                      have HD7 := Lib.hid (HD6.out.below hb7)
                      clear hown7 hb7 cRC
                      go_wp2_with fail
                      refine cS.mono ?_
                      rintro e w8 ⟨rfl, hb8⟩
                      have HB8 : Hid (Below w.heap.size w w8) := Lib.hid (HB7.out.trans (hb8.mono HB7.out.size))
                      obtain ⟨pa, pc, hpc⟩ := (HD7.out.below hb8).pendCell
                      rw [HP6.out] at hpc
                      have cP := pending_c b 0 pc pa w8 hpc
                      clear hb8 cS hpc
                      go_wp2_with fail
                      refine cP.mono ?_
                      rintro e w9 ⟨rfl, rfl⟩
                      clear cP
                      go_wp2
                      go_ret
                      exact ⟨rfl, HB8.out⟩
end Go.Proofs.Ytmpfdmjbgabcdaa
