/-
  The law EscapeApart of stage 4, walked: it answers true; what lay in memory stays.
-/
import Derived.Test.YthfnnpjkponcjaaDoorZEsLawB
import Derived.Laws.IdiomStrings
import Derived.OpenShut
namespace Go.Proofs.YthfnnpjkponcjaaDoor
open Go.RowKit Go.Sort
set_option linter.unusedVariables false

theorem pres_same {E : Int} (h0 : 0 ≤ E) (a b : ByteArray) : ((⟨(presL E a.data.toList).toArray⟩ : ByteArray).toList == (⟨(presL E b.data.toList).toArray⟩ : ByteArray).toList) = (a.toList == b.toList) := by
  have h : ((⟨(presL E a.data.toList).toArray⟩ : ByteArray).toList = (⟨(presL E b.data.toList).toArray⟩ : ByteArray).toList) ↔ (a.toList = b.toList) := by
    rw [ByteArray.toList_eq, ByteArray.toList_eq, ByteArray.toList_eq, ByteArray.toList_eq]
    exact ⟨fun h => pres_inj h0 h, fun h => by rw [h]⟩
  by_cases e : a.toList = b.toList
  · rw [beq_iff_eq.2 e, beq_iff_eq]; exact h.2 e
  · rw [beq_eq_false_iff_ne.2 e, beq_eq_false_iff_ne]; exact fun h9 => e (h.1 h9)

set_option maxHeartbeats 4000000 in
set_option maxRecDepth 100000 in
theorem apart4_walk (x y : Int) (hx0 : 0 ≤ x) (hx1 : x ≤ 255) (hy0 : 0 ≤ y) (hy1 : y ≤ 255) (a b : ByteArray) (hsa : a.size ≤ 9223372036854775807) (hsb : b.size ≤ 9223372036854775807) (w : World) (hT : Tabs w) :
    Calls Tryd.prog 3 #[.agg #[.int .u8 x, .int .u8 y], .string a, .string b] w fun e w' => e = .returned (.bool true) ∧ Below w.heap.size w w' := by
  have HA : Hid (∀ w1, Below w.heap.size w w1 → Calls Tryd.prog 9 #[] w1 fun e w' => e = .returned (.bool true) ∧ Below w1.heap.size w1 w') := Lib.hid (fun w1 h1 => awake4_c w1 (hT.step h1))
  have HG : Hid (∀ w1, Calls Tryd.prog 10 #[.string a] w1 fun e w' => e = .returned (.bool (goodB a)) ∧ Below w1.heap.size w1 w') := Lib.hid (fun w1 => esGood_c a hsa w1)
  obtain ⟨E, hE⟩ : ∃ E, x % 9 = E := ⟨_, rfl⟩
  have hE0 : 0 ≤ E := by omega
  have hE8 : E ≤ 8 := by omega
  have hwE : IntKind.i64.wrap E = E := by rw [IntKind.wrap_i64]; omega
  have hbox : ∀ o, Below w.heap.size w (w.alloc o) := fun o => (Below.refl _ _).alloc (Nat.le_refl _) o
  cases hg : goodB a with
  | false =>
    rw [hg] at HG
    clear hg hT
    go_enter Tryd.func3, Tryd.ntmps3
    go_wp2_with fail
    go_quiet (fail)
    have HB0 : Hid (Below w.heap.size w ((w.alloc (.cells #[.int .u8 x, .int .u8 y] 22)).drewN nq)) := Lib.hid (below_drewN' (hbox _) nq)
    generalize (w.alloc (.cells #[.int .u8 x, .int .u8 y] 22)).drewN nq = W0 at *
    have cA := HA.out W0 HB0.out
    go_wp2_with fail
    refine cA.mono ?_
    rintro e w1 ⟨rfl, hb1⟩
    have cG := HG.out w1
    have HB1 : Hid (Below w.heap.size w w1) := Lib.hid (HB0.out.trans (hb1.mono HB0.out.size))
    clear hb1 cA
    go_wp2_with fail
    refine cG.mono ?_
    rintro e w2 ⟨rfl, hb2⟩
    have HB2 : Hid (Below w.heap.size w w2) := Lib.hid (HB1.out.trans (hb2.mono HB1.out.size))
    clear hb2 cG
    have cA2 := HA.out w2 HB2.out
    go_wp2_with fail
    refine cA2.mono ?_
    rintro e w3 ⟨rfl, hb3⟩
    have HB3 : Hid (Below w.heap.size w w3) := Lib.hid (HB2.out.trans (hb3.mono HB2.out.size))
    clear hb3 cA2
    go_wp2
    go_ret
    exact ⟨rfl, HB3.out⟩
  | true =>
    have hsz := good_size hg
    have hlen := len_list a
    have hn1 : 1 ≤ a.size := by
      have h9 := hg
      rw [good_says] at h9
      simp only [Bool.and_eq_true, decide_eq_true_iff] at h9
      exact h9.2.1
    rw [hg] at HG
    have HP : Hid (∀ (c : ByteArray) w1, c.size ≤ 300 → Below w.heap.size w w1 → Calls Tryd.prog 11 #[.int .i64 E, .string c] w1 fun e w' => e = .returned (.string ⟨(presL E c.data.toList).toArray⟩) ∧ Below w1.heap.size w1 w') := Lib.hid (fun c w1 hc h1 => present_c E hE0 hE8 c hc w1 (hT.step h1))
    have HPS : Hid (∀ c : ByteArray, ((⟨(presL E a.data.toList).toArray⟩ : ByteArray).toList == (⟨(presL E c.data.toList).toArray⟩ : ByteArray).toList) = (a.toList == c.toList)) := Lib.hid (fun c => pres_same hE0 a c)
    have kc : ∀ w : World, (convert 9 25 (.string a)).run Tryd.prog w = .ok (.slice (some ⟨w.heap.size, 0, none⟩) a.size (grownCap w a.size 0 5)) (w.drew.alloc (.cells (bytesRow a (grownCap w a.size 0 5)) 5 ((bytesRow a (grownCap w a.size 0 5)).size, (bytesRow a (grownCap w a.size 0 5)).size + 1))) := fun w =>
      run_bytes_of_string w 9 25 5 a Tryd.underlying9 Tryd.underlying25 Tryd.underlying5
    obtain ⟨i, hi⟩ : ∃ i : Nat, y % (a.size : Int) = (i : Int) := ⟨(y % (a.size : Int)).toNat, by have := Int.emod_nonneg y (show (a.size : Int) ≠ 0 by omega); omega⟩
    have hil : i < a.size := by have := Int.emod_lt_of_pos y (show (0 : Int) < (a.size : Int) by omega); omega
    clear hg hT
    go_enter Tryd.func3, Tryd.ntmps3
    go_wp2_with fail
    go_quiet (fail)
    have HB0 : Hid (Below w.heap.size w ((w.alloc (.cells #[.int .u8 x, .int .u8 y] 22)).drewN nq)) := Lib.hid (below_drewN' (hbox _) nq)
    generalize (w.alloc (.cells #[.int .u8 x, .int .u8 y] 22)).drewN nq = W0 at *
    have cA := HA.out W0 HB0.out
    go_wp2_with fail
    refine cA.mono ?_
    rintro e w1 ⟨rfl, hb1⟩
    have cG := HG.out w1
    have HB1 : Hid (Below w.heap.size w w1) := Lib.hid (HB0.out.trans (hb1.mono HB0.out.size))
    clear hb1 cA
    go_wp2_with fail
    refine cG.mono ?_
    rintro e w2 ⟨rfl, hb2⟩
    have HB2 : Hid (Below w.heap.size w w2) := Lib.hid (HB1.out.trans (hb2.mono HB1.out.size))
    clear hb2 cG
    have HC : Hid (∀ j, j < a.size → (w2.alloc (.cells (bytesRow a (grownCap w2 a.size 0 5)) 5 ((bytesRow a (grownCap w2 a.size 0 5)).size, (bytesRow a (grownCap w2 a.size 0 5)).size + 1))).cell? ⟨w2.heap.size, j, none⟩ = some (.int .u8 (Go.PlainAid.bt a j)) ∧ (w2.alloc (.cells (bytesRow a (grownCap w2 a.size 0 5)) 5 ((bytesRow a (grownCap w2 a.size 0 5)).size, (bytesRow a (grownCap w2 a.size 0 5)).size + 1))).frozen? ⟨w2.heap.size, j, none⟩ = false) := Lib.hid (fun j hj => by
      have h1 := World.cell?_alloc_mark w2 (bytesRow a (grownCap w2 a.size 0 5)) 5 ((bytesRow a (grownCap w2 a.size 0 5)).size, (bytesRow a (grownCap w2 a.size 0 5)).size + 1) j
      have h2 := World.frozen?_alloc_mark w2 (bytesRow a (grownCap w2 a.size 0 5)) 5 (bytesRow a (grownCap w2 a.size 0 5)).size ((bytesRow a (grownCap w2 a.size 0 5)).size + 1) j
      have h3 := bytesRow_at a (grownCap w2 a.size 0 5) j hj
      have hjr : j < (bytesRow a (grownCap w2 a.size 0 5)).size := (Array.getElem?_eq_some_iff.1 h3).1
      refine ⟨?_, ?_⟩
      · have h4 : (w2.alloc (.cells (bytesRow a (grownCap w2 a.size 0 5)) 5 ((bytesRow a (grownCap w2 a.size 0 5)).size, (bytesRow a (grownCap w2 a.size 0 5)).size + 1))).cell? ⟨w2.heap.size, j, none⟩ = _ := h1.trans h3
        rw [h4, (bt_list hj).2]
        simp [ByteArray.getElem_eq_getElem_data]
      · have h4 : (w2.alloc (.cells (bytesRow a (grownCap w2 a.size 0 5)) 5 ((bytesRow a (grownCap w2 a.size 0 5)).size, (bytesRow a (grownCap w2 a.size 0 5)).size + 1))).frozen? ⟨w2.heap.size, j, none⟩ = _ := h2
        rw [h4, decide_eq_false (by omega)]; rfl)
    have HB3 : Hid (Below w.heap.size w ((w2.alloc (.cells (bytesRow a (grownCap w2 a.size 0 5)) 5 ((bytesRow a (grownCap w2 a.size 0 5)).size, (bytesRow a (grownCap w2 a.size 0 5)).size + 1))).drew)) := Lib.hid ((HB2.out.alloc HB2.out.size _).drew)
    have HG2 : Hid (w.heap.size ≤ w2.heap.size) := Lib.hid HB2.out.size
    have hci := HC.out i hil
    obtain ⟨A, hA⟩ : ∃ A : Int, Go.PlainAid.bt a i = A := ⟨_, rfl⟩
    rw [hA] at hci
    obtain ⟨hci1, hci2⟩ := hci
    obtain ⟨V, hV⟩ : ∃ V : Int, bits BinOp.xor IntKind.u8 A (1 + y / 64) = V := ⟨_, rfl⟩
    have hVb : 0 ≤ V ∧ V ≤ 255 := by
      have h9 := Go.wf_bits BinOp.xor IntKind.u8 A (1 + y / 64)
      rw [hV] at h9
      simpa [Lit.wf, IntKind.min, IntKind.max, IntKind.signed, IntKind.bits] using h9
    have hw64 : IntKind.u8.wrap (1 + y / 64) = 1 + y / 64 := by rw [IntKind.wrap_u8]; omega
    have hnz : ((a.size : Int) == 0) = false := by rw [beq_eq_false_iff_ne]; omega
    have hiz : (i : Int) < (a.size : Int) := by omega
    have hi0 : (0 : Int) ≤ (i : Int) := by omega
    have hit : ((i : Int)).toNat = i := by omega
    have HB5 : Hid (Below w.heap.size w (((w2.alloc (.cells (bytesRow a (grownCap w2 a.size 0 5)) 5 ((bytesRow a (grownCap w2 a.size 0 5)).size, (bytesRow a (grownCap w2 a.size 0 5)).size + 1))).setCell ⟨w2.heap.size, i, none⟩ (.int .u8 V)).drew)) := Lib.hid (((HB2.out.alloc HB2.out.size _).setCell (p := ⟨w2.heap.size, i, none⟩) HG2.out _).drew)
    have HC5 : Hid (∀ j, j < a.size → (((w2.alloc (.cells (bytesRow a (grownCap w2 a.size 0 5)) 5 ((bytesRow a (grownCap w2 a.size 0 5)).size, (bytesRow a (grownCap w2 a.size 0 5)).size + 1))).setCell ⟨w2.heap.size, i, none⟩ (.int .u8 V)).drew).cell? ⟨w2.heap.size, j, none⟩ = some (.int .u8 (if j = i then V else Go.PlainAid.bt a j))) := Lib.hid (fun j hj => by
      show ((w2.alloc (.cells (bytesRow a (grownCap w2 a.size 0 5)) 5 ((bytesRow a (grownCap w2 a.size 0 5)).size, (bytesRow a (grownCap w2 a.size 0 5)).size + 1))).setCell ⟨w2.heap.size, i, none⟩ (.int .u8 V)).cell? ⟨w2.heap.size, j, none⟩ = _
      by_cases e : j = i
      · subst e
        rw [if_pos rfl]
        exact World.cell?_setCell_same _ _ _ hci1
      · rw [if_neg e]
        exact (World.cell?_setCell_other _ ⟨w2.heap.size, i, none⟩ ⟨w2.heap.size, j, none⟩ _ (by intro h9; injection h9 with _ h9 _; exact e h9.symm)).trans (HC.out j hj).1)
    have hl9 : (a.data.toList.set i (UInt8.ofNat V.toNat)).length = a.size := by rw [List.length_set]; exact hlen
    have hel : ∀ j (hj : j < (a.data.toList.set i (UInt8.ofNat V.toNat)).length), (((a.data.toList.set i (UInt8.ofNat V.toNat))[j]).toNat : Int) = if j = i then V else Go.PlainAid.bt a j := fun j hj => by
      rw [hl9] at hj
      rw [List.getElem_set]
      by_cases e : i = j
      · rw [if_pos e, if_pos e.symm, u8n _ (by omega)]; omega
      · rw [if_neg e, if_neg (fun h9 => e h9.symm), (bt_list hj).2]
        simp [ByteArray.getElem_eq_getElem_data]
    have KB : Hid (∀ (W : World) (cap : Nat), (∀ j, j < a.size → W.cell? ⟨w2.heap.size, j, none⟩ = some (.int .u8 (if j = i then V else Go.PlainAid.bt a j))) → (convert 25 9 (.slice (some ⟨w2.heap.size, 0, none⟩) a.size cap)).run Tryd.prog W = .ok (.string ⟨(a.data.toList.set i (UInt8.ofNat V.toNat)).toArray⟩) W) := Lib.hid (fun W cap hc => by
      have h9 := run_convert_bytes_back (P := Tryd.prog) W 25 9 5 ⟨w2.heap.size, 0, none⟩ cap (a.data.toList.set i (UInt8.ofNat V.toNat)) Tryd.underlying25 Tryd.underlying5 Tryd.underlying9 (fun j hj => by
        rw [addr_add, Nat.zero_add, hel j hj]
        exact hc j (by rw [hl9] at hj; exact hj))
      rw [hl9] at h9
      exact h9)
    have HCS : Hid ((⟨(a.data.toList.set i (UInt8.ofNat V.toNat)).toArray⟩ : ByteArray).size ≤ 255) := Lib.hid (by rw [← len_list]; show (a.data.toList.set i (UInt8.ofNat V.toNat)).length ≤ 255; omega)
    generalize (⟨(a.data.toList.set i (UInt8.ofNat V.toNat)).toArray⟩ : ByteArray) = C at *
    clear hel hl9 hVb
    by_cases hb0 : b.toList = []
    · have HGc : Hid (∀ w1, Calls Tryd.prog 10 #[.string C] w1 fun e w' => e = .returned (.bool (goodB C)) ∧ Below w1.heap.size w1 w') := Lib.hid (fun w1 => esGood_c C (by have := HCS.out; omega) w1)
      cases hgc : goodB C with
      | false =>
        rw [hgc] at HGc
        clear hgc
        go_wp2_with fail
        rw [KB.out _ _ HC5.out]
        simp only [Result.andThen]
        rw [Oper.upon_value]
        generalize (((w2.alloc (.cells (bytesRow a (grownCap w2 a.size 0 5)) 5 ((bytesRow a (grownCap w2 a.size 0 5)).size, (bytesRow a (grownCap w2 a.size 0 5)).size + 1))).setCell ⟨w2.heap.size, i, none⟩ (.int .u8 V)).drew) = W5 at *
        have cG2 := HGc.out W5
        go_wp2_with fail
        refine cG2.mono ?_
        rintro e w6 ⟨rfl, hb6⟩
        have HB6 : Hid (Below w.heap.size w w6) := Lib.hid (HB5.out.trans (hb6.mono HB5.out.size))
        clear hb6 cG2
        go_wp2
        go_ret
        exact ⟨rfl, HB6.out⟩
      | true =>
        have hcs := good_size hgc
        rw [hgc] at HGc
        clear hgc
        have HPa := Lib.hid (HP.out a)
        have HPc := Lib.hid (HP.out C)
        have hps := HPS.out C
        generalize (⟨(presL E a.data.toList).toArray⟩ : ByteArray) = Pa at *
        generalize (⟨(presL E C.data.toList).toArray⟩ : ByteArray) = Pc at *
        go_wp2_with fail
        rw [KB.out _ _ HC5.out]
        simp only [Result.andThen]
        rw [Oper.upon_value]
        generalize (((w2.alloc (.cells (bytesRow a (grownCap w2 a.size 0 5)) 5 ((bytesRow a (grownCap w2 a.size 0 5)).size, (bytesRow a (grownCap w2 a.size 0 5)).size + 1))).setCell ⟨w2.heap.size, i, none⟩ (.int .u8 V)).drew) = W5 at *
        have cG2 := HGc.out W5
        go_wp2_with fail
        refine cG2.mono ?_
        rintro e w6 ⟨rfl, hb6⟩
        have HB6 : Hid (Below w.heap.size w w6) := Lib.hid (HB5.out.trans (hb6.mono HB5.out.size))
        have cPa := HPa.out w6 (by omega) HB6.out
        clear hb6 cG2
        go_wp2_with fail
        refine cPa.mono ?_
        rintro e w7 ⟨rfl, hb7⟩
        have HB7 : Hid (Below w.heap.size w w7) := Lib.hid (HB6.out.trans (hb7.mono HB6.out.size))
        have cPc := HPc.out w7 (by omega) HB7.out
        clear hb7 cPa
        go_wp2_with fail
        refine cPc.mono ?_
        rintro e w8 ⟨rfl, hb8⟩
        have HB8 : Hid (Below w.heap.size w w8) := Lib.hid (HB7.out.trans (hb8.mono HB7.out.size))
        clear hb8 cPc
        go_wp2
        go_ret
        exact ⟨rfl, HB8.out⟩
    · have q0 : b.toList.isEmpty = false := by rw [List.isEmpty_eq_false_iff]; exact hb0
      clear hb0
      have HGc : Hid (∀ w1, Calls Tryd.prog 10 #[.string b] w1 fun e w' => e = .returned (.bool (goodB b)) ∧ Below w1.heap.size w1 w') := Lib.hid (fun w1 => esGood_c b hsb w1)
      cases hgc : goodB b with
      | false =>
        rw [hgc] at HGc
        clear hgc
        go_wp2_with fail
        generalize (((w2.alloc (.cells (bytesRow a (grownCap w2 a.size 0 5)) 5 ((bytesRow a (grownCap w2 a.size 0 5)).size, (bytesRow a (grownCap w2 a.size 0 5)).size + 1))).setCell ⟨w2.heap.size, i, none⟩ (.int .u8 V)).drew) = W5 at *
        have cG2 := HGc.out W5
        go_wp2_with fail
        refine cG2.mono ?_
        rintro e w6 ⟨rfl, hb6⟩
        have HB6 : Hid (Below w.heap.size w w6) := Lib.hid (HB5.out.trans (hb6.mono HB5.out.size))
        clear hb6 cG2
        go_wp2
        go_ret
        exact ⟨rfl, HB6.out⟩
      | true =>
        have hcs := good_size hgc
        rw [hgc] at HGc
        clear hgc
        have HPa := Lib.hid (HP.out a)
        have HPc := Lib.hid (HP.out b)
        have hps := HPS.out b
        generalize (⟨(presL E a.data.toList).toArray⟩ : ByteArray) = Pa at *
        generalize (⟨(presL E b.data.toList).toArray⟩ : ByteArray) = Pc at *
        go_wp2_with fail
        generalize (((w2.alloc (.cells (bytesRow a (grownCap w2 a.size 0 5)) 5 ((bytesRow a (grownCap w2 a.size 0 5)).size, (bytesRow a (grownCap w2 a.size 0 5)).size + 1))).setCell ⟨w2.heap.size, i, none⟩ (.int .u8 V)).drew) = W5 at *
        have cG2 := HGc.out W5
        go_wp2_with fail
        refine cG2.mono ?_
        rintro e w6 ⟨rfl, hb6⟩
        have HB6 : Hid (Below w.heap.size w w6) := Lib.hid (HB5.out.trans (hb6.mono HB5.out.size))
        have cPa := HPa.out w6 (by omega) HB6.out
        clear hb6 cG2
        go_wp2_with fail
        refine cPa.mono ?_
        rintro e w7 ⟨rfl, hb7⟩
        have HB7 : Hid (Below w.heap.size w w7) := Lib.hid (HB6.out.trans (hb7.mono HB6.out.size))
        have cPc := HPc.out w7 (by omega) HB7.out
        clear hb7 cPa
        go_wp2_with fail
        refine cPc.mono ?_
        rintro e w8 ⟨rfl, hb8⟩
        have HB8 : Hid (Below w.heap.size w w8) := Lib.hid (HB7.out.trans (hb8.mono HB7.out.size))
        clear hb8 cPc
        go_wp2
        go_ret
        exact ⟨rfl, HB8.out⟩
end Go.Proofs.YthfnnpjkponcjaaDoor
