/-
  The law BankScans: all sectors of a device; what stands behind a wiping.
-/
import Derived.Test.YtkmfblbkaihbdaaBkWrites
namespace Go.Proofs.Ytkmfblbkaihbdaa
open Go.RowKit Go.Sort
set_option linter.unusedVariables false

theorem owned_len' {w : World} {B n : Nat} {v : Value} {rs : List ByteArray} (h : w.ownsRow B 9 1 v n (rs.map Value.string)) (hn : rs.length = n) : StrsIs w v rs := by
  subst hn
  exact strs_owned h
set_option maxHeartbeats 4000000 in
set_option maxRecDepth 100000 in
theorem all_c (B b : Nat) (st : St) (n : Nat) (w : World) (h : Dev B w b st) (hg : Good st) (hl : st.lim = false) (hn : st.now.length = n) (h1 : 1 ≤ n) :
    Calls Try.prog 18 #[.pointer (some ⟨b, 0, none⟩), .int .i64 0, .int .i64 n] w fun e w' => ∃ g c, e = .returned (.slice (some ⟨g, 0, none⟩) n c) ∧ n ≤ c ∧ c ≤ maxLen ∧ StrsIs w' (.slice (some ⟨g, 0, none⟩) n c) st.now ∧ Below w.heap.size w w' := by
  obtain ⟨i0, hi0, hz0, hz1, hz2⟩ := info_parts Try.infoStr7
  have hf := hg.few
  have hn4 : n ≤ 4096 := by omega
  have cG : Hid (∀ (i : Nat) (x : ByteArray) W, st.now[i]? = some x → Below w.heap.size w W → Calls Try.prog 21 #[.pointer (some ⟨b, 0, none⟩), .int .i64 i] W fun e w' => W = w' ∧ e = .returned (.tuple #[.string x, .int .i64 0])) := Lib.hid (fun i x W hx hW => by
    have hi : i < st.now.length := (List.getElem?_eq_some_iff.1 hx).1
    have h9 := get_c B b st (i : Int) W (h.below hW) hg
    unfold GetPost at h9
    rw [ask_ok (free_gone hl) hi, if_pos rfl, Int.toNat_natCast, List.getD_eq_getElem?_getD, hx] at h9
    exact h9)
  have HSZ : Hid (∀ x ∈ st.now, x.size = 64) := Lib.hid hg.szn
  have HN := Lib.hid hn
  have hnz : IntKind.i64.wrap ((0 : Int) + (n : Int)) = (n : Int) := by rw [IntKind.wrap_i64]; omega
  have hnz2 : (0 : Int) + (n : Int) = (n : Int) := by omega
  have hnz3 : IntKind.i64.wrap (n : Int) = (n : Int) := by rw [IntKind.wrap_i64]; omega
  clear h hg hl hf hn
  generalize st.now = L at *
  go_enter Try.func18, Try.ntmps18
  go_wp2
  go_loopw [8, 7] (fun iv ov wr => ∃ i : Nat, iv = .int .i64 i ∧ i ≤ n ∧ (∃ o, o = ov ∧ wr.ownsRow w.heap.size 9 1 o i ((L.take i).map Value.string)) ∧ Below w.heap.size w wr) (fun iv _ _ => n - (intOf iv).toNat)
  case atStart => exact ⟨0, rfl, by omega, ⟨_, rfl, rfl, Or.inl ⟨rfl, rfl⟩⟩, Below.refl _ _⟩
  case round =>
    obtain ⟨i, rfl, hi, ⟨ov, rfl, hown⟩, hb⟩ := hrel
    have HO := Lib.hid hown
    have HB := Lib.hid hb
    clear hown hb
    by_cases hin : i < n
    · have hiz : (i : Int) < (n : Int) := by omega
      obtain ⟨x, hx⟩ : ∃ x, L[i]? = some x := ⟨_, List.getElem?_eq_getElem (by rw [HN.out]; exact hin)⟩
      have hxs : x.size = 64 := HSZ.out x (List.mem_of_getElem? hx)
      have hxb : ((x.size : Int) == 64) = true := by rw [hxs]; rfl
      have HX := Lib.hid hx
      clear hx
      have HA3 : Hid ((wr.alloc (.cells #[.string x] 9)).ownsRow w.heap.size 9 1 ov i ((L.take i).map Value.string)) := Lib.hid (HO.out.alloc _)
      go_wp2_with fail
      refine (cG.out i x wr HX.out HB.out).mono ?_
      rintro e w2 ⟨rfl, rfl⟩
      go_wp2_with (at_builtin; refine wpList_append_own _ rfl _ _ 25 rfl w.heap.size 9 i0 (.string ⟨#[]⟩) 1 16 Try.underlying25 hi0 hz0 hz1 hz2 rfl (by decide) _ _ _ rfl HA3.out ⟨wr.heap.size, 0, none⟩ 1 1 [.string x] rfl rfl ?c1 ?c2 ?c3 ?c4 ?c5 ?_)
      case c1 =>
        intro j u hj
        match j, hj with
        | 0, hj => simp at hj; subst hj; simp [Addr.add]
      case c2 => intro u hu; simp at hu; subst hu; rfl
      case c3 => unfold maxLen; omega
      case c4 => omega
      case c5 => have h1 := HB.out.size; simp; omega
      intro v' w3 hown' hgrow _
      have HO3 : Hid (w3.ownsRow w.heap.size 9 1 v' (i + 1) ((L.take (i + 1)).map Value.string)) := Lib.hid (by
        rw [List.take_add_one, HX.out, List.map_append, List.map_take]
        exact hown')
      have HB3 : Hid (Below w.heap.size w w3) := Lib.hid ((HB.out.alloc HB.out.size _).grown hgrow (by have := HB.out.size; simp; omega) (fun j hj => (HO.out.lt j hj).1))
      clear hown' hgrow
      go_wp2
      go_roundw
      case rel => exact ⟨i + 1, by first | rfl | go_num, by omega, ⟨_, rfl, HO3.out⟩, HB3.out⟩
      case measure => simp [intOf]; omega
    · have hiz : ¬ ((i : Int) < (n : Int)) := by omega
      have hin2 : i = n := by omega
      have HOE : Hid (wr.ownsRow w.heap.size 9 1 ov n (L.map Value.string)) := Lib.hid (by
        have h9 := HO.out
        rw [List.take_of_length_le (by rw [HN.out]; omega)] at h9
        rw [← hin2]
        exact h9)
      have HST := Lib.hid (owned_len' HOE.out HN.out)
      obtain ⟨g, cap, hv, hc1, hc2⟩ : ∃ g cap, ov = .slice (some ⟨g, 0, none⟩) n cap ∧ n ≤ cap ∧ cap ≤ maxLen := by
        rcases HOE.out.2 with ⟨_, h0⟩ | ⟨g, cap, cur, hv, _, _, h2, h3, _⟩
        · omega
        · exact ⟨g, cap, hv, h2, h3⟩
      subst hv
      clear hin2
      go_wp2
      go_ret
      exact ⟨g, cap, rfl, hc1, hc2, HST.out, HB.out⟩
/-! What stands behind a wiping. -/
theorem scan_split (l : List (List UInt8)) : ∃ t, l = layB (scanB l) ++ t := by
  induction h : l.length using Nat.strongRecOn generalizing l with
  | ind n ih =>
    by_cases h0 : l = [] ∨ oneB l = []
    · rw [scanB_stop h0]
      exact ⟨l, rfl⟩
    · have hl : l ≠ [] := fun e => h0 (Or.inl e)
      have ho : oneB l ≠ [] := fun e => h0 (Or.inr e)
      rw [scanB_next ho hl]
      obtain ⟨_, t, ht⟩ := oneB_some rfl ho
      have hc : 1 ≤ (cutB (oneB l)).length := by rw [cutB_cons ho, List.length_cons]; omega
      show ∃ t, l = (cutB (oneB l) ++ layB (scanB (l.drop (cutB (oneB l)).length))) ++ t
      generalize cutB (oneB l) = c at *
      have hd : l.drop c.length = t := by rw [← ht, List.drop_left]
      have hlen : 0 < l.length := List.length_pos_iff.2 hl
      obtain ⟨u, hu⟩ := ih t.length (by
        have := congrArg List.length ht
        rw [List.length_append] at this
        omega) t rfl
      refine ⟨u, ?_⟩
      rw [hd, List.append_assoc, ← hu, ht]
theorem scan_good (l : List (List UInt8)) : ∀ r ∈ scanB l, r ≠ [] ∧ r.length ≤ 60000 := by
  induction h : l.length using Nat.strongRecOn generalizing l with
  | ind n ih =>
    intro r hr
    by_cases h0 : l = [] ∨ oneB l = []
    · rw [scanB_stop h0] at hr; cases hr
    · have hl : l ≠ [] := fun e => h0 (Or.inl e)
      have ho : oneB l ≠ [] := fun e => h0 (Or.inr e)
      rw [scanB_next ho hl] at hr
      rcases List.mem_cons.1 hr with rfl | hr
      · exact ⟨ho, (oneB_some rfl ho).1⟩
      · have hc : 1 ≤ (cutB (oneB l)).length := by rw [cutB_cons ho, List.length_cons]; omega
        have hlen : 0 < l.length := List.length_pos_iff.2 hl
        exact ih _ (by rw [List.length_drop]; omega) _ rfl r hr
theorem scan_wiped (l : List (List UInt8)) (k : Nat) : scanB (l.take (layB (scanB l)).length ++ List.replicate k zeroF) = scanB l := by
  obtain ⟨t, ht⟩ := scan_split l
  have h1 : l.take (layB (scanB l)).length = layB (scanB l) := by
    conv => lhs; rw [show l.take (layB (scanB l)).length = (layB (scanB l) ++ t).take (layB (scanB l)).length by rw [← ht]]
    rw [List.take_left' rfl]
  rw [h1, scanB_lay _ _ (scan_good l) (zeros_all k), scanB_zeros, List.append_nil]
theorem scan_le (l : List (List UInt8)) : (layB (scanB l)).length ≤ l.length := by
  obtain ⟨t, ht⟩ := scan_split l
  have := congrArg List.length ht
  rw [List.length_append] at this
  omega
end Go.Proofs.Ytkmfblbkaihbdaa
