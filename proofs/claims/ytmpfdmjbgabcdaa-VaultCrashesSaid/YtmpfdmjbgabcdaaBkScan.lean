/-
  A bank (stage 7): what stands in it.
-/
import Derived.Test.YtmpfdmjbgabcdaaBkRec
import Derived.Test.YtmpfdmjbgabcdaaR7Scan
namespace Go.Proofs.Ytmpfdmjbgabcdaa
open Go.RowKit Go.Sort
set_option linter.unusedVariables false

theorem open_nums {st : St} {fr sz : Int} (hg : Good st) (ho : openI st fr sz = 0) : ∃ F S : Nat, fr = F ∧ sz = S ∧ 1 ≤ S ∧ F + S ≤ st.now.length ∧ goneB st = false := by
  unfold openI at ho
  split at ho
  case isFalse hn => exact absurd ho hn
  rename_i hq
  obtain ⟨k, rfl, hk⟩ := ask_zero hq
  split at ho
  · cases ho
  rename_i hsz
  refine ⟨k, sz.toNat, rfl, by omega, by omega, by omega, ?_⟩
  unfold askI at hq
  split at hq
  · cases hq
  rename_i hg2
  unfold goneB
  exact Bool.eq_false_iff.2 hg2
/-- A bank's frames, its head first. -/
def bankL (st : St) (F S : Nat) : List ByteArray := (st.now.drop F).take S
theorem bankL_length {st : St} {F S : Nat} (h : F + S ≤ st.now.length) : (bankL st F S).length = S := by
  unfold bankL
  rw [List.length_take, List.length_drop]
  omega
theorem bankL_size {st : St} {F S : Nat} (hg : Good st) : ∀ x ∈ bankL st F S, x.size = 64 := fun x hx => hg.szn x (List.mem_of_mem_drop (List.mem_of_mem_take hx))
theorem own_base {B B' : Nat} {w : World} {T : TypeId} {n s : Nat} {v : Value} {xs : List Value} (h : w.ownsRow B T s v n xs) (hB : B' ≤ B) : w.ownsRow B' T s v n xs := by
  refine ⟨h.1, ?_⟩
  rcases h.2 with hn | ⟨g, cap, cur, hv, hg, r⟩
  · exact Or.inl hn
  · exact Or.inr ⟨g, cap, cur, hv, Nat.le_trans hB hg, r⟩
set_option maxHeartbeats 8000000 in
set_option maxRecDepth 100000 in
theorem scan_ok (B b : Nat) (st : St) (F S : Nat) (w : World) (h : Dev B w b st) (hg : Good st) (hgo : goneB st = false) (ho : openI st F S = 0) (hS : F + S ≤ st.now.length) :
    Calls Try.prog 70 #[.pointer (some ⟨b, 0, none⟩), .int .i64 F, .int .i64 S] w fun e w' => ∃ u, e = .returned (.tuple #[u, .int .i64 ((1 + (layB (scanB ((bytesL (bankL st F S)).drop 1))).length : Nat) : Int), .int .i64 0]) ∧ w'.ownsRow w.heap.size 9 1 u (scanB ((bytesL (bankL st F S)).drop 1)).length (frV (scanB ((bytesL (bankL st F S)).drop 1))) ∧ Below w.heap.size w w' := by
  obtain ⟨i0, hi0, hz0, hz1, hz2⟩ := info_parts Try.infoStr7
  have hf := hg.few
  have hS4 : S ≤ 4096 := by omega
  obtain ⟨l, hl⟩ : ∃ l, bankL st F S = l := ⟨_, rfl⟩
  have hll : l.length = S := by rw [← hl]; exact bankL_length hS
  rw [hl]
  obtain ⟨L, hL0⟩ : ∃ L, scanB ((bytesL l).drop 1) = L := ⟨_, rfl⟩
  rw [hL0]
  obtain ⟨T, hT0⟩ : ∃ T, 1 + (layB L).length = T := ⟨_, rfl⟩
  rw [hT0]
  have cO := open_ok B b st F S w h hg ho
  have cR : Hid (∀ (p : Nat) W, p ≤ 100000 → Below w.heap.size w W → Calls Try.prog 74 #[.agg #[.pointer (some ⟨b, 0, none⟩), .int .i64 F, .int .i64 S], .int .i64 p] W fun e w' => e = .returned (.tuple #[.string ⟨(oneB ((bytesL l).drop p)).toArray⟩, .int .i64 0]) ∧ Below W.heap.size W w') := Lib.hid (fun p W hp hW => by
    have h1 := record_c B b st F S p W (h.below hW) hg hgo hS hp
    rw [show ((st.now.drop F).take S) = l from hl, bytesL_drop] at h1
    exact h1)
  have HT0 := Lib.hid hT0
  have HLL := Lib.hid hll
  clear hT0 h hg hgo ho hS hl hll
  go_enter Try.func70, Try.ntmps70
  go_wp2_with fail
  refine cO.mono ?_
  rintro e w1 ⟨rfl, hb1⟩
  have HB1 := Lib.hid hb1
  clear hb1 cO
  go_wp2
  obtain ⟨W0, hW0⟩ : ∃ W0, w1.alloc (.cells #[.pointer (some ⟨b, 0, none⟩), .int .i64 F, .int .i64 S] 105) = W0 := ⟨_, rfl⟩
  have HB0 : Hid (Below w.heap.size w W0) := Lib.hid (by rw [← hW0]; exact HB1.out.alloc HB1.out.size _)
  have HS0 : Hid (W0.heap.size = w1.heap.size + 1) := Lib.hid (by rw [← hW0]; simp)
  have HC0 : Hid (W0.heap[w1.heap.size]? = some (.cells #[.pointer (some ⟨b, 0, none⟩), .int .i64 F, .int .i64 S] 105 (0, 0))) := Lib.hid (by rw [← hW0]; exact heap_alloc_new _ _)
  have HBX : Hid (Below W0.heap.size W0 W0 ∧ W0.cell? ⟨w1.heap.size, 0, none⟩ = some (.pointer (some ⟨b, 0, none⟩)) ∧ W0.cell? ⟨w1.heap.size, 1, none⟩ = some (.int .i64 F) ∧ W0.cell? ⟨w1.heap.size, 2, none⟩ = some (.int .i64 S)) := Lib.hid ⟨Below.refl _ _, by rw [cell_of_row _ _ _ _ _ _ HC0.out]; rfl, by rw [cell_of_row _ _ _ _ _ _ HC0.out]; rfl, by rw [cell_of_row _ _ _ _ _ _ HC0.out]; rfl⟩
  have hgS : w1.heap.size < W0.heap.size := by rw [HS0.out]; omega
  have HBW : Hid (∀ W, Below W0.heap.size W0 W → Below w.heap.size w W) := Lib.hid (fun W hW => HB0.out.trans (hW.mono HB0.out.size))
  rw [hW0]
  clear hW0
  generalize w1.heap.size = g at *
  go_loopw [12, 11] (fun av ov wr => ∃ (p : Nat) (out : List (List UInt8)), av = .int .i64 p ∧ p ≤ S + 1 ∧ out.length < p ∧ p = 1 + (layB out).length ∧ out ++ scanB ((bytesL l).drop p) = L ∧ (∃ o, o = ov ∧ wr.ownsRow W0.heap.size 9 1 o out.length (frV out)) ∧ Below W0.heap.size W0 wr) (fun av _ _ => S + 1 - (intOf av).toNat)
  case atStart => exact ⟨1, [], rfl, by omega, by simp, rfl, hL0, ⟨_, rfl, rfl, Or.inl ⟨rfl, rfl⟩⟩, Below.refl _ _⟩
  case round =>
    obtain ⟨p, out, rfl, hp, hop, hpl, hs, ⟨ov, rfl, hown⟩, hb⟩ := hrel
    have HSC := Lib.hid hs
    have HP := Lib.hid hpl
    have HO := Lib.hid hown
    have HB := Lib.hid hb
    obtain ⟨_, k0, k1, k2⟩ := box_step hgS HBX.out hb
    clear hs hown hb hpl
    go_wp2_with fail
    refine (cR.out p _ (by omega) (HBW.out _ HB.out)).mono ?_
    rintro e w2 ⟨rfl, hb2⟩
    have hown1 := HO.out.kept (grown_of_belowB hb2 none) (by cases h : ov.ownBlock with | none => exact Or.inl rfl | some x => exact Or.inr (by simp))
    have HO1 := Lib.hid hown1
    have HB2 : Hid (Below W0.heap.size W0 w2) := Lib.hid (HB.out.trans (hb2.mono HB.out.size))
    clear hown1 hb2 k0 k1 k2
    obtain ⟨R, hR⟩ : ∃ R, oneB ((bytesL l).drop p) = R := ⟨_, rfl⟩
    rw [hR]
    have HRD := Lib.hid hR
    clear hR
    by_cases hR : R = []
    · subst hR
      have HE : Hid (L = out) := Lib.hid (by rw [← HSC.out, scanB_stop (Or.inr HRD.out), List.append_nil])
      have HTp : Hid (p = T) := Lib.hid (by rw [← HT0.out, HE.out]; exact HP.out)
      have HOW : Hid (w2.ownsRow w.heap.size 9 1 ov out.length (frV out)) := Lib.hid (own_base HO1.out HB0.out.size)
      have HBE := Lib.hid (HBW.out _ HB2.out)
      go_wp2
      go_ret3
      exact ⟨_, by rw [← HTp.out]; rfl, by rw [HE.out]; exact HOW.out, HBE.out⟩
    · have HRN := Lib.hid hR
      have hlen : (bytesL l).length = S := by unfold bytesL; rw [List.length_map, HLL.out]
      have hone : oneB ((bytesL l).drop p) ≠ [] := by rw [HRD.out]; exact hR
      have hpS : p < S := by
        rcases Nat.lt_or_ge p S with h9 | h9
        · exact h9
        · exact absurd (by rw [List.drop_eq_nil_of_le (by omega)]; exact oneB_nil) hone
      have hdl : ((bytesL l).drop p).length = S - p := by rw [List.length_drop, hlen]
      obtain ⟨q, hq⟩ : ∃ q, (cutB R).length = q := ⟨_, rfl⟩
      have hqn : q ≤ S - p := by rw [← hq, ← hdl, ← HRD.out]; exact oneB_le hone
      have hq1 : 1 ≤ q := by rw [← hq, cutB_cons hR, List.length_cons]; omega
      have hRs : R.length ≤ 60000 := (oneB_some HRD.out hR).1
      have HNX : Hid ((out ++ [R]) ++ scanB ((bytesL l).drop (p + q)) = L) := Lib.hid (by
        rw [← HSC.out, scanB_next hone (fun e => by rw [e] at hdl; simp at hdl; omega), HRD.out, hq, List.drop_drop, List.append_assoc]
        rfl)
      have HPQ : Hid (p + q = 1 + (layB (out ++ [R])).length) := Lib.hid (by
        unfold layB
        rw [List.flatMap_append, List.length_append]
        have h1 := HP.out
        unfold layB at h1
        simp only [List.flatMap_cons, List.flatMap_nil, List.append_nil]
        rw [hq]
        omega)
      have hne : R.isEmpty = false := by
        cases R with
        | nil => exact absurd rfl hR
        | cons a b => rfl
      have hcl := cutB_length R
      rw [hq] at hcl
      obtain ⟨m, hm⟩ : ∃ m, R.length = m := ⟨_, rfl⟩
      rw [hm] at hcl hRs
      have hsz : (⟨R.toArray⟩ : ByteArray).size = m := by show R.toArray.size = m; rw [List.size_toArray]; exact hm
      have cF := fun W => frames_n (m : Int) W (by omega)
      rw [framesI_nat, ← hcl] at cF
      have HA3 : Hid ((w2.alloc (.cells #[.string ⟨R.toArray⟩] 9)).ownsRow W0.heap.size 9 1 ov out.length (frV out)) := Lib.hid (HO1.out.alloc _)
      have hpq : IntKind.i64.wrap ((p : Int) + (q : Int)) = (p : Int) + (q : Int) := by rw [IntKind.wrap_i64]; omega
      clear hdl hone hq hcl
      go_wp2_with (at_builtin; refine wpList_append_own _ rfl _ _ 39 rfl W0.heap.size 9 i0 (.string ⟨#[]⟩) 1 16 Try.underlying39 hi0 hz0 hz1 hz2 rfl (by decide) _ _ _ rfl HA3.out ⟨w2.heap.size, 0, none⟩ 1 1 [.string ⟨R.toArray⟩] rfl rfl ?c1 ?c2 ?c3 ?c4 ?c5 ?_)
      case c1 =>
        intro j u hj
        match j, hj with
        | 0, hj => simp at hj; subst hj; simp [Addr.add]
      case c2 => intro u hu; simp at hu; subst hu; rfl
      case c3 => unfold maxLen; omega
      case c4 => omega
      case c5 => have h1 := HB2.out.size; simp; omega
      intro v' w3 hown' hgrow _
      have HO3 := Lib.hid hown'
      have HB3 : Hid (Below W0.heap.size W0 w3) := Lib.hid ((HB2.out.alloc HB2.out.size _).grown hgrow (by have := HB2.out.size; simp; omega) (fun j hj => (HO1.out.lt j hj).1))
      clear hown' hgrow
      go_wp2_with fail
      refine (cF _).mono ?_
      rintro e w4 ⟨rfl, rfl⟩
      go_wp2
      go_roundw
      case rel => exact ⟨p + q, out ++ [R], by go_num, by omega, by simp; omega, HPQ.out, HNX.out, ⟨_, rfl, by simpa [frV] using HO3.out⟩, HB3.out⟩
      case measure => simp [intOf]; omega
set_option maxHeartbeats 2000000 in
theorem scan_no (B b : Nat) (st : St) (fr sz q : Int) (w : World) (h : Dev B w b st) (hg : Good st) (ho : openI st fr sz = q) (hne : q ≠ 0) :
    Calls Try.prog 70 #[.pointer (some ⟨b, 0, none⟩), .int .i64 fr, .int .i64 sz] w fun e w' => e = .returned (.tuple #[.slice none 0 0, .int .i64 0, .int .i64 q]) ∧ Below w.heap.size w w' := by
  have cO := open_no B b st fr sz q w h hg ho hne
  have hne2 : (q == 0) = false := by simpa using hne
  clear h hg ho hne
  go_enter Try.func70, Try.ntmps70
  go_wp2_with fail
  refine cO.mono ?_
  rintro e w1 ⟨rfl, hb1⟩
  have HB1 : Hid (Below w.heap.size w (w1.alloc (.cells #[.pointer none, .int .i64 0, .int .i64 0] 105))) := Lib.hid (hb1.alloc hb1.size _)
  clear hb1 cO
  go_wp2
  go_ret3
  exact ⟨rfl, HB1.out⟩
end Go.Proofs.Ytmpfdmjbgabcdaa
