/-
  The seventh reference's Scan: the records that stand in a bank's sectors.
-/
import Derived.Test.YtmpfdmjbgabcdaaR7One
namespace Go.Proofs.Ytmpfdmjbgabcdaa
open Go.RowKit Go.Sort
set_option linter.unusedVariables false

theorem grown_of_belowS {w w' : World} (hb : Below w.heap.size w w') (row : Option Nat) : w.grownBy w' row := ⟨hb.os, hb.tape, hb.output, hb.size, fun k hk _ => hb.block k hk⟩
theorem bytesL_drop (l : List ByteArray) (p : Nat) : bytesL (l.drop p) = (bytesL l).drop p := by
  unfold bytesL
  rw [List.map_drop]
theorem oneB_le {l : List (List UInt8)} (h : oneB l ≠ []) : (cutB (oneB l)).length ≤ l.length := (oneB_some rfl h).2.length_le
theorem scanB_next {l : List (List UInt8)} (h : oneB l ≠ []) (h0 : l ≠ []) : scanB l = oneB l :: scanB (l.drop (cutB (oneB l)).length) := by
  conv => lhs; unfold scanB
  rw [dif_neg (by rintro (e | e); exact h0 e; exact h e)]
set_option maxHeartbeats 8000000 in
set_option maxRecDepth 100000 in
theorem scan7_c (g1 o1 n c1 : Nat) (l : List ByteArray) (w : World) (hN : l.length = n) (hv : StrsIs w (.slice (some ⟨g1, o1, none⟩) n c1) l) (hl : ∀ x ∈ l, x.size = 64) (hn : n ≤ 2000) (hc : n ≤ c1) (hc2 : c1 ≤ maxLen) :
    Calls Try.prog 53 #[.slice (some ⟨g1, o1, none⟩) n c1] w fun e w' => ∃ u, e = .returned (.tuple #[u, .int .i64 ((1 + (layB (scanB ((bytesL l).drop 1))).length : Nat) : Int)]) ∧ w'.ownsRow w.heap.size 9 1 u (scanB ((bytesL l).drop 1)).length (frV (scanB ((bytesL l).drop 1))) ∧ Below w.heap.size w w' := by
  obtain ⟨i0, hi0, hz0, hz1, hz2⟩ := info_parts Try.infoStr7
  obtain ⟨L, hL0⟩ : ∃ L, scanB ((bytesL l).drop 1) = L := ⟨_, rfl⟩
  rw [hL0]
  obtain ⟨T, hT0⟩ : ∃ T, 1 + (layB L).length = T := ⟨_, rfl⟩
  rw [hT0]
  have HT0 := Lib.hid hT0
  clear hT0
  have HU := Lib.hid hv
  have HN := Lib.hid hN
  have HL := Lib.hid hl
  clear hv hN hl
  go_enter Try.func53, Try.ntmps53
  go_wp2
  go_loopw [5, 4] (fun av ov wr => ∃ (p : Nat) (out : List (List UInt8)), av = .int .i64 p ∧ p ≤ n + 1 ∧ out.length < p ∧ p = 1 + (layB out).length ∧ out ++ scanB ((bytesL l).drop p) = L ∧ (∃ o, o = ov ∧ wr.ownsRow w.heap.size 9 1 o out.length (frV out)) ∧ Below w.heap.size w wr) (fun av _ _ => n + 1 - (intOf av).toNat)
  case atStart => exact ⟨1, [], rfl, by omega, by simp, rfl, hL0, ⟨_, rfl, rfl, Or.inl ⟨rfl, rfl⟩⟩, Below.refl _ _⟩
  case round =>
    obtain ⟨p, out, rfl, hp, hop, hpl, hs, ⟨ov, rfl, hown⟩, hb⟩ := hrel
    have HS := Lib.hid hs
    have HP := Lib.hid hpl
    have HO := Lib.hid hown
    have HB := Lib.hid hb
    clear hs hown hb hpl
    by_cases hpn : p < n
    · have hpz : (p : Int) < (n : Int) := by omega
      have hpc : (p : Int) ≤ (n : Int) := by omega
      have hnc : (n : Int) ≤ (c1 : Int) := by omega
      have hp0 : (0 : Int) ≤ (p : Int) := by omega
      have HW : Hid (StrsIs wr (.slice (some ⟨g1, o1 + p, none⟩) (n - p) (c1 - p)) (l.drop p)) := Lib.hid (by
        rcases HU.out.kept HB.out with ⟨h, _⟩ | ⟨g, off, cap, hg, hv, hk⟩
        · have := HN.out; rw [h] at this; simp at this; omega
        · injection hv with e1 e2 e3
          injection e1 with e1
          injection e1 with e4 e5
          subst e4 e5
          exact Or.inr ⟨_, _, _, hg, by rw [List.length_drop, HN.out], fun j s hj => by
            rw [List.getElem?_drop] at hj
            rw [Nat.add_assoc]
            exact hk _ _ hj⟩)
      have HX : Hid (bytesL (l.drop p) = (bytesL l).drop p) := Lib.hid (bytesL_drop l p)
      have h1c := fun W hW => one7_c (.slice (some ⟨g1, o1 + p, none⟩) (n - p) (c1 - p)) (l.drop p) W hW (by intro h; have h1 := congrArg List.length h; rw [List.length_drop, HN.out] at h1; simp at h1; omega) (fun x hx => HL.out x (List.mem_of_mem_drop hx)) (by rw [List.length_drop, HN.out]; omega)
      go_wp2_with fail
      refine (h1c _ HW.out).mono ?_
      rintro e w1 ⟨rfl, hb1⟩
      rw [HX.out]
      have hown1 := HO.out.kept (grown_of_belowS hb1 none) (by cases h : ov.ownBlock with | none => exact Or.inl rfl | some x => exact Or.inr (by simp))
      have HO1 := Lib.hid hown1
      have HB1 : Hid (Below w.heap.size w w1) := Lib.hid (HB.out.trans (hb1.mono HB.out.size))
      clear hown1 hb1 h1c
      obtain ⟨R, hR⟩ : ∃ R, oneB ((bytesL l).drop p) = R := ⟨_, rfl⟩
      rw [hR]
      have HRD := Lib.hid hR
      clear hR
      by_cases hR : R = []
      · subst hR
        have HE : Hid (L = out) := Lib.hid (by rw [← HS.out, scanB_stop (Or.inr HRD.out), List.append_nil])
        have HTp : Hid (p = T) := Lib.hid (by rw [← HT0.out, HE.out]; exact HP.out)
        go_wp2
        go_ret2
        exact ⟨_, by rw [← HTp.out]; rfl, by rw [HE.out]; exact HO1.out, HB1.out⟩
      · have HRN := Lib.hid hR
        have hlen : (bytesL l).length = n := by unfold bytesL; rw [List.length_map, HN.out]
        have hone : oneB ((bytesL l).drop p) ≠ [] := by rw [HRD.out]; exact hR
        have hdl : ((bytesL l).drop p).length = n - p := by rw [List.length_drop, hlen]
        obtain ⟨q, hq⟩ : ∃ q, (cutB R).length = q := ⟨_, rfl⟩
        have hqn : q ≤ n - p := by rw [← hq, ← hdl, ← HRD.out]; exact oneB_le hone
        have hq1 : 1 ≤ q := by rw [← hq, cutB_cons hR, List.length_cons]; omega
        have hRs : R.length ≤ 60000 := (oneB_some HRD.out hR).1
        have HNX : Hid ((out ++ [R]) ++ scanB ((bytesL l).drop (p + q)) = L) := Lib.hid (by
          rw [← HS.out, scanB_next hone (fun e => by rw [e] at hdl; simp at hdl; omega), HRD.out, hq, List.drop_drop, List.append_assoc]
          rfl)
        have HPQ : Hid (p + q = 1 + (layB (out ++ [R])).length) := Lib.hid (by
          unfold layB
          rw [List.flatMap_append, List.length_append]
          have h1 := HP.out
          unfold layB at h1
          simp only [List.flatMap_cons, List.flatMap_nil, List.append_nil]
          rw [hq]
          omega)
        have HQ := Lib.hid hq
        have hne : R.isEmpty = false := by
          cases R with
          | nil => exact absurd rfl hR
          | cons a b => rfl
        have HA3 : Hid ((w1.alloc (.cells #[.string ⟨R.toArray⟩] 9)).ownsRow w.heap.size 9 1 ov out.length (frV out)) := Lib.hid (HO1.out.alloc _)
        have hcut := fun W => cut7_c ⟨R.toArray⟩ W (by show R.toArray.size ≤ _; rw [List.size_toArray]; omega)
        clear hdl hone hq
        go_wp2_with (at_builtin; refine wpList_append_own _ rfl _ _ 39 rfl w.heap.size 9 i0 (.string ⟨#[]⟩) 1 16 Try.underlying39 hi0 hz0 hz1 hz2 rfl (by decide) _ _ _ rfl HA3.out ⟨w1.heap.size, 0, none⟩ 1 1 [.string ⟨R.toArray⟩] rfl rfl ?c1 ?c2 ?c3 ?c4 ?c5 ?_)
        case c1 =>
          intro j u hj
          match j, hj with
          | 0, hj => simp at hj; subst hj; simp [Addr.add]
        case c2 => intro u hu; simp at hu; subst hu; rfl
        case c3 => unfold maxLen; omega
        case c4 => omega
        case c5 => have h1 := HB1.out.size; simp; omega
        intro v' w3 hown' hgrow _
        have HO3 := Lib.hid hown'
        have HB3 : Hid (Below w.heap.size w w3) := Lib.hid ((HB1.out.alloc HB1.out.size _).grown hgrow (by have := HB1.out.size; simp; omega) (fun j hj => (HO1.out.lt j hj).1))
        clear hown' hgrow
        go_wp2_with fail
        refine (hcut _).mono ?_
        rintro e w4 ⟨cv, rfl, hcown, hb4⟩
        have hcl := (strs_of_owns hcown).len
        have HO4 := Lib.hid (HO3.out.kept (grown_of_belowS hb4 none) (by cases h : v'.ownBlock with | none => exact Or.inl rfl | some x => exact Or.inr (by simp)))
        have HB4 : Hid (Below w.heap.size w w4) := Lib.hid (HB3.out.trans (hb4.mono HB3.out.size))
        clear hcown hb4 hcut
        obtain ⟨ca, cc, rfl⟩ := hcl
        rw [List.length_map, show (cutB (⟨R.toArray⟩ : ByteArray).data.toList).length = q from HQ.out]
        go_wp2
        go_roundw
        case rel => exact ⟨p + q, out ++ [R], by go_num, by omega, by simp; omega, HPQ.out, HNX.out, ⟨_, rfl, by simpa [frV] using HO4.out⟩, HB4.out⟩
        case measure => simp [intOf]; omega
    · have hpz : ¬ ((p : Int) < (n : Int)) := by omega
      have HE : Hid (L = out) := Lib.hid (by
        rw [← HS.out, List.drop_eq_nil_of_le (by unfold bytesL; rw [List.length_map, HN.out]; omega), scanB_stop (Or.inl rfl), List.append_nil])
      have HTp : Hid (p = T) := Lib.hid (by rw [← HT0.out, HE.out]; exact HP.out)
      go_wp2
      go_ret2
      exact ⟨_, by rw [← HTp.out]; rfl, by rw [HE.out]; exact HO.out, HB.out⟩
end Go.Proofs.Ytmpfdmjbgabcdaa
