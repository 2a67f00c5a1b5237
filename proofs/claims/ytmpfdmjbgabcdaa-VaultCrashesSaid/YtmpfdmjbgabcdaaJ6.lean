/-
  A vault (stage 8): Format, where power isn't limited.
  A vault (stage 8): Format, whole, where power isn't limited.
  Prepared for stage 8: a list of calls: what its memory holds; of what size they are.
  A vault (stage 8): a vault that is opened anew; the law's awake and begun.
-/
import Derived.Test.YtmpfdmjbgabcdaaJ4
import Derived.Test.YtmpfdmjbgabcdaaJ5
import Derived.Test.YtmpfdmjbgabcdaaJ1
namespace Go.Proofs.Ytmpfdmjbgabcdaa
open Go.RowKit Go.Sort
set_option linter.unusedVariables false

def fmKs (b fb sb : Nat) (s : ByteArray) : List (Nat × Value) := [(35, .pointer (some ⟨fb, 0, none⟩)), (36, .agg #[.pointer (some ⟨fb, 0, none⟩), .string s]), (38, .pointer (some ⟨fb, 0, none⟩)), (38, .pointer (some ⟨sb, 0, none⟩)), (34, .pointer (some ⟨b, 0, none⟩)), (39, .pointer (some ⟨fb, 0, none⟩)), (39, .pointer (some ⟨sb, 0, none⟩)), (31, .agg #[.pointer (some ⟨fb, 0, none⟩), .string s]), (34, .pointer (some ⟨b, 0, none⟩)), (40, .pointer (some ⟨fb, 0, none⟩)), (34, .pointer (some ⟨b, 0, none⟩))]
def FmX (B b n h : Nat) (st : St) (s : ByteArray) (q : Int) (W : World) : Prop :=
  (n < 4 ∧ q = 1 ∧ Dev B W b st) ∨ (4 ≤ n ∧ q ≠ 0 ∧ fitsI h 1 s = q ∧ Dev B W b st) ∨ (4 ≤ n ∧ q = 0 ∧ fitsI h 1 s = 0 ∧ ∃ st', Dev B W b st' ∧ LiveS n h false 1 (1 + (s.size + 61) / 62) s [] [s] [] false st' ∧ st'.pend = [])
theorem set_far {W : World} {hb : Nat} {T : TypeId} {b F S A E : Nat} {R : List Value} {k j : Nat} {x : Value} (h : HalfAt W hb T b F S A E R) (hne : hb ≠ k) : HalfAt (W.setCell ⟨k, j, none⟩ x) hb T b F S A E R := by
  unfold HalfAt
  rw [heap_setCell_other W ⟨k, j, none⟩ hb _ hne]
  exact h
theorem FmI.fm {n h : Nat} {s : ByteArray} {i : Nat} {st : St} (hi : i ≤ 10) (h0 : FmI n h s i st) : ∃ p, p ≤ 300 ∧ FmS n p st := by
  rcases i with _ | _ | _ | _ | _ | _ | _ | _ | _ | _ | _ | i
  · exact ⟨_, by omega, h0⟩
  · exact ⟨_, by omega, h0⟩
  · exact ⟨_, by omega, h0⟩
  · exact ⟨_, by omega, h0⟩
  · exact ⟨_, by omega, h0.1⟩
  · exact ⟨_, by omega, h0.1⟩
  · exact ⟨_, by omega, h0.1⟩
  · exact ⟨_, by omega, h0.1⟩
  · exact ⟨_, by omega, h0.1⟩
  · exact ⟨_, by omega, h0.1⟩
  · exact ⟨_, by omega, h0.1⟩
  · omega
set_option maxHeartbeats 8000000 in
theorem format_do {B b fb sb n h g : Nat} {st : St} {W : World} (s : ByteArray) (hd : Dev B W b st) (hF : FmS n 0 st) (hh : n / 2 = h) (hn2 : n ≤ 200) (hs : s.size ≤ 1000000) (hB : B ≤ W.heap.size)
    (hf : HalfAt W fb 68 b 0 h 1 1 []) (hsb : HalfAt W sb 68 b h h 1 0 []) (hne : fb ≠ sb) (hfB : B ≤ fb) (hg : StepsAt W g (fmKs b fb sb s)) :
    Calls Try.prog 43 #[.slice (some ⟨g, 0, none⟩) (11 : Nat) (11 : Nat)] W fun e w' => ∃ q : Int, e = .returned (.int .i64 q) ∧ Below B W w' ∧ Off vaTs W w' ∧ FmX B b n h st s q w' := by
  have hTh : 68 ∉ devTs := by decide
  have keep : ∀ {W1 W2 : World} {T : TypeId} {hb' F' S' A' E' : Nat} {R' : List Value}, HalfAt W1 hb' T b F' S' A' E' R' → Off devTs W1 W2 → T ∈ [68, 70] → HalfAt W2 hb' T b F' S' A' E' R' := fun h1 h2 h3 => HalfAt.base_off h1 h2 h3
  refine (inOrder_c g 11 (fmKs b fb sb s) W
    (fun i W' => Below B W W' ∧ Off vaTs W W' ∧ HalfAt W' fb 68 b 0 h (if i ≤ 7 then 1 else 1 + (s.size + 61) / 62) 1 [] ∧ HalfAt W' sb 68 b h h 1 0 [] ∧ (1 ≤ i → 4 ≤ n) ∧ (2 ≤ i → fitsI h 1 s = 0) ∧ ∃ st', Dev B W' b st' ∧ FmI n h s i st' ∧ (i ≤ 2 → st' = st))
    (fun q W' => Below B W W' ∧ Off vaTs W W' ∧ FmX B b n h st s q W')
    rfl (by decide) ?_ ⟨Below.refl _ _, Off.refl _ _, hf, hsb, by omega, by omega, st, hd, hF, fun _ => rfl⟩ ?_ ?_).mono ?_
  · intro k hk
    simp only [fmKs, List.mem_cons, List.mem_nil_iff, or_false] at hk
    rcases hk with rfl | rfl | rfl | rfl | rfl | rfl | rfl | rfl | rfl | rfl | rfl
    · exact call_stands
    · exact call_fits
    · exact call_shut
    · exact call_shut
    · exact call_flush
    · exact call_wipe
    · exact call_wipe
    · exact call_write
    · exact call_flush
    · exact call_sign
    · exact call_flush
  · rintro i W' ⟨_, ho, _⟩
    exact ho _ (by decide) _ _ _ hg
  · rintro i kk W' hk ⟨hb, ho, hf', hs', h4, hfit, st', hd', hi, hst⟩
    have hBW : B ≤ W'.heap.size := Nat.le_trans hB hb.size
    rcases i with _ | _ | _ | _ | _ | _ | _ | _ | _ | _ | _ | i
    · -- stands
      injection hk with hk
      subst hk
      have hst' := hst (by omega)
      subst hst'
      have hS : FmS n 0 st' := hi
      have hgo := free_gone hS.lim
      have hlen := hS.len
      refine (stands_c hf' hd' hS.good (by omega)).mono ?_
      rintro e w' ⟨rfl, hbb⟩
      refine ⟨_, rfl, ?_⟩
      by_cases hn4 : 4 ≤ n
      · have hq : standsI st' 0 h = 0 := by
          unfold standsI
          have := ask_ok (k := 0) hgo (by omega)
          rw [this, if_pos rfl, if_neg (by omega)]
        exact Or.inl ⟨hq, hb.trans (hbb.mono hBW), ho.trans (Off.ofBelow hbb _), HalfAt.below hf' hbb, HalfAt.below hs' hbb, fun _ => hn4, by omega, st', hd'.below hbb, hS, fun _ => rfl⟩
      · have hq : standsI st' 0 h = 1 := by
          unfold standsI
          by_cases hn0 : n = 0
          · have : askI st'.now.length st'.lim st'.left ((0 : Nat) : Int) = 1 := by
              unfold askI
              unfold goneB at hgo
              rw [hgo, if_neg (by simp), if_pos (by omega)]
            rw [this, if_neg (by decide)]
          · have := ask_ok (k := 0) hgo (by omega)
            rw [this, if_pos rfl, if_pos (by omega)]
        rw [hq]
        exact Or.inr ⟨by decide, hb.trans (hbb.mono hBW), ho.trans (Off.ofBelow hbb _), Or.inl ⟨by omega, rfl, hd'.below hbb⟩⟩
    · -- fits
      injection hk with hk
      subst hk
      have hst' := hst (by omega)
      subst hst'
      have hS : FmS n 0 st' := hi
      have hn4 := h4 (by omega)
      refine (fits_c s hf' (by omega) (by simp) (by omega)).mono ?_
      rintro e w' ⟨rfl, hbb⟩
      refine ⟨_, rfl, ?_⟩
      by_cases hq : fitsI h 1 s = 0
      · exact Or.inl ⟨hq, hb.trans (hbb.mono hBW), ho.trans (Off.ofBelow hbb _), HalfAt.below hf' hbb, HalfAt.below hs' hbb, fun _ => hn4, fun _ => hq, st', hd'.below hbb, hS, fun _ => rfl⟩
      · exact Or.inr ⟨hq, hb.trans (hbb.mono hBW), ho.trans (Off.ofBelow hbb _), Or.inr (Or.inl ⟨hn4, hq, rfl, hd'.below hbb⟩)⟩
    · -- shut
      injection hk with hk
      subst hk
      have hn4 := h4 (by omega)
      obtain ⟨f1, f2, f3⟩ := fits_ok (hfit (by omega))
      obtain ⟨p, hp, hS⟩ := FmI.fm (by omega) hi
      have hpz := hS.pnd
      have hlen := hS.len
      have hgo := free_gone hS.lim
      have hff : HalfAt W' fb 68 b 0 h 1 1 [] := hf'
      refine (shut_c (B := B) (Ps := fun q w1 => HdP B b st' 0 0 q w1 ∧ Below B W' w1 ∧ Off devTs W' w1) hff hTh (fun W2 hW2 => ?_)).mono ?_
      · refine (sethead_c (hd'.below hW2) hS.good (by omega) (by omega) (Nat.le_trans hBW hW2.size) (by decide)).mono ?_
        rintro e w' ⟨q, he, ⟨h1, h3, h4⟩, h5⟩
        exact ⟨q, he, ⟨h1, (hW2.mono hBW).trans h3, (Off.ofBelow hW2 _).trans h4⟩, h5⟩
      · rintro e w' ⟨q, rfl, hq, hbb, hoo⟩
        refine ⟨q, rfl, ?_⟩
        rcases hq with ⟨rfl, hgo', _⟩ | ⟨rfl, _, hd2⟩
        · rw [hgo] at hgo'; cases hgo'
        · exact Or.inl ⟨rfl, hb.trans hbb, ho.trans hoo.va, keep hf' hoo (by simp), keep hs' hoo (by simp), fun _ => hn4, fun _ => hfit (by omega), _, hd2, fm_shut1 hi (by omega) (by omega), by omega⟩
    · -- shut
      injection hk with hk
      subst hk
      have hn4 := h4 (by omega)
      obtain ⟨f1, f2, f3⟩ := fits_ok (hfit (by omega))
      obtain ⟨p, hp, hS⟩ := FmI.fm (by omega) hi
      have hpz := hS.pnd
      have hlen := hS.len
      have hgo := free_gone hS.lim
      have hff : HalfAt W' fb 68 b 0 h 1 1 [] := hf'
      refine (shut_c (B := B) (Ps := fun q w1 => HdP B b st' h 0 q w1 ∧ Below B W' w1 ∧ Off devTs W' w1) hs' hTh (fun W2 hW2 => ?_)).mono ?_
      · refine (sethead_c (hd'.below hW2) hS.good (by omega) (by omega) (Nat.le_trans hBW hW2.size) (by decide)).mono ?_
        rintro e w' ⟨q, he, ⟨h1, h3, h4⟩, h5⟩
        exact ⟨q, he, ⟨h1, (hW2.mono hBW).trans h3, (Off.ofBelow hW2 _).trans h4⟩, h5⟩
      · rintro e w' ⟨q, rfl, hq, hbb, hoo⟩
        refine ⟨q, rfl, ?_⟩
        rcases hq with ⟨rfl, hgo', _⟩ | ⟨rfl, _, hd2⟩
        · rw [hgo] at hgo'; cases hgo'
        · exact Or.inl ⟨rfl, hb.trans hbb, ho.trans hoo.va, keep hf' hoo (by simp), keep hs' hoo (by simp), fun _ => hn4, fun _ => hfit (by omega), _, hd2, fm_shut2 hi (by omega) (by omega), by omega⟩
    · -- flush
      injection hk with hk
      subst hk
      have hn4 := h4 (by omega)
      obtain ⟨f1, f2, f3⟩ := fits_ok (hfit (by omega))
      obtain ⟨p, hp, hS⟩ := FmI.fm (by omega) hi
      have hpz := hS.pnd
      have hlen := hS.len
      have hgo := free_gone hS.lim
      have hff : HalfAt W' fb 68 b 0 h _ 1 [] := hf'
      refine (flushq_c hd' hS.good (by omega) hBW).mono ?_
      rintro e w' ⟨q, rfl, hq, hbb, hoo⟩
      refine ⟨q, rfl, ?_⟩
      rcases hq with ⟨rfl, hgo', _⟩ | ⟨rfl, _, hd2⟩
      · rw [hgo] at hgo'; cases hgo'
      · exact Or.inl ⟨rfl, hb.trans hbb, ho.trans hoo.va, keep hf' hoo (by simp), keep hs' hoo (by simp), fun _ => hn4, fun _ => hfit (by omega), _, hd2, fm_flush1 hi, by omega⟩
    · -- wipe
      injection hk with hk
      subst hk
      have hn4 := h4 (by omega)
      obtain ⟨f1, f2, f3⟩ := fits_ok (hfit (by omega))
      obtain ⟨p, hp, hS⟩ := FmI.fm (by omega) hi
      have hpz := hS.pnd
      have hlen := hS.len
      have hgo := free_gone hS.lim
      have hff : HalfAt W' fb 68 b 0 h 1 1 [] := hf'
      refine (wipe_c (B := B) (Ps := fun q w1 => WpP B b st' 0 1 h q w1 ∧ Below B W' w1 ∧ Off devTs W' w1) hff hTh (fun W2 hW2 => ?_)).mono ?_
      · refine (wipeq_c (hd'.below hW2) hS.good (by omega) (by omega) (Nat.le_refl _) (by omega) (by omega) (Nat.le_trans hBW hW2.size)).mono ?_
        rintro e w' ⟨q, he, ⟨h1, h3, h4⟩, h5⟩
        exact ⟨q, he, ⟨h1, (hW2.mono hBW).trans h3, (Off.ofBelow hW2 _).trans h4⟩, h5⟩
      · rintro e w' ⟨q, rfl, hq, hbb, hoo⟩
        refine ⟨q, rfl, ?_⟩
        rcases hq with ⟨rfl, hgo', _⟩ | ⟨j, hj, hc, hr, hd2⟩
        · rw [hgo] at hgo'; cases hgo'
        · rcases hc with ⟨rfl, rfl⟩ | ⟨rfl, hgo'⟩
          · exact Or.inl ⟨rfl, hb.trans hbb, ho.trans hoo.va, keep hf' hoo (by simp), keep hs' hoo (by simp), fun _ => hn4, fun _ => hfit (by omega), _, hd2, fm_wipe1 hi (by omega) (by omega) hn2, by omega⟩
          · rw [free_gone (((wipes_any hS.good j (by omega) hr).2.1).trans hS.lim)] at hgo'; cases hgo'
    · -- wipe
      injection hk with hk
      subst hk
      have hn4 := h4 (by omega)
      obtain ⟨f1, f2, f3⟩ := fits_ok (hfit (by omega))
      obtain ⟨p, hp, hS⟩ := FmI.fm (by omega) hi
      have hpz := hS.pnd
      have hlen := hS.len
      have hgo := free_gone hS.lim
      have hff : HalfAt W' fb 68 b 0 h 1 1 [] := hf'
      refine (wipe_c (B := B) (Ps := fun q w1 => WpP B b st' h 1 h q w1 ∧ Below B W' w1 ∧ Off devTs W' w1) hs' hTh (fun W2 hW2 => ?_)).mono ?_
      · refine (wipeq_c (hd'.below hW2) hS.good (by omega) (by omega) (Nat.le_refl _) (by omega) (by omega) (Nat.le_trans hBW hW2.size)).mono ?_
        rintro e w' ⟨q, he, ⟨h1, h3, h4⟩, h5⟩
        exact ⟨q, he, ⟨h1, (hW2.mono hBW).trans h3, (Off.ofBelow hW2 _).trans h4⟩, h5⟩
      · rintro e w' ⟨q, rfl, hq, hbb, hoo⟩
        refine ⟨q, rfl, ?_⟩
        rcases hq with ⟨rfl, hgo', _⟩ | ⟨j, hj, hc, hr, hd2⟩
        · rw [hgo] at hgo'; cases hgo'
        · rcases hc with ⟨rfl, rfl⟩ | ⟨rfl, hgo'⟩
          · exact Or.inl ⟨rfl, hb.trans hbb, ho.trans hoo.va, keep hf' hoo (by simp), keep hs' hoo (by simp), fun _ => hn4, fun _ => hfit (by omega), _, hd2, fm_wipe2 hi (by omega) (by omega) hn2, by omega⟩
          · rw [free_gone (((wipes_any hS.good j (by omega) hr).2.1).trans hS.lim)] at hgo'; cases hgo'
    · -- write
      injection hk with hk
      subst hk
      have hn4 := h4 (by omega)
      obtain ⟨f1, f2, f3⟩ := fits_ok (hfit (by omega))
      obtain ⟨p, hp, hS⟩ := FmI.fm (by omega) hi
      have hpz := hS.pnd
      have hlen := hS.len
      have hgo := free_gone hS.lim
      have hff : HalfAt W' fb 68 b 0 h 1 1 [] := hf'
      have hfl := framesL_length s
      refine (ewrite_c s (Ps := fun x q w1 => WrP B b st' 0 1 h s x q w1 ∧ Below B W' w1 ∧ Off devTs W' w1) hff hTh (fun W2 hW2 => ?_)).mono ?_
      · refine (writeq_c (hd'.below hW2) hS.good (by omega) (by omega) (Nat.le_refl _) (by omega) (by omega) (by omega) (Nat.le_trans hBW hW2.size)).mono ?_
        rintro e w' ⟨x, q, he, ⟨h1, h3, h4⟩, h5⟩
        exact ⟨x, q, he, ⟨h1, (hW2.mono hBW).trans h3, (Off.ofBelow hW2 _).trans h4⟩, h5⟩
      · rintro e w' ⟨x, q, w1, rfl, ⟨hwr, hbb, hoo⟩, hn1, hq⟩
        refine ⟨q, rfl, ?_⟩
        rcases hwr with ⟨rfl, hgo', _⟩ | ⟨h1, h13, _, hft, _⟩ | ⟨hft, j, hj, hc, hr, hd2⟩
        · rw [hgo] at hgo'; cases hgo'
        · rw [hfit (by omega)] at hft
          exact absurd hft.symm h1
        · rcases hc with ⟨rfl, rfl, rfl⟩ | ⟨rfl, hgo'⟩
          · rcases hq with ⟨_, rfl⟩ | ⟨h1, _⟩
            · have htl : (framesL s).take ((s.size + 61) / 62) = framesL s := List.take_of_length_le (by rw [hfl]; exact Nat.le_refl _)
              rw [htl] at hd2
              have hset : Off vaTs w1 (w1.setCell ⟨fb, 3, none⟩ (.int .i64 ((1 + (s.size + 61) / 62 : Nat) : Int))) := va_set hn1 (by decide)
              exact Or.inl ⟨rfl, (hb.trans hbb).setCell (p := ⟨fb, 3, none⟩) hfB _, (ho.trans hoo.va).trans hset, hn1.setEnd _, set_far (keep hs' hoo (by simp)) (fun e => hne e.symm), fun _ => hn4, fun _ => hfit (by omega), _, hd2.vset hn1 (by simp), fm_write hi (by omega) (by omega) hn2 f3, by omega⟩
            · exact absurd rfl h1
          · have hlim := puts_lim hS.good (by rw [List.length_take, hfl]; omega) (fun f hf => framesL_size s f (List.mem_of_mem_take hf)) hr
            rw [free_gone (hlim.trans hS.lim)] at hgo'; cases hgo'
    · -- flush
      injection hk with hk
      subst hk
      have hn4 := h4 (by omega)
      obtain ⟨f1, f2, f3⟩ := fits_ok (hfit (by omega))
      obtain ⟨p, hp, hS⟩ := FmI.fm (by omega) hi
      have hpz := hS.pnd
      have hlen := hS.len
      have hgo := free_gone hS.lim
      have hff : HalfAt W' fb 68 b 0 h _ 1 [] := hf'
      refine (flushq_c hd' hS.good (by omega) hBW).mono ?_
      rintro e w' ⟨q, rfl, hq, hbb, hoo⟩
      refine ⟨q, rfl, ?_⟩
      rcases hq with ⟨rfl, hgo', _⟩ | ⟨rfl, _, hd2⟩
      · rw [hgo] at hgo'; cases hgo'
      · exact Or.inl ⟨rfl, hb.trans hbb, ho.trans hoo.va, keep hf' hoo (by simp), keep hs' hoo (by simp), fun _ => hn4, fun _ => hfit (by omega), _, hd2, fm_flush2 hi, by omega⟩
    · -- sign
      injection hk with hk
      subst hk
      have hn4 := h4 (by omega)
      obtain ⟨f1, f2, f3⟩ := fits_ok (hfit (by omega))
      obtain ⟨p, hp, hS⟩ := FmI.fm (by omega) hi
      have hpz := hS.pnd
      have hlen := hS.len
      have hgo := free_gone hS.lim
      have hff : HalfAt W' fb 68 b 0 h (1 + (s.size + 61) / 62) 1 [] := hf'
      refine (sign_c (B := B) (Ps := fun q w1 => HdP B b st' 0 1 q w1 ∧ Below B W' w1 ∧ Off devTs W' w1) hff hTh (fun W2 hW2 => ?_)).mono ?_
      · refine (sethead_c (hd'.below hW2) hS.good (by omega) (by omega) (Nat.le_trans hBW hW2.size) (by decide)).mono ?_
        rintro e w' ⟨q, he, ⟨h1, h3, h4⟩, h5⟩
        exact ⟨q, he, ⟨h1, (hW2.mono hBW).trans h3, (Off.ofBelow hW2 _).trans h4⟩, h5⟩
      · rintro e w' ⟨q, rfl, hq, hbb, hoo⟩
        refine ⟨q, rfl, ?_⟩
        rcases hq with ⟨rfl, hgo', _⟩ | ⟨rfl, _, hd2⟩
        · rw [hgo] at hgo'; cases hgo'
        · exact Or.inl ⟨rfl, hb.trans hbb, ho.trans hoo.va, keep hf' hoo (by simp), keep hs' hoo (by simp), fun _ => hn4, fun _ => hfit (by omega), _, hd2, fm_sign hi (by omega) (by omega) hn2, by omega⟩
    · -- flush
      injection hk with hk
      subst hk
      have hn4 := h4 (by omega)
      obtain ⟨f1, f2, f3⟩ := fits_ok (hfit (by omega))
      obtain ⟨p, hp, hS⟩ := FmI.fm (by omega) hi
      have hpz := hS.pnd
      have hlen := hS.len
      have hgo := free_gone hS.lim
      have hff : HalfAt W' fb 68 b 0 h _ 1 [] := hf'
      refine (flushq_c hd' hS.good (by omega) hBW).mono ?_
      rintro e w' ⟨q, rfl, hq, hbb, hoo⟩
      refine ⟨q, rfl, ?_⟩
      rcases hq with ⟨rfl, hgo', _⟩ | ⟨rfl, _, hd2⟩
      · rw [hgo] at hgo'; cases hgo'
      · exact Or.inl ⟨rfl, hb.trans hbb, ho.trans hoo.va, keep hf' hoo (by simp), keep hs' hoo (by simp), fun _ => hn4, fun _ => hfit (by omega), _, hd2, fm_flush3 hi (by omega) (by omega) hn2 f1 f2 f3, by omega⟩
    · cases hk
  · rintro e w' ⟨q, rfl, ⟨rfl, hb, ho, _, _, h4, hfit, st', hd', hi, _⟩ | ⟨_, hb, ho, hx⟩⟩
    · exact ⟨0, rfl, hb, ho, Or.inr (Or.inr ⟨h4 (by omega), rfl, hfit (by omega), st', hd', hi⟩)⟩
    · exact ⟨q, rfl, hb, ho, hx⟩
end Go.Proofs.Ytmpfdmjbgabcdaa

namespace Go.Proofs.Ytmpfdmjbgabcdaa
open Go.RowKit Go.Sort
set_option linter.unusedVariables false

theorem heap_alloc4_new (w : World) (A B C D : Obj) : ((((w.alloc A).alloc B).alloc C).alloc D).heap[w.heap.size + 1 + 1 + 1]? = some D := by
  have h := heap_alloc_new (((w.alloc A).alloc B).alloc C) D
  simpa using h
set_option maxHeartbeats 4000000 in
set_option maxRecDepth 100000 in
theorem format_c {B b n h : Nat} {st : St} {w : World} (s : ByteArray) (hd : Dev B w b st) (hF : FmS n 0 st) (hh : n / 2 = h) (hn2 : n ≤ 200) (hs : s.size ≤ 1000000) (hB : B ≤ w.heap.size) :
    Calls Try.prog 18 #[.pointer (some ⟨b, 0, none⟩), .string s] w fun e w' => ∃ q : Int, e = .returned (.int .i64 q) ∧ Below B w w' ∧ Off vaTs w w' ∧ FmX B b n h st s q w' := by
  have HD := Lib.hid hd
  have HF := Lib.hid hF
  obtain ⟨a, cap, hc⟩ := hd.nowCell
  rw [hF.len] at hc
  have cH := halves_c b n cap a w hc (by omega)
  rw [hh] at cH
  unfold hvV at cH
  have HH := Lib.hid hh
  have HBX := Lib.hid hB
  have HDO : Hid (∀ w1, Below w.heap.size w w1 → Calls Try.prog 43 #[.slice (some ⟨w1.heap.size + 1 + 1 + 1, 0, none⟩) (11 : Nat) (11 : Nat)] ((((w1.alloc (.cells #[.pointer (some ⟨b, 0, none⟩), .int .i64 0, .int .i64 h, .int .i64 1, .int .u64 1] 68)).alloc (.cells #[.pointer (some ⟨b, 0, none⟩), .int .i64 h, .int .i64 h, .int .i64 1, .int .u64 0] 68)).alloc (.cells #[.pointer (some ⟨w1.heap.size, 0, none⟩), .string s] 72)).alloc (.cells #[.func (.func 35) #[.pointer (some ⟨w1.heap.size, 0, none⟩)] #[], .func (.func 36) #[.agg #[.pointer (some ⟨w1.heap.size, 0, none⟩), .string s]] #[], .func (.func 38) #[.pointer (some ⟨w1.heap.size, 0, none⟩)] #[], .func (.func 38) #[.pointer (some ⟨w1.heap.size + 1, 0, none⟩)] #[], .func (.func 34) #[.pointer (some ⟨b, 0, none⟩)] #[], .func (.func 39) #[.pointer (some ⟨w1.heap.size, 0, none⟩)] #[], .func (.func 39) #[.pointer (some ⟨w1.heap.size + 1, 0, none⟩)] #[], .func (.func 31) #[.agg #[.pointer (some ⟨w1.heap.size, 0, none⟩), .string s]] #[], .func (.func 34) #[.pointer (some ⟨b, 0, none⟩)] #[], .func (.func 40) #[.pointer (some ⟨w1.heap.size, 0, none⟩)] #[], .func (.func 34) #[.pointer (some ⟨b, 0, none⟩)] #[]] 97)) fun e w' => ∃ q : Int, e = .returned (.int .i64 q) ∧ Below B w w' ∧ Off vaTs w w' ∧ FmX B b n h st s q w') := Lib.hid (fun w1 hb1 => by
    have hz := hb1.size
    have hB2 : Below w.heap.size w ((((w1.alloc (.cells #[.pointer (some ⟨b, 0, none⟩), .int .i64 0, .int .i64 h, .int .i64 1, .int .u64 1] 68)).alloc (.cells #[.pointer (some ⟨b, 0, none⟩), .int .i64 h, .int .i64 h, .int .i64 1, .int .u64 0] 68)).alloc (.cells #[.pointer (some ⟨w1.heap.size, 0, none⟩), .string s] 72)).alloc (.cells #[.func (.func 35) #[.pointer (some ⟨w1.heap.size, 0, none⟩)] #[], .func (.func 36) #[.agg #[.pointer (some ⟨w1.heap.size, 0, none⟩), .string s]] #[], .func (.func 38) #[.pointer (some ⟨w1.heap.size, 0, none⟩)] #[], .func (.func 38) #[.pointer (some ⟨w1.heap.size + 1, 0, none⟩)] #[], .func (.func 34) #[.pointer (some ⟨b, 0, none⟩)] #[], .func (.func 39) #[.pointer (some ⟨w1.heap.size, 0, none⟩)] #[], .func (.func 39) #[.pointer (some ⟨w1.heap.size + 1, 0, none⟩)] #[], .func (.func 31) #[.agg #[.pointer (some ⟨w1.heap.size, 0, none⟩), .string s]] #[], .func (.func 34) #[.pointer (some ⟨b, 0, none⟩)] #[], .func (.func 40) #[.pointer (some ⟨w1.heap.size, 0, none⟩)] #[], .func (.func 34) #[.pointer (some ⟨b, 0, none⟩)] #[]] 97)) := (((hb1.alloc hb1.size _).alloc (by simp <;> omega) _).alloc (by simp <;> omega) _).alloc (by simp <;> omega) _
    have h1 := format_do (B := B) (b := b) (n := n) (h := h) (st := st) (fb := w1.heap.size) (sb := w1.heap.size + 1) (g := w1.heap.size + 1 + 1 + 1) (W := (((w1.alloc (.cells #[.pointer (some ⟨b, 0, none⟩), .int .i64 0, .int .i64 h, .int .i64 1, .int .u64 1] 68)).alloc (.cells #[.pointer (some ⟨b, 0, none⟩), .int .i64 h, .int .i64 h, .int .i64 1, .int .u64 0] 68)).alloc (.cells #[.pointer (some ⟨w1.heap.size, 0, none⟩), .string s] 72)).alloc (.cells #[.func (.func 35) #[.pointer (some ⟨w1.heap.size, 0, none⟩)] #[], .func (.func 36) #[.agg #[.pointer (some ⟨w1.heap.size, 0, none⟩), .string s]] #[], .func (.func 38) #[.pointer (some ⟨w1.heap.size, 0, none⟩)] #[], .func (.func 38) #[.pointer (some ⟨w1.heap.size + 1, 0, none⟩)] #[], .func (.func 34) #[.pointer (some ⟨b, 0, none⟩)] #[], .func (.func 39) #[.pointer (some ⟨w1.heap.size, 0, none⟩)] #[], .func (.func 39) #[.pointer (some ⟨w1.heap.size + 1, 0, none⟩)] #[], .func (.func 31) #[.agg #[.pointer (some ⟨w1.heap.size, 0, none⟩), .string s]] #[], .func (.func 34) #[.pointer (some ⟨b, 0, none⟩)] #[], .func (.func 40) #[.pointer (some ⟨w1.heap.size, 0, none⟩)] #[], .func (.func 34) #[.pointer (some ⟨b, 0, none⟩)] #[]] 97)) s (hd.below hB2) hF hh hn2 hs (Nat.le_trans hB hB2.size) (by unfold HalfAt; rw [Below.heap_alloc _ _ _ (by simp <;> omega), Below.heap_alloc _ _ _ (by simp <;> omega), Below.heap_alloc _ _ _ (by simp)]; exact heap_alloc_new _ _) (by unfold HalfAt; rw [Below.heap_alloc _ _ _ (by simp <;> omega), Below.heap_alloc _ _ _ (by simp)]; exact heap_alloc2_new _ _ _) (by omega) (by omega) (heap_alloc4_new _ _ _ _ _)
    refine h1.mono ?_
    rintro e w' ⟨q, he, hb, ho, hx⟩
    exact ⟨q, he, (hB2.mono hB).trans hb, (Off.ofBelow hB2 _).trans ho, hx⟩)
  clear hd hF hc hh
  go_enter Try.func18, Try.ntmps18
  go_wp2_with fail
  refine cH.mono ?_
  rintro e w1 ⟨rfl, hb1⟩
  have HB1 := Lib.hid hb1
  clear hb1 cH
  go_wp2_with fail
  refine (HDO.out w1 HB1.out).mono ?_
  rintro e w3 ⟨q, rfl, hb3, ho3, hx⟩
  have HB3 := Lib.hid hb3
  have HO3 := Lib.hid ho3
  have HX := Lib.hid hx
  clear hb3 ho3 hx
  go_wp2
  go_ret
  exact ⟨q, rfl, HB3.out, HO3.out, HX.out⟩
end Go.Proofs.Ytmpfdmjbgabcdaa

namespace Go.Proofs.Ytmpfdmjbgabcdaa
open Go.RowKit Go.Sort
set_option linter.unusedVariables false

structure OpV where
  X : Int
  s : ByteArray
  cut : Bool
  N : Int
  crash : Bool
  kv : Value
  l : List Int
/-- The call o lies in block g from place p on. -/
structure OpIs (w : World) (g p : Nat) (o : OpV) : Prop where
  c0 : w.cell? ⟨g, p, none⟩ = some (.int .u8 o.X)
  c1 : w.cell? ⟨g, p + 1, none⟩ = some (.string o.s)
  c2 : w.cell? ⟨g, p + 2, none⟩ = some (.bool o.cut)
  c3 : w.cell? ⟨g, p + 3, none⟩ = some (.int .i64 o.N)
  c4 : w.cell? ⟨g, p + 4, none⟩ = some (.bool o.crash)
  c5 : w.cell? ⟨g, p + 5, none⟩ = some o.kv
  nums : NumsIs w o.kv o.l
structure OpOk (o : OpV) : Prop where
  x0 : 0 ≤ o.X
  x1 : o.X ≤ 255
  n0 : -9223372036854775808 ≤ o.N
  n1 : o.N ≤ 9223372036854775807
  s0 : o.s.size ≤ 9223372036854775807
  l0 : o.l.length ≤ 9223372036854775807
def OpsIs (w : World) (v : Value) (l : List OpV) : Prop :=
  (l = [] ∧ ∃ a cap, v = .slice a 0 cap) ∨
  (∃ g off cap, g < w.heap.size ∧ v = .slice (some ⟨g, off, none⟩) l.length cap ∧ ∀ j o, l[j]? = some o → OpIs w g (off + j * 6) o)
theorem OpIs.kept {w w' : World} {g p : Nat} {o : OpV} (h : OpIs w g p o) (hg : g < w.heap.size) (hb : Below w.heap.size w w') : OpIs w' g p o :=
  ⟨by rw [hb.cell (p := ⟨g, p, none⟩) hg]; exact h.c0, by rw [hb.cell (p := ⟨g, p + 1, none⟩) hg]; exact h.c1, by rw [hb.cell (p := ⟨g, p + 2, none⟩) hg]; exact h.c2, by rw [hb.cell (p := ⟨g, p + 3, none⟩) hg]; exact h.c3, by rw [hb.cell (p := ⟨g, p + 4, none⟩) hg]; exact h.c4, by rw [hb.cell (p := ⟨g, p + 5, none⟩) hg]; exact h.c5, h.nums.kept hb⟩
theorem OpsIs.kept {w w' : World} {v : Value} {l : List OpV} (h : OpsIs w v l) (hb : Below w.heap.size w w') : OpsIs w' v l := by
  rcases h with h | ⟨g, off, cap, hg, hv, hc⟩
  · exact Or.inl h
  · exact Or.inr ⟨g, off, cap, by have := hb.size; omega, hv, fun j o hj => (hc j o hj).kept hg hb⟩
theorem OpsIs.len {w : World} {v : Value} {l : List OpV} (h : OpsIs w v l) : ∃ a cap, v = .slice a l.length cap := by
  rcases h with ⟨rfl, a, cap, hv⟩ | ⟨g, off, cap, hg, hv, hc⟩
  · exact ⟨a, cap, hv⟩
  · exact ⟨_, cap, hv⟩
theorem OpsIs.at {w : World} {a : Option Addr} {n cap : Nat} {l : List OpV} (h : OpsIs w (.slice a n cap) l) {j : Nat} {o : OpV} (hj : l[j]? = some o) : ∃ g off, a = some ⟨g, off, none⟩ ∧ g < w.heap.size ∧ OpIs w g (off + j * 6) o := by
  rcases h with ⟨rfl, _⟩ | ⟨g, off, cap', hg, hv, hc⟩
  · cases hj
  · injection hv with h1 h2 h3
    exact ⟨g, off, h1, hg, hc j o hj⟩
/-- Calls of a size that is looked at. -/
def Few (l : List OpV) (k : Nat) : Prop := l.length ≤ k ∧ ∀ o ∈ l, o.s.size ≤ 400 ∧ o.l.length ≤ 100
theorem no_few {l : List OpV} {k : Nat} {b : Bool} (h : b = true ↔ Few l k) (hn : ¬ Few l k) : b = false := by
  cases b
  · rfl
  · exact absurd (h.1 rfl) hn
set_option maxHeartbeats 4000000 in
set_option maxRecDepth 100000 in
theorem few8_c (v : Value) (l : List OpV) (k : Nat) (w : World) (hv : OpsIs w v l) (hl : l.length ≤ 9223372036854775807) (hk : k ≤ 100) (b : Bool) (hb : b = true ↔ Few l k) :
    Calls Try.prog 8 #[v, .int .i64 k] w (fun e w' => e = .returned (.bool b) ∧ w = w') := by
  have HBF := Lib.hid hb
  clear hb
  obtain ⟨a, cap, rfl⟩ := hv.len
  obtain ⟨n, hn⟩ : ∃ n, l.length = n := ⟨_, rfl⟩
  have HV := Lib.hid hv
  have HN := Lib.hid hn
  rw [hn] at hl ⊢
  clear hv hn
  go_enter Try.func8, Try.ntmps8
  go_wp2
  go_loopw [5] (fun iv wr => ∃ i : Nat, i ≤ n ∧ i ≤ 100 ∧ iv = .int .i64 i ∧ (∀ o ∈ l.take i, o.s.size ≤ 400 ∧ o.l.length ≤ 100) ∧ wr = w) (fun iv _ => 101 - (intOf iv).toNat)
  case atStart => exact ⟨0, by omega, by omega, rfl, (by simp), rfl⟩
  case round =>
    obtain ⟨i, hi, hi3, rfl, hall, rfl⟩ := hrel
    have HALL := Lib.hid hall
    clear hall
    by_cases hin : i < n
    · have hiz : (i : Int) < (n : Int) := by omega
      by_cases hi300 : i < 100
      · have hi3z : (i : Int) < 100 := by omega
        obtain ⟨o, ho⟩ : ∃ o, l[i]? = some o := ⟨_, List.getElem?_eq_getElem (by rw [HN.out]; exact hin)⟩
        obtain ⟨g, off, rfl, hg, hop⟩ := HV.out.at ho
        obtain ⟨ak, ck, hk⟩ := hop.nums.len
        have c1 := hop.c1
        have c5 := hop.c5
        rw [hk] at c5
        have HTK : Hid (l.take (i + 1) = l.take i ++ [o]) := Lib.hid (take_snoc ho)
        have HMEM : Hid (o ∈ l) := Lib.hid (List.mem_of_getElem? ho)
        clear hop hk ho hg
        generalize hz : o.s.size = z at *
        generalize hy : o.l.length = y at *
        have HZ := Lib.hid hz
        have HY := Lib.hid hy
        obtain ⟨sx, hsx⟩ : ∃ sx, o.s = sx := ⟨_, rfl⟩
        rw [hsx] at c1 hz
        clear hsx hy
        by_cases hz2 : (400 : Int) < (z : Int)
        · obtain rfl := no_few HBF.out (fun h => by have := (h.2 o HMEM.out).1; have := HZ.out; omega)
          go_wp2
          go_ret
          exact ⟨rfl, rfl⟩
        · by_cases hy1 : (100 : Int) < (y : Int)
          · obtain rfl := no_few HBF.out (fun h => by have := (h.2 o HMEM.out).2; have := HY.out; omega)
            go_wp2
            go_ret
            exact ⟨rfl, rfl⟩
          · have HOK : Hid (∀ q ∈ l.take (i + 1), q.s.size ≤ 400 ∧ q.l.length ≤ 100) := Lib.hid (fun q hq => by
              rw [HTK.out] at hq
              rcases List.mem_append.1 hq with hq | hq
              · exact HALL.out q hq
              · rw [List.mem_singleton.1 hq, HZ.out, HY.out]; omega)
            go_wp2
            go_roundw
            case rel => exact ⟨i + 1, by omega, by omega, by first | rfl | go_num, HOK.out, by first | rfl | trivial⟩
            case measure => simp [intOf]; omega
      · have hi3z : ¬ ((i : Int) < 100) := by omega
        have hbig : ¬ ((n : Int) ≤ (k : Int)) := by omega
        have hbd : decide ((n : Int) ≤ (k : Int)) = false := decide_eq_false hbig
        obtain rfl := no_few HBF.out (fun h => by have := h.1; have := HN.out; omega)
        go_wp2
        go_ret
        exact ⟨rfl, rfl⟩
    · have hge : ¬ ((i : Int) < (n : Int)) := by omega
      have HTA : Hid (l.take i = l) := Lib.hid (List.take_of_length_le (by rw [HN.out]; omega))
      by_cases hnb : (n : Int) ≤ (k : Int)
      · obtain rfl : b = true := HBF.out.2 ⟨by rw [HN.out]; omega, by have := HALL.out; rwa [HTA.out] at this⟩
        go_wp2
        go_ret
        exact ⟨rfl, rfl⟩
      · have hbd : decide ((n : Int) ≤ (k : Int)) = false := decide_eq_false hnb
        obtain rfl := no_few HBF.out (fun h => by have := h.1; have := HN.out; omega)
        go_wp2
        go_ret
        exact ⟨rfl, rfl⟩
end Go.Proofs.Ytmpfdmjbgabcdaa

namespace Go.Proofs.Ytmpfdmjbgabcdaa
open Go.RowKit Go.Sort
set_option linter.unusedVariables false

theorem recs_mk (rs : List ByteArray) : (recs rs).map mkS = rs := by
  unfold recs bytesL
  rw [List.map_map]
  exact (List.map_congr_left fun s _ => rfl).trans (List.map_id _)
theorem recs_inj {a b : List ByteArray} (h : recs a = recs b) : a = b := by rw [← recs_mk a, h, recs_mk]
/-- A device on which what stands is known. -/
structure KnX (n h : Nat) (k : Bool) (E : Nat) (img : ByteArray) (rs : List ByteArray) (st : St) : Prop where
  good : Good st
  lim : st.lim = false
  len : st.now.length = n
  half : n / 2 = h
  h2 : 2 ≤ h
  n2 : n ≤ 200
  pnd : st.pend.length ≤ 500
  pick : pickX h st.now = k
  read : readX h st.now = recs (img :: rs)
  ep : epochI (st.now.getD (bkF h k) ⟨#[]⟩) = E
  oth : epochI (st.now.getD (bkF h (!k)) ⟨#[]⟩) < E
section
variable {B b vb n h : Nat} {k : Bool} {E A : Nat} {img fresh : ByteArray} {rs r1 r2 : List ByteArray} {st : St} {rv : Value} {w : World}
theorem LiveS.kn (hL : LiveS n h k E A img rs r1 r2 false st) (hh : n / 2 = h) : KnX n h k E img rs st := by
  have h1 := hL.pndh
  have h2 := hL.n2
  have h3 := hL.hn
  refine ⟨hL.good, hL.lim rfl, hL.len, hh, hL.h2, hL.n2, by omega, hL.now_.pick, ?_, hL.ep, hL.oth⟩
  unfold readX
  rw [hL.now_.pick]
  exact hL.hold.scan hL.sizes
theorem DeadS.kn (hD : DeadS n h k E r1 r2 fresh st) (l : List Int) (hh : n / 2 = h) (h2 : 2 ≤ h) (hn2 : n ≤ 200) (hs : ∀ s ∈ r1 ++ r2, 1 ≤ s.size ∧ s.size ≤ 60000) (hne : r1 ≠ []) :
    ∃ k' E' img' rs', KnX n h k' E' img' rs' (restartSt st l) ∧ E' ≤ E + 1 ∧ ((∃ y, y <+: r2 ∧ img' :: rs' = r1 ++ y) ∨ (fresh.size ≠ 0 ∧ img' = fresh ∧ rs' = [])) := by
  obtain ⟨g1, g2, g3, g4, g5⟩ := hD.restart l
  obtain ⟨k', E', img', rs', e1, e2, e3, e4, e5, e6⟩ := g5.read hs hne
  exact ⟨k', E', img', rs', ⟨g1, g2, g3, hh, h2, hn2, by rw [g4]; simp, e1, e2, e3, e4⟩, e5, e6⟩
def ReX (B b n h : Nat) (k : Bool) (E : Nat) (img : ByteArray) (rs : List ByteArray) (w : World) (e : Ending) (w' : World) : Prop :=
  ∃ vb rv st', e = .returned (.tuple #[.pointer (some ⟨vb, 0, none⟩), .int .i64 0]) ∧ Below B w w' ∧ (Off vaTs w w' ∧ OffB w.heap.size w w') ∧ w.heap.size ≤ vb ∧ RowAt w.heap.size w' rv rs ∧ LiveR B b vb n h k E (1 + (layB (recs (img :: rs))).length) img rs (img :: rs) [] false st' rv w' ∧ st'.pend = []
theorem reopen_c (hd : Dev B w b st) (hK : KnX n h k E img rs st) (hB : B ≤ w.heap.size) : Calls Try.prog 15 #[.pointer (some ⟨b, 0, none⟩)] w (ReX B b n h k E img rs w) := by
  have h2 := hK.h2
  have hh := hK.half
  refine (vopen_c hd hK.good hK.lim hK.len hK.half hK.n2 hK.pnd hB).mono ?_
  rintro e w' ⟨hb, ho, ⟨h4, _⟩ | ⟨_, hV, _⟩ | ⟨_, _, vb, A, img', rs', rv, rfl, hvb, hO⟩⟩
  · omega
  · have hE : epochI (st.now.getD (bkF h k) ⟨#[]⟩) ≠ 0 := by have := hK.oth; have := hK.ep; omega
    rw [isV_some hK.pick hE, hK.read] at hV
    cases hV
  · have hrd := hO.rd
    rw [hK.read] at hrd
    have hli := recs_inj hrd
    injection hli with e1 e2
    subst e1 e2
    have hOl := hO
    rw [hK.pick, hK.ep] at hOl
    obtain ⟨hAh, hL⟩ := open_live hK.good hK.lim hK.len hK.h2 (by omega) hK.n2 hK.pick hK.read hK.ep hK.oth hO.end_
    have hA := hO.end_
    subst hA
    exact ⟨vb, rv, _, rfl, hb, ho, hvb, hOl.row, ⟨hL, hOl.dev, hOl.vlt, hOl.row.base hB, Nat.le_trans hB hvb⟩, rfl⟩
theorem fmNew (n : Nat) (hn : n ≤ 200) : FmS n 0 (stNew n) := ⟨goodNew n (by omega), by simp [stNew], rfl, by simp [stNew]⟩
theorem fits_small {h : Nat} {s : ByteArray} (h1 : 1 ≤ s.size) (h2 : s.size ≤ 500) (hh : 10 ≤ h) : fitsI h 1 s = 0 := by
  unfold fitsI
  rw [if_neg (by omega), if_neg (by omega)]
end
set_option maxHeartbeats 4000000 in
set_option maxRecDepth 100000 in
theorem begun_c {B b n h : Nat} {w : World} (s : ByteArray) (hd : Dev B w b (stNew n)) (hh : n / 2 = h) (h2 : 2 ≤ h) (hn2 : n ≤ 200) (hs : s.size ≤ 1000000) (hfit : fitsI h 1 s = 0) (hB : B ≤ w.heap.size) :
    Calls Try.prog 10 #[.pointer (some ⟨b, 0, none⟩), .string s] w fun e w' => ∃ vb rv st', e = .returned (.pointer (some ⟨vb, 0, none⟩)) ∧ Below B w w' ∧ LiveR B b vb n h false 1 (1 + (s.size + 61) / 62) s [] [s] [] false st' rv w' ∧ st'.pend = [] := by
  have cF := format_c s hd (fmNew n hn2) hh hn2 hs hB
  have HH := Lib.hid hh
  have HFIT := Lib.hid hfit
  have HRE : Hid (∀ (W : World) st', Dev B W b st' → KnX n h false 1 s [] st' → B ≤ W.heap.size → Calls Try.prog 15 #[.pointer (some ⟨b, 0, none⟩)] W (ReX B b n h false 1 s [] W)) := Lib.hid (fun W st' h1 h2 h3 => reopen_c h1 h2 h3)
  have HLAY : Hid (1 + (layB (recs [s])).length = 1 + (s.size + 61) / 62) := Lib.hid (by rw [layB_one, cut_len])
  clear hd hfit hh
  go_enter Try.func10, Try.ntmps10
  go_wp2_with fail
  refine cF.mono ?_
  rintro e w1 ⟨q, rfl, hb1, ho1, hx⟩
  obtain ⟨rfl, st', hd', hl', hp'⟩ : q = 0 ∧ ∃ st', Dev B w1 b st' ∧ LiveS n h false 1 (1 + (s.size + 61) / 62) s [] [s] [] false st' ∧ st'.pend = [] := by
    rcases hx with ⟨h1, _⟩ | ⟨_, h1, h3, _⟩ | ⟨_, h1, _, h3⟩
    · have := HH.out; omega
    · rw [HFIT.out] at h3; exact absurd h3.symm h1
    · exact ⟨h1, h3⟩
  have HB1 := Lib.hid hb1
  have HD1 := Lib.hid hd'
  have HK1 := Lib.hid (hl'.kn HH.out)
  clear hx hd' hl' hp' hb1 ho1 cF
  go_wp2_with fail
  refine (HRE.out w1 st' HD1.out HK1.out (Nat.le_trans hB HB1.out.size)).mono ?_
  rintro e w2 ⟨vb, rv, st2, rfl, hb2, ho2, hvb, hrow, hL, hpe⟩
  have HB2 : Hid (Below B w w2) := Lib.hid (HB1.out.trans hb2)
  have HL2 := Lib.hid hL
  have HPE := Lib.hid hpe
  clear hb2 ho2 hvb hrow hL hpe
  go_wp2
  go_ret
  refine ⟨vb, rv, st2, rfl, HB2.out, ?_, HPE.out⟩
  have h1 := HL2.out
  rw [HLAY.out] at h1
  exact h1
set_option maxHeartbeats 4000000 in
set_option maxRecDepth 100000 in
theorem awake8_c (w : World) : Calls Try.prog 7 #[] w fun e w' => e = .returned (.bool true) ∧ Below w.heap.size w w' := by
  have cN := new_c 8 w
  unfold NewPost at cN
  rw [show sizeI 8 = 8 from rfl] at cN
  have HF : Hid (∀ b W, Dev w.heap.size W b (stNew 8) → w.heap.size ≤ W.heap.size → Calls Try.prog 18 #[.pointer (some ⟨b, 0, none⟩), .string ⟨#[105, 109, 97, 103, 101]⟩] W fun e w' => e = .returned (.int .i64 0) ∧ Below w.heap.size W w' ∧ ∃ st', Dev w.heap.size w' b st' ∧ KnX 8 4 false 1 ⟨#[105, 109, 97, 103, 101]⟩ [] st') := Lib.hid (fun b W hd hB => by
    refine (format_c (n := 8) (h := 4) ⟨#[105, 109, 97, 103, 101]⟩ hd (fmNew 8 (by decide)) rfl (by decide) (by decide) hB).mono ?_
    rintro e w' ⟨q, rfl, hb, _, hx⟩
    have hf : fitsI 4 1 ⟨#[105, 109, 97, 103, 101]⟩ = 0 := by decide
    rcases hx with ⟨h1, _⟩ | ⟨_, h1, h3, _⟩ | ⟨_, h1, _, st', h3, h4, _⟩
    · omega
    · rw [hf] at h3; exact absurd h3.symm h1
    · rw [h1]
      exact ⟨rfl, hb, st', h3, h4.kn rfl⟩)
  have HRE : Hid (∀ b (W : World) st', Dev w.heap.size W b st' → KnX 8 4 false 1 ⟨#[105, 109, 97, 103, 101]⟩ [] st' → w.heap.size ≤ W.heap.size → Calls Try.prog 15 #[.pointer (some ⟨b, 0, none⟩)] W fun e w' => ∃ vb rv, e = .returned (.tuple #[.pointer (some ⟨vb, 0, none⟩), .int .i64 0]) ∧ Below w.heap.size W w' ∧ VaultAt w' vb b 0 4 2 1 ⟨#[105, 109, 97, 103, 101]⟩ rv true) := Lib.hid (fun b W st' h1 h2 h3 => by
    refine (reopen_c h1 h2 h3).mono ?_
    rintro e w' ⟨vb, rv, st2, rfl, hb, _, _, _, hL, _⟩
    have hv := hL.vlt
    rw [layB_one, cut_len] at hv
    exact ⟨vb, rv, rfl, hb, hv⟩)
  go_enter Try.func7, Try.ntmps7
  go_wp2_with fail
  refine cN.mono ?_
  rintro e w1 ⟨b, rfl, hd, hb1, _⟩
  have HB1 := Lib.hid hb1
  have HD1 := Lib.hid hd
  clear hb1 hd cN
  go_wp2_with fail
  refine (HF.out b w1 HD1.out HB1.out.size).mono ?_
  rintro e w2 ⟨rfl, hb2, st', hd2, hk2⟩
  have HB2 : Hid (Below w.heap.size w w2) := Lib.hid (HB1.out.trans hb2)
  have HD2 := Lib.hid hd2
  have HK2 := Lib.hid hk2
  clear hb2 hd2 hk2
  go_wp2_with fail
  refine (HRE.out b w2 st' HD2.out HK2.out HB2.out.size).mono ?_
  rintro e w3 ⟨vb, rv, rfl, hb3, hv⟩
  have HB3 : Hid (Below w.heap.size w w3) := Lib.hid (HB2.out.trans hb3)
  have cI := image_c hv
  have cR := vroom_c hv (by decide) (by decide)
  clear hb3 hv
  go_wp2_with fail
  refine cI.mono ?_
  rintro e w4 ⟨rfl, rfl⟩
  go_wp2_with fail
  refine cR.mono ?_
  rintro e w4 ⟨rfl, hb4⟩
  have HB4 : Hid (Below w.heap.size w w4) := Lib.hid (HB3.out.trans (hb4.mono HB3.out.size))
  clear hb4 cI cR
  go_wp2
  go_ret
  exact ⟨rfl, HB4.out⟩
end Go.Proofs.Ytmpfdmjbgabcdaa
