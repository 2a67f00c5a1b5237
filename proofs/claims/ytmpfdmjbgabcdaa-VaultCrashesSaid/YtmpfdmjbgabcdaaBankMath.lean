/-
  Records in frames (stage 7), plainly: a record's frames; the record at the beginning of frames; what stands in a bank; that of what is lost a beginning stands.
-/
import Derived.Lib.Hide
namespace Go.Proofs.Ytmpfdmjbgabcdaa
set_option linter.unusedVariables false

/-- One frame: how many bytes are left, and as many of them as go. -/
def frameB (r : List UInt8) : List UInt8 := UInt8.ofNat (r.length / 256) :: UInt8.ofNat (r.length % 256) :: (r.take 62 ++ List.replicate (62 - (r.take 62).length) 0)
theorem frameB_length (r : List UInt8) : (frameB r).length = 64 := by
  simp [frameB]
  omega
/-- A record's frames. -/
def cutB (r : List UInt8) : List (List UInt8) := if h : r = [] then [] else frameB r :: cutB (r.drop 62)
termination_by r.length
decreasing_by
  have := List.length_pos_iff.2 h
  simp
  omega
theorem cutB_nil : cutB [] = [] := by unfold cutB; rw [dif_pos rfl]
theorem cutB_cons {r : List UInt8} (h : r ≠ []) : cutB r = frameB r :: cutB (r.drop 62) := by
  conv => lhs; unfold cutB
  rw [dif_neg h]
theorem cutB_all (r : List UInt8) : ∀ f ∈ cutB r, f.length = 64 := by
  induction h : r.length using Nat.strongRecOn generalizing r with
  | ind n ih =>
    intro f hf
    by_cases h0 : r = []
    · rw [h0, cutB_nil] at hf; cases hf
    · rw [cutB_cons h0] at hf
      rcases List.mem_cons.1 hf with rfl | hf
      · exact frameB_length r
      · have := List.length_pos_iff.2 h0
        exact ih (r.drop 62).length (by simp; omega) _ rfl f hf
theorem cutB_length (r : List UInt8) : (cutB r).length = (r.length + 61) / 62 := by
  induction h : r.length using Nat.strongRecOn generalizing r with
  | ind n ih =>
    by_cases h0 : r = []
    · subst h0
      rw [cutB_nil]
      simp at h
      subst h
      rfl
    · have hp := List.length_pos_iff.2 h0
      rw [cutB_cons h0, List.length_cons, ih (r.drop 62).length (by simp; omega) _ rfl]
      simp
      omega
/-- The bytes of frames. -/
def gatherB (l : List (List UInt8)) : List UInt8 := l.flatMap (·.drop 2)
theorem gatherB_cut (r : List UInt8) (t : List (List UInt8)) : (gatherB (cutB r ++ t)).take r.length = r := by
  induction h : r.length using Nat.strongRecOn generalizing r with
  | ind n ih =>
    by_cases h0 : r = []
    · subst h0; simp at h; subst h; simp
    · have hp := List.length_pos_iff.2 h0
      rw [cutB_cons h0, List.cons_append]
      show ((frameB r).drop 2 ++ gatherB (cutB (r.drop 62) ++ t)).take n = r
      have hd : (frameB r).drop 2 = r.take 62 ++ List.replicate (62 - (r.take 62).length) 0 := rfl
      rw [hd]
      by_cases hs : r.length ≤ 62
      · rw [List.append_assoc, List.take_append, List.take_take]
        rw [List.length_take, Nat.min_eq_right hs]
        rw [show n - r.length = 0 by omega, List.take_zero, List.append_nil, List.take_of_length_le (by omega)]
      · have h62 : (r.take 62).length = 62 := by rw [List.length_take]; omega
        rw [h62, Nat.sub_self, List.replicate_zero, List.append_nil, List.take_append, h62]
        rw [List.take_of_length_le (by rw [h62]; omega)]
        have := ih (r.drop 62).length (by simp; omega) (r.drop 62) rfl
        rw [show n - 62 = (r.drop 62).length by simp; omega, this, List.take_append_drop]
theorem gatherB_length {l : List (List UInt8)} (h : ∀ f ∈ l, f.length = 64) : (gatherB l).length = 62 * l.length := by
  induction l with
  | nil => rfl
  | cons f l ih =>
    show (f.drop 2 ++ gatherB l).length = _
    rw [List.length_append, List.length_drop, h f (by simp), ih (fun g hg => h g (by simp [hg])), List.length_cons]
    omega
/-- How many bytes a frame says. -/
def saysB (f : List UInt8) : Nat := (f.getD 0 0).toNat * 256 + (f.getD 1 0).toNat
theorem saysB_frame {r : List UInt8} (h : r.length < 65536) : saysB (frameB r) = r.length := by
  unfold saysB frameB
  simp
  omega
/-- The record at the beginning of frames; none: no bytes. -/
def oneB (l : List (List UInt8)) : List UInt8 :=
  if saysB (l.headD []) > 60000 ∨ (gatherB l).length < saysB (l.headD []) then [] else
  if cutB ((gatherB l).take (saysB (l.headD []))) <+: l then (gatherB l).take (saysB (l.headD [])) else []
theorem oneB_cut {r : List UInt8} {l : List (List UInt8)} (h0 : r ≠ []) (h1 : r.length ≤ 60000) (h : cutB r <+: l) (hl : ∀ f ∈ l, f.length = 64) : oneB l = r := by
  obtain ⟨t, rfl⟩ := h
  have hh : saysB ((cutB r ++ t).headD []) = r.length := by
    rw [cutB_cons h0]
    exact saysB_frame (by omega)
  have hg := gatherB_cut r t
  have hlen : r.length ≤ (gatherB (cutB r ++ t)).length := by
    have := congrArg List.length hg
    rw [List.length_take] at this
    omega
  unfold oneB
  rw [hh, hg, if_neg (by omega), if_pos (List.prefix_append _ _)]
theorem oneB_some {r : List UInt8} {l : List (List UInt8)} (h : oneB l = r) (h0 : r ≠ []) : r.length ≤ 60000 ∧ cutB r <+: l := by
  unfold oneB at h
  split at h
  · exact absurd h.symm h0
  · rename_i hn
    split at h
    · rename_i hp
      subst h
      refine ⟨?_, hp⟩
      rw [List.length_take]
      omega
    · exact absurd h.symm h0
/-- What stands in frames, and how many of them it takes. -/
def scanB (l : List (List UInt8)) : List (List UInt8) := if h : l = [] ∨ oneB l = [] then [] else oneB l :: scanB (l.drop (cutB (oneB l)).length)
termination_by l.length
decreasing_by
  have h1 : oneB l ≠ [] := fun e => h (Or.inr e)
  have h2 : 0 < l.length := List.length_pos_iff.2 (fun e => h (Or.inl e))
  rw [cutB_cons h1]
  simp
  omega
theorem scanB_stop {l : List (List UInt8)} (h : l = [] ∨ oneB l = []) : scanB l = [] := by
  unfold scanB
  rw [dif_pos h]
theorem scanB_step {r : List UInt8} {t : List (List UInt8)} (h0 : r ≠ []) (h1 : r.length ≤ 60000) (ht : ∀ f ∈ t, f.length = 64) : scanB (cutB r ++ t) = r :: scanB t := by
  have ho : oneB (cutB r ++ t) = r := oneB_cut h0 h1 (List.prefix_append _ _) (fun f hf => by
    rcases List.mem_append.1 hf with hf | hf
    · exact cutB_all r f hf
    · exact ht f hf)
  have hne : cutB r ++ t ≠ [] := by rw [cutB_cons h0]; simp
  conv => lhs; unfold scanB
  rw [dif_neg (by
    rintro (e | e)
    · exact hne e
    · rw [ho] at e; exact h0 e), ho]
  congr 1
  rw [List.drop_left]
/-- The frames of records, one behind the other. -/
def layB (rs : List (List UInt8)) : List (List UInt8) := rs.flatMap cutB
theorem layB_all (rs : List (List UInt8)) : ∀ f ∈ layB rs, f.length = 64 := fun f hf => by
  obtain ⟨r, _, h⟩ := List.mem_flatMap.1 hf
  exact cutB_all r f h
theorem scanB_lay (rs : List (List UInt8)) (t : List (List UInt8)) (h : ∀ r ∈ rs, r ≠ [] ∧ r.length ≤ 60000) (ht : ∀ f ∈ t, f.length = 64) : scanB (layB rs ++ t) = rs ++ scanB t := by
  induction rs with
  | nil => rfl
  | cons r rs ih =>
    have hr := h r (by simp)
    show scanB ((cutB r ++ layB rs) ++ t) = _
    rw [List.append_assoc, scanB_step hr.1 hr.2 (fun f hf => by
      rcases List.mem_append.1 hf with hf | hf
      · exact layB_all rs f hf
      · exact ht f hf), ih (fun q hq => h q (by simp [hq]))]
    rfl
/-- A frame of noughts: none stands there. -/
def zeroF : List UInt8 := List.replicate 64 0
theorem oneB_zero (t : List (List UInt8)) : oneB (zeroF :: t) = [] := by
  unfold oneB
  have : saysB ((zeroF :: t).headD []) = 0 := by
    show saysB zeroF = 0
    decide +kernel
  rw [this]
  split
  · rfl
  · rw [List.take_zero, cutB_nil, if_pos (List.nil_prefix)]
theorem frame_not_zero {r : List UInt8} (h0 : r ≠ []) (h1 : r.length ≤ 60000) : frameB r ≠ zeroF := fun e => by
  have h2 := congrArg saysB e
  rw [saysB_frame (by omega)] at h2
  have h3 : saysB zeroF = 0 := by decide +kernel
  rw [h3] at h2
  exact h0 (List.eq_nil_of_length_eq_zero h2)
/-- Each frame is as it was written, or of noughts. -/
def LostF : List (List UInt8) → List (List UInt8) → Prop
  | [], [] => True
  | f :: fs, g :: gs => (g = f ∨ g = zeroF) ∧ LostF fs gs
  | _, _ => False
theorem LostF.length : ∀ {fs gs : List (List UInt8)}, LostF fs gs → gs.length = fs.length
  | [], [], _ => rfl
  | f :: fs, g :: gs, h => by rw [List.length_cons, List.length_cons, LostF.length h.2]
  | [], g :: gs, h => h.elim
  | f :: fs, [], h => h.elim
theorem LostF.split : ∀ (fs : List (List UInt8)) {fs' gs : List (List UInt8)}, LostF (fs ++ fs') gs → ∃ a b, gs = a ++ b ∧ LostF fs a ∧ LostF fs' b
  | [], fs', gs, h => ⟨[], gs, rfl, trivial, h⟩
  | f :: fs, fs', [], h => h.elim
  | f :: fs, fs', g :: gs, h => by
    obtain ⟨a, b, rfl, h1, h2⟩ := LostF.split fs h.2
    exact ⟨g :: a, b, rfl, ⟨h.1, h1⟩, h2⟩
theorem LostF.sizes : ∀ {fs gs : List (List UInt8)}, LostF fs gs → (∀ f ∈ fs, f.length = 64) → ∀ g ∈ gs, g.length = 64
  | [], [], _, _ => fun g hg => by cases hg
  | f :: fs, g :: gs, h, hf => fun x hx => by
    rcases List.mem_cons.1 hx with rfl | hx
    · rcases h.1 with e | e
      · rw [e]; exact hf f (by simp)
      · rw [e]; rfl
    · exact LostF.sizes h.2 (fun y hy => hf y (by simp [hy])) x hx
  | [], g :: gs, h, _ => h.elim
  | f :: fs, [], h, _ => h.elim
/-- A record of which a frame is lost isn't put together of what is left. -/
theorem lost_one : ∀ (r q : List UInt8) {a t : List (List UInt8)}, r.length ≤ 60000 → q.length = r.length → LostF (cutB r) a → cutB q <+: a ++ t → a = cutB r := by
  intro r
  induction h : r.length using Nat.strongRecOn generalizing r with
  | ind n ih =>
    intro q a t h1 hq hl hp
    by_cases h0 : r = []
    · subst h0
      rw [cutB_nil] at hl ⊢
      cases a with
      | nil => rfl
      | cons g gs => exact hl.elim
    · have hpos := List.length_pos_iff.2 h0
      have hq0 : q ≠ [] := fun e => by rw [e] at hq; simp at hq; omega
      rw [cutB_cons h0] at hl ⊢
      rw [cutB_cons hq0] at hp
      cases a with
      | nil => exact hl.elim
      | cons g gs =>
        rw [List.cons_append] at hp
        obtain ⟨hg, hp2⟩ := List.cons_prefix_cons.1 hp
        have hgf : g = frameB r := by
          rcases hl.1 with e | e
          · exact e
          · rw [e] at hg
            exact absurd hg (frame_not_zero hq0 (by omega))
        rw [hgf, ih (r.drop 62).length (by simp; omega) (r.drop 62) rfl (q.drop 62) (by simp; omega) (by simp; omega) hl.2 hp2]
/-- OF WHAT IS LOST A BEGINNING STANDS. -/
theorem lost_scan (rs : List (List UInt8)) : ∀ (a t : List (List UInt8)), (∀ r ∈ rs, r ≠ [] ∧ r.length ≤ 60000) → LostF (layB rs) a → (∀ f ∈ t, f = zeroF) → scanB (a ++ t) <+: rs := by
  induction rs with
  | nil =>
    intro a t _ hl ht
    have ha : a = [] := by
      cases a with
      | nil => rfl
      | cons g gs => exact hl.elim
    subst ha
    rw [List.nil_append, scanB_stop (by
      cases t with
      | nil => exact Or.inl rfl
      | cons g gs => rw [ht g (by simp)]; exact Or.inr (oneB_zero gs))]
    exact List.nil_prefix
  | cons r rs ih =>
    intro a t hr hl ht
    obtain ⟨h0, h1⟩ := hr r (by simp)
    obtain ⟨a1, a2, rfl, hl1, hl2⟩ := LostF.split (cutB r) (fs' := layB rs) hl
    have hs2 : ∀ f ∈ a2 ++ t, f.length = 64 := fun f hf => by
      rcases List.mem_append.1 hf with hf | hf
      · exact hl2.sizes (layB_all rs) f hf
      · rw [ht f hf]; rfl
    by_cases he : a1 = cutB r
    · subst he
      rw [List.append_assoc, scanB_step h0 h1 hs2]
      exact List.cons_prefix_cons.2 ⟨rfl, ih a2 t (fun q hq => hr q (by simp [hq])) hl2 ht⟩
    · rw [List.append_assoc, scanB_stop (Or.inr ?_)]
      · exact List.nil_prefix
      · apply Classical.byContradiction
        intro hne
        obtain ⟨hq1, hq2⟩ := oneB_some (l := a1 ++ (a2 ++ t)) rfl hne
        have hh : cutB r = frameB r :: cutB (r.drop 62) := cutB_cons h0
        rw [hh] at hl1
        cases a1 with
        | nil => exact hl1.elim
        | cons g gs =>
          rcases hl1.1 with e | e
          · generalize oneB ((g :: gs) ++ (a2 ++ t)) = q at *
            have hlen : q.length = r.length := by
              have hq3 := hq2
              rw [cutB_cons hne, List.cons_append] at hq3
              have hg := (List.cons_prefix_cons.1 hq3).1
              rw [e] at hg
              have h7 := congrArg saysB hg
              rw [saysB_frame (by omega), saysB_frame (by omega)] at h7
              exact h7
            exact he (lost_one r q h1 hlen (by rw [hh]; exact hl1) hq2)
          · rw [e, List.cons_append] at hne
            exact hne (oneB_zero _)
end Go.Proofs.Ytmpfdmjbgabcdaa
