/-
  The law BankLoses: what a bank holds behind records of which some are flushed, and behind a restart.
-/
import Derived.Test.YtmpfdmjbgabcdaaBkWrKit
namespace Go.Proofs.Ytmpfdmjbgabcdaa
open Go.RowKit Go.Sort
set_option linter.unusedVariables false

/-- The frames that are kept, noughts in the others' places. -/
def mixL (M : List Bool) : List ByteArray → Nat → List ByteArray
  | [], _ => []
  | f :: fs, j => (if M.getD j false = true then f else zero64) :: mixL M fs (j + 1)
theorem kept_mix (M : List Bool) : ∀ (fs : List ByteArray) (p j : Nat) (pre post : List ByteArray), pre.length = p → (((List.range' p fs.length).zip fs).zipIdx j).foldl (keepF M) (pre ++ List.replicate fs.length zero64 ++ post) = pre ++ mixL M fs j ++ post
  | [], p, j, pre, post, _ => by simp [mixL]
  | f :: fs, p, j, pre, post, hp => by
    rw [List.length_cons, List.range'_succ, List.zip_cons_cons, List.zipIdx_cons, List.foldl_cons, List.replicate_succ]
    have hk : keepF M (pre ++ zero64 :: List.replicate fs.length zero64 ++ post) ((p, f), j) = (pre ++ [if M.getD j false = true then f else zero64]) ++ List.replicate fs.length zero64 ++ post := by
      unfold keepF
      by_cases h : M.getD j false = true
      · rw [if_pos h, if_pos h, List.append_assoc, List.set_append, if_neg (by simp only; omega)]
        simp [hp]
      · rw [if_neg h, if_neg h]
        simp
    rw [hk, kept_mix M fs (p + 1) (j + 1) _ post (by simp [hp])]
    simp [mixL]
theorem mix_lost (M : List Bool) : ∀ (fs : List ByteArray) (j : Nat), LostF (bytesL fs) (bytesL (mixL M fs j))
  | [], j => trivial
  | f :: fs, j => by
    refine ⟨?_, mix_lost M fs (j + 1)⟩
    by_cases h : M.getD j false = true
    · rw [if_pos h]; exact Or.inl rfl
    · rw [if_neg h]; exact Or.inr (by decide +kernel)
theorem mixL_length (M : List Bool) : ∀ (fs : List ByteArray) (j : Nat), (mixL M fs j).length = fs.length
  | [], j => rfl
  | f :: fs, j => by rw [mixL, List.length_cons, mixL_length M fs, List.length_cons]
theorem bytesL_zeros (k : Nat) : bytesL (List.replicate k zero64) = List.replicate k zeroF := by
  unfold bytesL
  rw [List.map_replicate, show zero64.data.toList = zeroF by decide +kernel]
/-- The frames of records, as texts. -/
def layL (rs : List ByteArray) : List ByteArray := (layB (recs rs)).map fun f => (⟨f.toArray⟩ : ByteArray)
theorem layL_bytes (rs : List ByteArray) : bytesL (layL rs) = layB (recs rs) := bytesL_mk _
theorem layL_length (rs : List ByteArray) : (layL rs).length = (layB (recs rs)).length := by unfold layL; rw [List.length_map]
theorem layL_snoc (rs : List ByteArray) (s : ByteArray) : layL (rs ++ [s]) = layL rs ++ framesL s := by
  unfold layL framesL
  rw [recs_append, layB_append, layB_one, List.map_append]
/-- A device of 80 sectors: the records r1 are flushed, the records r2 pending. -/
structure LoRel (B b : Nat) (r1 r2 : List ByteArray) (A : Nat) (st : St) (W : World) : Prop where
  dev : Dev B W b st
  good : Good st
  lim : st.lim = false
  len : st.now.length = 80
  at_ : A = 1 + (layB (recs (r1 ++ r2))).length
  room : A ≤ 80
  holds : Holds st 0 80 (r1 ++ r2)
  safe : ∃ h q, bytesL st.safe = h :: (layB (recs r1) ++ List.replicate q zeroF)
  pend : st.pend = (List.range' (1 + (layB (recs r1)).length) (layL r2).length).zip (layL r2)
  sizes : ∀ s ∈ r1 ++ r2, 1 ≤ s.size ∧ s.size ≤ 60000
def LoX (B b : Nat) (r1 r2 : List ByteArray) (A : Nat) (W : World) : Prop := ∃ st, LoRel B b r1 r2 A st W
theorem LoX.off {B b A : Nat} {r1 r2 : List ByteArray} {W W' : World} {ex : List TypeId} (h : LoX B b r1 r2 A W) (ho : Off ex W W') (h1 : 65 ∉ ex) (h2 : 79 ∉ ex) (h3 : 81 ∉ ex) : LoX B b r1 r2 A W' := by
  obtain ⟨st, h⟩ := h
  exact ⟨st, h.dev.off ho h1 h2 h3, h.good, h.lim, h.len, h.at_, h.room, h.holds, h.safe, h.pend, h.sizes⟩
theorem LoX.below {B b A : Nat} {r1 r2 : List ByteArray} {W W' : World} (h : LoX B b r1 r2 A W) (hb : Below W.heap.size W W') : LoX B b r1 r2 A W' := h.off (Off.ofBelow hb []) (by simp) (by simp) (by simp)
theorem LoX.base {B B' b A : Nat} {r1 r2 : List ByteArray} {W : World} (h : LoX B b r1 r2 A W) (hB : B' ≤ B) : LoX B' b r1 r2 A W := by
  obtain ⟨st, h⟩ := h
  exact ⟨st, h.dev.base hB, h.good, h.lim, h.len, h.at_, h.room, h.holds, h.safe, h.pend, h.sizes⟩
theorem LoX.nums {B b A : Nat} {r1 r2 : List ByteArray} {W : World} (h : LoX B b r1 r2 A W) : 1 ≤ A ∧ A ≤ 80 ∧ (r1 ++ r2).length ≤ 80 := by
  obtain ⟨st, h⟩ := h
  have h1 := h.at_
  have h2 := h.room
  refine ⟨by omega, h2, ?_⟩
  have h3 : ∀ rs : List ByteArray, (∀ s ∈ rs, 1 ≤ s.size ∧ s.size ≤ 60000) → rs.length ≤ (layB (recs rs)).length := fun rs => by
    induction rs with
    | nil => intro _; exact Nat.le_refl _
    | cons s rs ih =>
      intro hs
      have hh := hs s (by simp)
      show rs.length + 1 ≤ (cutB s.data.toList ++ layB (recs rs)).length
      have hi := ih (fun t ht => hs t (by simp [ht]))
      have hc : (cutB s.data.toList).length = (s.size + 61) / 62 := by rw [cutB_length, Array.length_toList]; rfl
      rw [List.length_append, hc]
      omega
  have := h3 _ h.sizes
  omega
theorem zip_len {st : St} {r1 r2 : List ByteArray} (h : st.pend = (List.range' (1 + (layB (recs r1)).length) (layL r2).length).zip (layL r2)) : st.pend.length = (layB (recs r2)).length := by
  rw [h]
  simp [layL_length]
theorem lo_new (w : World) : Calls Try.prog 9 #[.int .i64 80] w fun e w' => ∃ b, e = .returned (.pointer (some ⟨b, 0, none⟩)) ∧ LoX w.heap.size b [] [] 1 w' ∧ Below w.heap.size w w' := by
  refine (new_c 80 w).mono ?_
  rintro e w' ⟨b, rfl, hd, hb, _⟩
  rw [show sizeI 80 = 80 from rfl] at hd
  refine ⟨b, rfl, ⟨_, hd, goodNew _ (by omega), rfl, stNew_now _, rfl, by omega, holds_new 0 80 (by omega), ⟨zeroF, 79, ?_⟩, rfl, (fun s hs => by cases hs)⟩, hb⟩
  show bytesL (List.replicate 80 zero64) = zeroF :: ([] ++ List.replicate 79 zeroF)
  rw [bytesL_zeros, List.replicate_succ]
  rfl
def askL (A : Nat) (s : ByteArray) : Int := if s.size < 1 ∨ 60000 < s.size then 4 else if 80 < A + (s.size + 61) / 62 then 11 else 0
theorem lo_no {B b A : Nat} {r1 r2 : List ByteArray} {W : World} (h : LoX B b r1 r2 A W) (s : ByteArray) (hs : s.size ≤ 9223372036854775807) (hne : askL A s ≠ 0) :
    Calls Try.prog 54 #[.pointer (some ⟨b, 0, none⟩), .int .i64 0, .int .i64 80, .int .i64 A, .string s] W fun e w' => e = .returned (.tuple #[.int .i64 0, .int .i64 (askL A s)]) ∧ Below W.heap.size W w' := by
  obtain ⟨st, h⟩ := h
  have hl := h.len
  have hA := h.at_
  have ho : openI st ((0 : Nat) : Int) ((80 : Nat) : Int) = 0 := openI_ok (free_gone h.lim) (by omega) (by omega)
  have h1 := write_bad B b st 0 80 A (askL A s) s W h.dev h.good ho (by omega) (by have := h.room; omega) hs ?_ hne
  · exact h1
  unfold writeI askL
  rw [if_neg (by omega)]
  by_cases h0 : s.size < 1 ∨ 60000 < s.size
  · rw [if_pos h0, if_pos h0]
  · rw [if_neg h0, if_neg h0]
    by_cases hk2 : 80 < A + (s.size + 61) / 62
    · rw [if_pos hk2, if_pos (by omega)]
    · rw [if_neg hk2, if_neg (by omega)]
theorem lo_ok {B b A : Nat} {r1 r2 : List ByteArray} {W : World} (h : LoX B b r1 r2 A W) (s : ByteArray) (hq : askL A s = 0) (hB : B ≤ W.heap.size) :
    Calls Try.prog 54 #[.pointer (some ⟨b, 0, none⟩), .int .i64 0, .int .i64 80, .int .i64 A, .string s] W fun e w' => e = .returned (.tuple #[.int .i64 ((A + (s.size + 61) / 62 : Nat) : Int), .int .i64 0]) ∧ LoX B b r1 (r2 ++ [s]) (A + (s.size + 61) / 62) w' ∧ Below B W w' ∧ Off devTs W w' := by
  obtain ⟨st, h⟩ := h
  have hl := h.len
  have hA := h.at_
  unfold askL at hq
  split at hq
  · cases hq
  split at hq
  · cases hq
  rename_i h0 hk2
  have ho : openI st ((0 : Nat) : Int) ((80 : Nat) : Int) = 0 := openI_ok (free_gone h.lim) (by omega) (by omega)
  have hpl := zip_len h.pend
  have hrl : (layB (recs (r1 ++ r2))).length = (layB (recs r1)).length + (layB (recs r2)).length := by rw [recs_append, layB_append, List.length_append]
  refine (write_ok B b st 0 80 A s W h.dev h.good h.lim ho (by omega) (by omega) (by omega) (by omega) (by omega) (by omega) hB).mono ?_
  rintro e w' ⟨rfl, hd, hb, hoff⟩
  rw [Nat.zero_add] at hd
  have hfl := framesL_length s
  obtain ⟨g1, g2, g3, g4, g5⟩ := puts_good (framesL s) st A h.good h.lim (by omega) (framesL_size s)
  have hh := h.holds.put (s := s) (A := A) (by omega) hA (by omega)
  rw [Nat.zero_add] at hh
  refine ⟨rfl, ⟨_, hd, g1, g2, by omega, ?_, by omega, by rw [← List.append_assoc]; exact hh, by rw [g5]; exact h.safe, ?_, ?_⟩, hb, hoff⟩
  · rw [← List.append_assoc, recs_append, layB_append, layB_one, List.length_append, cutB_length, hA, Array.length_toList]
    show _ = 1 + (_ + (s.size + 61) / 62)
    omega
  · rw [puts_pend, h.pend, layL_snoc, List.length_append, ← List.range'_append_1, List.zip_append (by simp)]
    congr 3
    rw [layL_length]
    omega
  · intro t ht
    rw [← List.append_assoc] at ht
    rcases List.mem_append.1 ht with h1 | h1
    · exact h.sizes t h1
    · rw [List.mem_singleton.1 h1]; omega
theorem lo_flush {B b A : Nat} {r1 r2 : List ByteArray} {W : World} (h : LoX B b r1 r2 A W) (hB : B ≤ W.heap.size) :
    Calls Try.prog 34 #[.pointer (some ⟨b, 0, none⟩)] W fun e w' => e = .returned (.int .i64 0) ∧ LoX B b (r1 ++ r2) [] A w' ∧ Below B W w' ∧ Off devTs W w' := by
  obtain ⟨st, h⟩ := h
  have hpl := zip_len h.pend
  have hA := h.at_
  have hrl : (layB (recs (r1 ++ r2))).length = (layB (recs r1)).length + (layB (recs r2)).length := by rw [recs_append, layB_append, List.length_append]
  have h1 := flush_c B b st W h.dev h.good (by have := h.room; omega) hB
  unfold FlushPost at h1
  rw [if_neg (by rw [free_gone h.lim]; decide), if_neg (by rw [free_gone h.lim]; decide)] at h1
  refine h1.mono ?_
  rintro e w' ⟨rfl, hd, hb, hoff⟩
  obtain ⟨h0, m, he⟩ := h.holds
  refine ⟨rfl, ⟨_, hd, good_flush h.good, h.lim, h.len, by rw [List.append_nil]; exact h.at_, h.room, by rw [List.append_nil]; exact ⟨h0, m, he⟩, ⟨h0, m, ?_⟩, rfl, by rw [List.append_nil]; exact h.sizes⟩, hb, hoff⟩
  rw [← he]
  show bytesL st.now = bytesL ((st.now.drop 0).take 80)
  rw [List.drop_zero, List.take_of_length_le (by rw [h.len]; omega)]
/-- Behind a restart. -/
def LoPost (B b : Nat) (r1 r2 : List ByteArray) (W : World) : Prop := ∃ st h a m, Dev B W b st ∧ Good st ∧ st.lim = false ∧ st.now.length = 80 ∧ bytesL (bankL st 0 80) = h :: (layB (recs r1) ++ (a ++ List.replicate m zeroF)) ∧ LostF (layB (recs r2)) a ∧ (∀ s ∈ r1 ++ r2, 1 ≤ s.size ∧ s.size ≤ 60000)
theorem LoPost.below {B b : Nat} {r1 r2 : List ByteArray} {W W' : World} (h : LoPost B b r1 r2 W) (hb : Below W.heap.size W W') : LoPost B b r1 r2 W' := by
  obtain ⟨st, h0, a, m, hd, r⟩ := h
  exact ⟨st, h0, a, m, hd.below hb, r⟩
theorem lo_restart {B b A : Nat} {r1 r2 : List ByteArray} {W : World} (h : LoX B b r1 r2 A W) (v : Value) (l : List Int) (hv : NumsIs W v l) (hl : l.length ≤ 9223372036854775807) (hB : B ≤ W.heap.size) :
    Calls Try.prog 14 #[.pointer (some ⟨b, 0, none⟩), v] W fun e w' => e = .returned (.tuple #[]) ∧ LoPost B b r1 r2 w' ∧ Below B W w' ∧ Off devTs W w' := by
  obtain ⟨st, h⟩ := h
  have hpl := zip_len h.pend
  have hA := h.at_
  have hroom := h.room
  have hrl : (layB (recs (r1 ++ r2))).length = (layB (recs r1)).length + (layB (recs r2)).length := by rw [recs_append, layB_append, List.length_append]
  refine (restart_c B b st v l W h.dev h.good (by omega) hv hl hB).mono ?_
  rintro e w' ⟨rfl, hd, hb, hoff⟩
  refine ⟨rfl, ?_, hb, hoff⟩
  obtain ⟨h0, q, he⟩ := h.safe
  have hsl : st.safe.length = 80 := h.good.same.trans h.len
  have hq : 1 + (layB (recs r1)).length + q = 80 := by
    have h1 := congrArg List.length he
    unfold bytesL at h1
    rw [List.length_map, hsl] at h1
    simp at h1
    omega
  have hsafe : st.safe = st.safe.take (1 + (layB (recs r1)).length) ++ List.replicate (layL r2).length zero64 ++ List.replicate (q - (layL r2).length) zero64 := by
    apply bytesL_inj
    rw [bytesL_append, bytesL_append, bytesL_take, bytesL_zeros, bytesL_zeros, he, Nat.add_comm 1, List.take_succ_cons, List.take_left' rfl, layL_length, List.append_assoc, List.replicate_append_replicate, show (layB (recs r2)).length + (q - (layB (recs r2)).length) = q by omega]
    rfl
  have hnow : (restartSt st l).now = st.safe.take (1 + (layB (recs r1)).length) ++ mixL (marks st.pend.length l) (layL r2) 0 ++ List.replicate (q - (layL r2).length) zero64 := by
    show applyKept (marks st.pend.length l) st.pend st.safe = _
    unfold applyKept
    generalize marks st.pend.length l = M
    rw [h.pend]
    conv => lhs; rw [hsafe]
    exact kept_mix M (layL r2) _ 0 _ _ (by rw [List.length_take, hsl]; omega)
  refine ⟨_, h0, bytesL (mixL (marks st.pend.length l) (layL r2) 0), q - (layL r2).length, hd, good_restart h.good l, rfl, by rw [restart_length st h.good, h.len], ?_, ?_, h.sizes⟩
  · have e1 : bankL (restartSt st l) 0 80 = (restartSt st l).now := by
      unfold bankL
      rw [List.drop_zero, List.take_of_length_le (by rw [restart_length st h.good, h.len]; omega)]
    rw [e1, hnow, bytesL_append, bytesL_append, bytesL_take, bytesL_zeros, he, Nat.add_comm 1, List.take_succ_cons, List.take_left' rfl]
    simp
  · have := mix_lost (marks st.pend.length l) (layL r2) 0
    rw [layL_bytes] at this
    exact this
theorem lo_scan {B b : Nat} {r1 r2 : List ByteArray} {W : World} (h : LoPost B b r1 r2 W) :
    Calls Try.prog 70 #[.pointer (some ⟨b, 0, none⟩), .int .i64 0, .int .i64 80] W fun e w' => ∃ u z x, e = .returned (.tuple #[u, .int .i64 z, .int .i64 0]) ∧ x <+: r2 ∧ StrsIs w' u (r1 ++ x) ∧ Below W.heap.size W w' := by
  obtain ⟨st, h0, a, m, hd, hg, hl, hn, he, hlost, hs⟩ := h
  have ho : openI st ((0 : Nat) : Int) ((80 : Nat) : Int) = 0 := openI_ok (free_gone hl) (by omega) (by omega)
  refine (scan_ok B b st 0 80 W hd hg (free_gone hl) ho (by omega)).mono ?_
  rintro e w' ⟨u, rfl, hown, hb⟩
  have hnz : ∀ rs : List ByteArray, (∀ s ∈ rs, 1 ≤ s.size ∧ s.size ≤ 60000) → ∀ r ∈ recs rs, r ≠ [] ∧ r.length ≤ 60000 := fun rs hr r hr2 => by
    obtain ⟨s, hs, rfl⟩ := List.mem_map.1 hr2
    have := hr s hs
    have hl : s.data.toList.length = s.size := Array.length_toList
    exact ⟨fun e => by rw [e] at hl; simp at hl; omega, by omega⟩
  have hsc : scanB ((bytesL (bankL st 0 80)).drop 1) = recs r1 ++ scanB (a ++ List.replicate m zeroF) := by
    rw [he]
    show scanB (layB (recs r1) ++ (a ++ List.replicate m zeroF)) = _
    refine scanB_lay _ _ (hnz r1 (fun s h => hs s (by simp [h]))) (fun f hf => ?_)
    rcases List.mem_append.1 hf with h1 | h1
    · exact LostF.sizes hlost (layB_all _) f h1
    · exact zeros_all m f h1
  have hpre := lost_scan (recs r2) a (List.replicate m zeroF) (hnz r2 (fun s h => hs s (by simp [h]))) hlost (fun f hf => (List.mem_replicate.1 hf).2)
  rw [hsc] at hown
  generalize scanB (a ++ List.replicate m zeroF) = y at *
  obtain ⟨t, ht⟩ := hpre
  have hy : y = recs (r2.take y.length) := by
    unfold recs
    rw [bytesL_take]
    show y = (recs r2).take y.length
    rw [← ht, List.take_left' rfl]
  refine ⟨u, _, r2.take y.length, rfl, List.take_prefix _ _, ?_, hb⟩
  have h1 := strs_of_owns hown
  rw [show (recs r1 ++ y).map (fun f => (⟨f.toArray⟩ : ByteArray)) = r1 ++ r2.take y.length by
    conv => lhs; rw [hy]
    rw [← recs_append]
    unfold recs bytesL
    rw [List.map_map]
    exact (List.map_congr_left fun s _ => rfl).trans (List.map_id _)] at h1
  exact h1
end Go.Proofs.Ytmpfdmjbgabcdaa
