/-
  The law BankWrites: what a bank holds behind several records.
-/
import Derived.Test.YtmpfdmjbgabcdaaBkDevG
namespace Go.Proofs.Ytmpfdmjbgabcdaa
open Go.RowKit Go.Sort
set_option linter.unusedVariables false

theorem bankL_puts {st : St} {F S A : Nat} {fs : List ByteArray} (hS : F + S ≤ st.now.length) (hA : A + fs.length ≤ S) : bankL (putsSt st (F + A) fs) F S = (bankL st F S).take A ++ fs ++ (bankL st F S).drop (A + fs.length) := by
  unfold bankL
  rw [puts_now fs st (F + A) (by omega)]
  have e1 : (st.now.take (F + A) ++ fs ++ st.now.drop (F + A + fs.length)).drop F = (st.now.drop F).take A ++ fs ++ (st.now.drop F).drop (A + fs.length) := by
    rw [List.append_assoc, List.drop_append, List.length_take, Nat.min_eq_left (by omega), show F - (F + A) = 0 by omega, List.drop_zero, List.drop_take, show F + A - F = A by omega, List.drop_drop, List.append_assoc, show F + (A + fs.length) = F + A + fs.length by omega]
  rw [e1]
  have hl : (st.now.drop F).length = st.now.length - F := List.length_drop
  generalize st.now.drop F = N at *
  rw [List.take_append, List.take_append, List.length_append, List.length_take, Nat.min_eq_left (by omega), List.take_of_length_le (l := N.take A) (by rw [List.length_take]; omega), List.take_of_length_le (l := fs) (by omega), List.take_take, Nat.min_eq_left (by omega), List.drop_take]
theorem bytesL_append (a b : List ByteArray) : bytesL (a ++ b) = bytesL a ++ bytesL b := by unfold bytesL; rw [List.map_append]
/-- The records as lists of bytes. -/
def recs (rs : List ByteArray) : List (List UInt8) := bytesL rs
theorem scanB_zeros : ∀ m, scanB (List.replicate m zeroF) = []
  | 0 => scanB_stop (Or.inl rfl)
  | m + 1 => by
    rw [List.replicate_succ]
    exact scanB_stop (Or.inr (oneB_zero _))
theorem zeros_all (m : Nat) : ∀ f ∈ List.replicate m zeroF, f.length = 64 := fun f hf => by
  rw [(List.mem_replicate.1 hf).2]
  rfl
theorem strs_owned {w : World} {B : Nat} {v : Value} {rs : List ByteArray} (h : w.ownsRow B 9 1 v rs.length (rs.map Value.string)) : StrsIs w v rs := by
  have h1 := strs_of_owns (L := recs rs) (by
    have e1 : (recs rs).length = rs.length := by unfold recs bytesL; rw [List.length_map]
    have e2 : frV (recs rs) = rs.map Value.string := by
      unfold frV recs bytesL
      rw [List.map_map]
      rfl
    rw [e1, e2]
    exact h)
  rw [show (recs rs).map (fun f => (⟨f.toArray⟩ : ByteArray)) = rs by
    unfold recs bytesL
    rw [List.map_map]
    exact (List.map_congr_left fun s _ => rfl).trans (List.map_id _)] at h1
  exact h1
theorem off_grown {w w' : World} {B n : Nat} {v : Value} {xs : List Value} (hown : w.ownsRow B 9 1 v n xs) (hg : w.grownBy w' v.ownBlock) : Off [9] w w' :=
  (Off.refl _ w).grown hg (fun j hj => own_type hown hj (by simp))
/-- What a bank holds, its head first. -/
def Holds (st : St) (F k : Nat) (rs : List ByteArray) : Prop := ∃ h m, bytesL (bankL st F k) = h :: (layB (recs rs) ++ List.replicate m zeroF)
theorem Holds.scan {st : St} {F k : Nat} {rs : List ByteArray} (h : Holds st F k rs) (hr : ∀ s ∈ rs, 1 ≤ s.size ∧ s.size ≤ 60000) : scanB ((bytesL (bankL st F k)).drop 1) = recs rs := by
  obtain ⟨h0, m, he⟩ := h
  rw [he]
  show scanB (layB (recs rs) ++ List.replicate m zeroF) = _
  rw [scanB_lay _ _ (fun r hr2 => by
    obtain ⟨s, hs, rfl⟩ := List.mem_map.1 hr2
    have := hr s hs
    have hl : s.data.toList.length = s.size := Array.length_toList
    exact ⟨fun e => by rw [e] at hl; simp at hl; omega, by omega⟩) (zeros_all m), scanB_zeros, List.append_nil]
theorem recs_append (a b : List ByteArray) : recs (a ++ b) = recs a ++ recs b := bytesL_append a b
theorem layB_append (a b : List (List UInt8)) : layB (a ++ b) = layB a ++ layB b := by unfold layB; rw [List.flatMap_append]
theorem layB_one (s : ByteArray) : layB (recs [s]) = cutB s.data.toList := by
  show (cutB s.data.toList ++ []) = _
  rw [List.append_nil]
theorem Holds.put {st : St} {F k A : Nat} {rs : List ByteArray} {s : ByteArray} (h : Holds st F k rs) (hS : F + k ≤ st.now.length) (hA : A = 1 + (layB (recs rs)).length) (hk : A + (s.size + 61) / 62 ≤ k) : Holds (putsSt st (F + A) (framesL s)) F k (rs ++ [s]) := by
  obtain ⟨h0, m, he⟩ := h
  have hfl := framesL_length s
  refine ⟨h0, m - (s.size + 61) / 62, ?_⟩
  rw [bankL_puts hS (by omega), bytesL_append, bytesL_append, bytesL_take, bytesL_drop, he, framesL_bytes, hfl]
  have hcl : (cutB s.data.toList).length = (s.size + 61) / 62 := by rw [cutB_length, Array.length_toList]; rfl
  rw [hA, Nat.add_comm 1, List.take_succ_cons, List.take_left', show (layB (recs rs)).length + 1 + (s.size + 61) / 62 = ((layB (recs rs)).length + (s.size + 61) / 62) + 1 by omega, List.drop_succ_cons, recs_append, layB_append, layB_one]
  · rw [List.drop_append, List.drop_eq_nil_of_le (by omega), List.nil_append, show (layB (recs rs)).length + (s.size + 61) / 62 - (layB (recs rs)).length = (s.size + 61) / 62 by omega, List.drop_replicate]
    simp
  · rfl
theorem holds_new (F k : Nat) (hk : 1 ≤ k) : Holds (stNew (F + k)) F k [] := by
  refine ⟨zeroF, k - 1, ?_⟩
  unfold bankL stNew
  simp only [List.drop_replicate, List.take_replicate, Nat.add_sub_cancel_left, Nat.min_self]
  obtain ⟨j, rfl⟩ : ∃ j, k = j + 1 := ⟨k - 1, by omega⟩
  unfold bytesL
  rw [List.map_replicate, show zero64.data.toList = zeroF by decide +kernel, List.replicate_succ]
  rfl
/-- What the device holds behind i of the law's writes. -/
structure WrRel (B b F k i : Nat) (rs : List ByteArray) (A : Nat) (st : St) (W : World) : Prop where
  dev : Dev B W b st
  good : Good st
  lim : st.lim = false
  len : st.now.length = F + k
  pend : st.pend.length ≤ 7 * i
  at_ : A = 1 + (layB (recs rs)).length
  none : k = 0 → rs = []
  holds : 1 ≤ k → Holds st F k rs
  sizes : ∀ s ∈ rs, 1 ≤ s.size ∧ s.size ≤ 400
  few : rs.length ≤ i
  room : 1 ≤ k → A ≤ k
def WrX (B b F k i : Nat) (rs : List ByteArray) (A : Nat) (W : World) : Prop := ∃ st, WrRel B b F k i rs A st W
theorem WrX.below {B b F k i A : Nat} {rs : List ByteArray} {W W' : World} (h : WrX B b F k i rs A W) (hb : Below W.heap.size W W') : WrX B b F k i rs A W' := by
  obtain ⟨st, h⟩ := h
  exact ⟨st, h.dev.below hb, h.good, h.lim, h.len, h.pend, h.at_, h.none, h.holds, h.sizes, h.few, h.room⟩
theorem WrX.off {B b F k i A : Nat} {rs : List ByteArray} {W W' : World} {ex : List TypeId} (h : WrX B b F k i rs A W) (ho : Off ex W W') (h1 : 65 ∉ ex) (h2 : 79 ∉ ex) (h3 : 81 ∉ ex) : WrX B b F k i rs A W' := by
  obtain ⟨st, h⟩ := h
  exact ⟨st, h.dev.off ho h1 h2 h3, h.good, h.lim, h.len, h.pend, h.at_, h.none, h.holds, h.sizes, h.few, h.room⟩
theorem WrX.next {B b F k i A : Nat} {rs : List ByteArray} {W : World} (h : WrX B b F k i rs A W) : WrX B b F k (i + 1) rs A W := by
  obtain ⟨st, h⟩ := h
  exact ⟨st, h.dev, h.good, h.lim, h.len, by have := h.pend; omega, h.at_, h.none, h.holds, h.sizes, by have := h.few; omega, h.room⟩
theorem WrX.base {B B' b F k i A : Nat} {rs : List ByteArray} {W : World} (h : WrX B b F k i rs A W) (hB : B' ≤ B) : WrX B' b F k i rs A W := by
  obtain ⟨st, h⟩ := h
  exact ⟨st, h.dev.base hB, h.good, h.lim, h.len, h.pend, h.at_, h.none, h.holds, h.sizes, h.few, h.room⟩
theorem wr_new (n F k : Nat) (hn : n = F + k) (h4 : n ≤ 4096) (w : World) : Calls Try.prog 9 #[.int .i64 n] w fun e w' => ∃ b, e = .returned (.pointer (some ⟨b, 0, none⟩)) ∧ WrX w.heap.size b F k 0 [] 1 w' ∧ Below w.heap.size w w' := by
  refine (new_c n w).mono ?_
  rintro e w' ⟨b, rfl, hd, hb, _⟩
  rw [sizeI_nat n h4, hn] at hd
  exact ⟨b, rfl, ⟨_, hd, goodNew _ (by omega), rfl, stNew_now _, (by simp [stNew]), rfl, fun _ => rfl, holds_new F k, (fun s hs => by cases hs), Nat.le_refl _, fun h => h⟩, hb⟩
/-- What the law asks of a write. -/
def askW (k A : Nat) (s : ByteArray) : Int := if k < 1 then 1 else if s.size = 0 then 4 else if k < A + (s.size + 61) / 62 then 11 else 0
theorem wr_no {B b F k i A : Nat} {rs : List ByteArray} {W : World} (h : WrX B b F k i rs A W) (s : ByteArray) (hs : s.size ≤ 400) (q : Int) (hq : askW k A s = q) (hne : q ≠ 0) :
    Calls Try.prog 54 #[.pointer (some ⟨b, 0, none⟩), .int .i64 F, .int .i64 k, .int .i64 A, .string s] W fun e w' => e = .returned (.tuple #[.int .i64 0, .int .i64 q]) ∧ Below W.heap.size W w' := by
  obtain ⟨st, h⟩ := h
  have hf := h.good.few
  have hl := h.len
  unfold askW at hq
  by_cases hk : k < 1
  · rw [if_pos hk] at hq
    have ho : openI st F k = q := by
      rw [openI_N h.lim h.len, ← hq]
      unfold openN
      rw [if_pos (by omega)]
    exact write_no B b st F k A q s W h.dev h.good ho hne
  · rw [if_neg hk] at hq
    have ho : openI st F k = 0 := openI_ok (free_gone h.lim) (by omega) (by omega)
    have hA := h.at_
    have hroom := h.room (by omega)
    refine write_bad B b st F k A q s W h.dev h.good ho (by omega) (by omega) (by omega) ?_ hne
    rw [← hq]
    unfold writeI
    rw [if_neg (by omega)]
    by_cases h0 : s.size = 0
    · rw [if_pos (by omega), if_pos h0]
    · rw [if_neg (by omega), if_neg h0]
      by_cases hk2 : k < A + (s.size + 61) / 62
      · rw [if_pos hk2, if_pos (by omega)]
      · rw [if_neg hk2, if_neg (by omega)]
theorem wr_ok {B b F k i A : Nat} {rs : List ByteArray} {W : World} (h : WrX B b F k i rs A W) (s : ByteArray) (hs : s.size ≤ 400) (hi : i ≤ 100) (hq : askW k A s = 0) (hB : B ≤ W.heap.size) :
    Calls Try.prog 54 #[.pointer (some ⟨b, 0, none⟩), .int .i64 F, .int .i64 k, .int .i64 A, .string s] W fun e w' => e = .returned (.tuple #[.int .i64 ((A + (s.size + 61) / 62 : Nat) : Int), .int .i64 0]) ∧ WrX B b F k (i + 1) (rs ++ [s]) (A + (s.size + 61) / 62) w' ∧ Below B W w' ∧ Off devTs W w' := by
  obtain ⟨st, h⟩ := h
  have hf := h.good.few
  have hl := h.len
  have hA := h.at_
  have hp := h.pend
  unfold askW at hq
  split at hq
  · cases hq
  split at hq
  · cases hq
  split at hq
  · cases hq
  rename_i hk h0 hk2
  have ho : openI st F k = 0 := openI_ok (free_gone h.lim) (by omega) (by omega)
  refine (write_ok B b st F k A s W h.dev h.good h.lim ho (by omega) (by omega) (by omega) (by omega) (by omega) (by omega) hB).mono ?_
  rintro e w' ⟨rfl, hd, hb, hoff⟩
  have hfl := framesL_length s
  obtain ⟨g1, g2, g3, g4, _⟩ := puts_good (framesL s) st (F + A) h.good h.lim (by omega) (framesL_size s)
  refine ⟨rfl, ⟨_, hd, g1, g2, by omega, by omega, ?_, fun e => by omega, fun hk1 => (h.holds hk1).put (by omega) hA (by omega), ?_, by have := h.few; simp; omega, fun _ => by omega⟩, hb, hoff⟩
  · rw [recs_append, layB_append, layB_one, List.length_append, cutB_length, hA, Array.length_toList]
    show _ = 1 + (_ + (s.size + 61) / 62)
    omega
  · intro t ht
    rcases List.mem_append.1 ht with h1 | h1
    · exact h.sizes t h1
    · rw [List.mem_singleton.1 h1]; omega
theorem wr_scan {B b F k i A : Nat} {rs : List ByteArray} {W : World} (h : WrX B b F k i rs A W) (hk : 1 ≤ k) :
    Calls Try.prog 70 #[.pointer (some ⟨b, 0, none⟩), .int .i64 F, .int .i64 k] W fun e w' => ∃ u, e = .returned (.tuple #[u, .int .i64 A, .int .i64 0]) ∧ StrsIs w' u rs ∧ Below W.heap.size W w' := by
  obtain ⟨st, h⟩ := h
  have hl := h.len
  have hA := h.at_
  have ho : openI st F k = 0 := openI_ok (free_gone h.lim) (by omega) (by omega)
  refine (scan_ok B b st F k W h.dev h.good (free_gone h.lim) ho (by omega)).mono ?_
  rintro e w' ⟨u, rfl, hown, hb⟩
  rw [(h.holds hk).scan (fun s hs => by have := h.sizes s hs; omega)] at hown ⊢
  refine ⟨u, by rw [hA], ?_, hb⟩
  have h1 := strs_of_owns hown
  rw [show (recs rs).map (fun f => (⟨f.toArray⟩ : ByteArray)) = rs by
    unfold recs bytesL
    rw [List.map_map]
    exact (List.map_congr_left fun s _ => rfl).trans (List.map_id _)] at h1
  exact h1
theorem wr_scan_no {B b F k i A : Nat} {rs : List ByteArray} {W : World} (h : WrX B b F k i rs A W) (hk : k = 0) :
    Calls Try.prog 70 #[.pointer (some ⟨b, 0, none⟩), .int .i64 F, .int .i64 k] W fun e w' => e = .returned (.tuple #[.slice none 0 0, .int .i64 0, .int .i64 1]) ∧ Below W.heap.size W w' := by
  obtain ⟨st, h⟩ := h
  have ho : openI st F k = 1 := by
    rw [openI_N h.lim h.len]
    unfold openN
    rw [if_pos (by omega)]
  exact scan_no B b st F k 1 W h.dev h.good ho (by decide)
end Go.Proofs.Ytmpfdmjbgabcdaa
