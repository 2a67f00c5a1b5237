/-
  A device (stage 6): what its memory holds; its small calls.
-/
import Derived.Test.YtmpfdmjbgabcdaaSeKit
namespace Go.Proofs.Ytmpfdmjbgabcdaa
open Go.RowKit Go.Sort
set_option linter.unusedVariables false

/-- What a device holds. -/
structure St where
  now : List ByteArray
  safe : List ByteArray
  pend : List (Nat × ByteArray)
  lim : Bool
  left : Int
structure Good (st : St) : Prop where
  same : st.safe.length = st.now.length
  szn : ∀ s ∈ st.now, s.size = 64
  szs : ∀ s ∈ st.safe, s.size = 64
  pnd : ∀ p ∈ st.pend, p.1 < st.now.length ∧ p.2.size = 64
  few : st.now.length ≤ 4096
  left0 : st.lim = true → 0 ≤ st.left
  leftI : -9223372036854775808 ≤ st.left ∧ st.left ≤ 9223372036854775807
  off : ∀ i, (∀ p ∈ st.pend, p.1 ≠ i) → st.now[i]? = st.safe[i]?

def head (gn gs n : Nat) (vp : Value) (lim : Bool) (left : Int) : Array Value := #[.slice (some ⟨gn, 0, none⟩) n n, .slice (some ⟨gs, 0, none⟩) n n, vp, .bool lim, .int .i64 left]
structure DevAt (B : Nat) (w : World) (b gn gs : Nat) (vp : Value) (st : St) : Prop where
  hb : B ≤ b
  hgn : B ≤ gn
  hgs : B ≤ gs
  ne : gn ≠ gs
  hd : w.heap[b]? = some (.cells (head gn gs st.now.length vp st.lim st.left) 65 (0, 0))
  nw : w.heap[gn]? = some (.cells (flat st.now).toArray 79 (0, 0))
  sf : w.heap[gs]? = some (.cells (flat st.safe).toArray 79 (0, 0))
  pd : w.ownsRow B 81 65 vp st.pend.length (pcells st.pend)
def Dev (B : Nat) (w : World) (b : Nat) (st : St) : Prop := ∃ gn gs vp, DevAt B w b gn gs vp st

/-- The types of which a device's calls write blocks. -/
abbrev devTs : List TypeId := [65, 79, 81, 4]
theorem own_off {B : Nat} {w w' : World} {v : Value} {n s : Nat} {T : TypeId} {xs : List Value} {ex : List TypeId} (h : w.ownsRow B T s v n xs) (hT : T ∉ ex) (ho : Off ex w w') : w'.ownsRow B T s v n xs := by
  refine ⟨h.1, ?_⟩
  rcases h.2 with hn | ⟨g, cap, cur, hv, hg, hb, r⟩
  · exact Or.inl hn
  · exact Or.inr ⟨g, cap, cur, hv, hg, ho T hT g cur (0, 0) hb, r⟩
theorem DevAt.off {B : Nat} {w w' : World} {b gn gs : Nat} {vp : Value} {st : St} (h : DevAt B w b gn gs vp st) {ex : List TypeId} (ho : Off ex w w') (h1 : 65 ∉ ex) (h2 : 79 ∉ ex) (h3 : 81 ∉ ex) : DevAt B w' b gn gs vp st :=
  ⟨h.hb, h.hgn, h.hgs, h.ne, ho _ h1 _ _ _ h.hd, ho _ h2 _ _ _ h.nw, ho _ h2 _ _ _ h.sf, own_off h.pd h3 ho⟩
theorem Dev.off {B : Nat} {w w' : World} {b : Nat} {st : St} (h : Dev B w b st) {ex : List TypeId} (ho : Off ex w w') (h1 : 65 ∉ ex) (h2 : 79 ∉ ex) (h3 : 81 ∉ ex) : Dev B w' b st := by
  obtain ⟨gn, gs, vp, h⟩ := h
  exact ⟨gn, gs, vp, h.off ho h1 h2 h3⟩
theorem DevAt.cells {B : Nat} {w : World} {b gn gs : Nat} {vp : Value} {st : St} (h : DevAt B w b gn gs vp st) :
    w.cell? ⟨b, 0, none⟩ = some (.slice (some ⟨gn, 0, none⟩) st.now.length st.now.length) ∧ w.cell? ⟨b, 1, none⟩ = some (.slice (some ⟨gs, 0, none⟩) st.now.length st.now.length) ∧ w.cell? ⟨b, 2, none⟩ = some vp ∧ w.cell? ⟨b, 3, none⟩ = some (.bool st.lim) ∧ w.cell? ⟨b, 4, none⟩ = some (.int .i64 st.left) := by
  refine ⟨?_, ?_, ?_, ?_, ?_⟩ <;> (rw [cell_of_row w b _ _ _ _ h.hd]; rfl)
theorem DevAt.frozen {B : Nat} {w : World} {b gn gs : Nat} {vp : Value} {st : St} (h : DevAt B w b gn gs vp st) (j : Nat) : w.frozen? ⟨b, j, none⟩ = false := frozen_of_row w b j _ _ h.hd
theorem DevAt.vp {B : Nat} {w : World} {b gn gs : Nat} {vp : Value} {st : St} (h : DevAt B w b gn gs vp st) : ∃ a cap, vp = .slice a st.pend.length cap := by
  rcases h.pd.2 with ⟨hv, h0⟩ | ⟨g, cap, cur, hv, _⟩
  · exact ⟨none, 0, by rw [hv, h0]⟩
  · exact ⟨_, cap, hv⟩

set_option maxHeartbeats 1000000 in
theorem gone_c (b : Nat) (lim : Bool) (left : Int) (w : World) (h3 : w.cell? ⟨b, 3, none⟩ = some (.bool lim)) (h4 : w.cell? ⟨b, 4, none⟩ = some (.int .i64 left)) :
    Calls Try.prog 49 #[.pointer (some ⟨b, 3, none⟩)] w fun e w' => e = .returned (.bool (lim && left == 0)) ∧ w = w' := by
  cases lim
  · go_enter Try.func49, Try.ntmps49
    go_wp2
    go_ret
    exact ⟨rfl, rfl⟩
  · go_enter Try.func49, Try.ntmps49
    go_wp2
    go_ret
    exact ⟨rfl, rfl⟩
set_option maxHeartbeats 1000000 in
theorem size_c (b n cap : Nat) (a : Option Addr) (w : World) (h0 : w.cell? ⟨b, 0, none⟩ = some (.slice a n cap)) :
    Calls Try.prog 59 #[.pointer (some ⟨b, 0, none⟩)] w fun e w' => e = .returned (.int .i64 n) ∧ w = w' := by
  go_enter Try.func59, Try.ntmps59
  go_wp2
  go_ret
  exact ⟨rfl, rfl⟩
/-- What Get and Put ask first. -/
def askI (n : Nat) (lim : Bool) (left i : Int) : Int := if (lim && left == 0) = true then 13 else if i < 0 ∨ (n : Int) ≤ i then 1 else 0
set_option maxHeartbeats 1000000 in
theorem ask_c (b n cap : Nat) (a : Option Addr) (lim : Bool) (left i : Int) (w : World) (h0 : w.cell? ⟨b, 0, none⟩ = some (.slice a n cap)) (h3 : w.cell? ⟨b, 3, none⟩ = some (.bool lim)) (h4 : w.cell? ⟨b, 4, none⟩ = some (.int .i64 left)) :
    Calls Try.prog 50 #[.pointer (some ⟨b, 0, none⟩), .int .i64 i] w fun e w' => e = .returned (.int .i64 (askI n lim left i)) ∧ w = w' := by
  have cG := gone_c b lim left w h3 h4
  unfold askI
  cases hg : (lim && left == 0)
  · rw [hg] at cG
    by_cases h1 : i < 0
    · rw [if_neg (by simp), if_pos (Or.inl h1)]
      go_enter Try.func50, Try.ntmps50
      go_wp2_with fail
      refine cG.mono ?_
      rintro e w2 ⟨rfl, rfl⟩
      go_wp2
      go_ret
      exact ⟨rfl, rfl⟩
    · by_cases h2 : (n : Int) ≤ i
      · rw [if_neg (by simp), if_pos (Or.inr h2)]
        go_enter Try.func50, Try.ntmps50
        go_wp2_with fail
        refine cG.mono ?_
        rintro e w2 ⟨rfl, rfl⟩
        go_wp2
        go_ret
        exact ⟨rfl, rfl⟩
      · rw [if_neg (by simp), if_neg (by omega)]
        go_enter Try.func50, Try.ntmps50
        go_wp2_with fail
        refine cG.mono ?_
        rintro e w2 ⟨rfl, rfl⟩
        go_wp2
        go_ret
        exact ⟨rfl, rfl⟩
  · rw [hg] at cG
    rw [if_pos rfl]
    go_enter Try.func50, Try.ntmps50
    go_wp2_with fail
    refine cG.mono ?_
    rintro e w2 ⟨rfl, rfl⟩
    go_wp2
    go_ret
    exact ⟨rfl, rfl⟩
/-- A sector out of the midst. -/
def GetPost (B : Nat) (st : St) (i : Int) (w : World) (e : Ending) (w' : World) : Prop := w = w' ∧ e = .returned (.tuple #[.string (if askI st.now.length st.lim st.left i = 0 then st.now.getD i.toNat ⟨#[]⟩ else ⟨#[]⟩), .int .i64 (askI st.now.length st.lim st.left i)])
set_option maxHeartbeats 2000000 in
theorem get_c (B b : Nat) (st : St) (i : Int) (w : World) (h : Dev B w b st) (hg : Good st) :
    Calls Try.prog 28 #[.pointer (some ⟨b, 0, none⟩), .int .i64 i] w (GetPost B st i w) := by
  unfold GetPost
  obtain ⟨gn, gs, vp, h⟩ := h
  obtain ⟨c0, c1, c2, c3, c4⟩ := h.cells
  have cA := ask_c b _ _ _ _ _ i w c0 c3 c4
  by_cases ha : askI st.now.length st.lim st.left i = 0
  · rw [if_pos ha]
    rw [ha] at cA ⊢
    obtain ⟨k, rfl, hk⟩ : ∃ k : Nat, i = k ∧ k < st.now.length := by
      unfold askI at ha
      split at ha
      · cases ha
      · split at ha
        · cases ha
        · exact ⟨i.toNat, by omega, by omega⟩
    have hx : st.now[k]? = some (st.now.getD k ⟨#[]⟩) := by rw [List.getD_eq_getElem?_getD, List.getElem?_eq_getElem hk]; rfl
    have hr := range_of_flat sec 64 (R := []) (fun s hs => by rw [sec_length]; exact hg.szn s hs) hx (w := w) (b := gn) (T := 79) (fr := (0, 0)) (by rw [List.append_nil]; exact h.nw)
    have hsz : (st.now.getD k ⟨#[]⟩).size = 64 := hg.szn _ (List.mem_of_getElem? hx)
    rw [show ((k : Int).toNat) = k from rfl]
    have hkz : (k : Int) < (st.now.length : Int) := by omega
    generalize st.now.getD k ⟨#[]⟩ = x at *
    generalize st.now.length = n at *
    have hc : (convert 86 9 (.slice (some ⟨gn, k * 64, none⟩) 64 64)).run Try.prog w = .ok (.string x) w := by
      have := run_convert_bytes_back (P := Try.prog) w 86 9 5 ⟨gn, k * 64, none⟩ 64 x.data.toList Try.underlying86 Try.underlying5 Try.underlying9 (fun j hj => by
        rw [Addr.add_mid]
        exact hr j _ (by simp [sec, List.getElem?_eq_getElem hj]))
      have hl : x.data.toList.length = 64 := by rw [← hsz]; simp
      rw [hl] at this
      rw [this]
    clear h hg hr ha hx hk
    go_enter Try.func28, Try.ntmps28
    go_wp2_with fail
    refine cA.mono ?_
    rintro e w2 ⟨rfl, rfl⟩
    go_wp2
    go_ret2
    exact ⟨rfl, rfl⟩
  · rw [if_neg ha]
    have hne : (askI st.now.length st.lim st.left i == 0) = false := by simpa using ha
    generalize askI st.now.length st.lim st.left i = q at *
    generalize st.now.length = n at *
    clear h hg
    go_enter Try.func28, Try.ntmps28
    go_wp2_with fail
    refine cA.mono ?_
    rintro e w2 ⟨rfl, rfl⟩
    go_wp2
    go_ret2
    exact ⟨rfl, rfl⟩
end Go.Proofs.Ytmpfdmjbgabcdaa
