/-
  A list of calls (stage 6): what its memory holds; of what size they are.
-/
import Derived.Test.YtdjfojpfnfhaiaaSeDoAll
namespace Go.Proofs.Ytdjfojpfnfhaiaa
open Go.RowKit Go.Sort
set_option linter.unusedVariables false

structure OpV where
  X : Int
  I : Int
  N : Int
  s : ByteArray
  kv : Value
  l : List Int
/-- The call o lies in block g from place p on. -/
structure OpIs (w : World) (g p : Nat) (o : OpV) : Prop where
  c0 : w.cell? ⟨g, p, none⟩ = some (.int .u8 o.X)
  c1 : w.cell? ⟨g, p + 1, none⟩ = some (.int .i64 o.I)
  c2 : w.cell? ⟨g, p + 2, none⟩ = some (.int .i64 o.N)
  c3 : w.cell? ⟨g, p + 3, none⟩ = some (.string o.s)
  c4 : w.cell? ⟨g, p + 4, none⟩ = some o.kv
  nums : NumsIs w o.kv o.l
structure OpOk (o : OpV) : Prop where
  x0 : 0 ≤ o.X
  x1 : o.X ≤ 255
  n0 : -9223372036854775808 ≤ o.N
  n1 : o.N ≤ 9223372036854775807
def OpsIs (w : World) (v : Value) (l : List OpV) : Prop :=
  (l = [] ∧ ∃ a cap, v = .slice a 0 cap) ∨
  (∃ g off cap, g < w.heap.size ∧ v = .slice (some ⟨g, off, none⟩) l.length cap ∧ ∀ j o, l[j]? = some o → OpIs w g (off + j * 5) o)
theorem OpIs.kept {w w' : World} {g p : Nat} {o : OpV} (h : OpIs w g p o) (hg : g < w.heap.size) (hb : Below w.heap.size w w') : OpIs w' g p o :=
  ⟨by rw [hb.cell (p := ⟨g, p, none⟩) hg]; exact h.c0, by rw [hb.cell (p := ⟨g, p + 1, none⟩) hg]; exact h.c1, by rw [hb.cell (p := ⟨g, p + 2, none⟩) hg]; exact h.c2, by rw [hb.cell (p := ⟨g, p + 3, none⟩) hg]; exact h.c3, by rw [hb.cell (p := ⟨g, p + 4, none⟩) hg]; exact h.c4, h.nums.kept hb⟩
theorem OpsIs.kept {w w' : World} {v : Value} {l : List OpV} (h : OpsIs w v l) (hb : Below w.heap.size w w') : OpsIs w' v l := by
  rcases h with h | ⟨g, off, cap, hg, hv, hc⟩
  · exact Or.inl h
  · exact Or.inr ⟨g, off, cap, by have := hb.size; omega, hv, fun j o hj => (hc j o hj).kept hg hb⟩
theorem OpsIs.len {w : World} {v : Value} {l : List OpV} (h : OpsIs w v l) : ∃ a cap, v = .slice a l.length cap := by
  rcases h with ⟨rfl, a, cap, hv⟩ | ⟨g, off, cap, hg, hv, hc⟩
  · exact ⟨a, cap, hv⟩
  · exact ⟨_, cap, hv⟩
theorem OpsIs.at {w : World} {a : Option Addr} {n cap : Nat} {l : List OpV} (h : OpsIs w (.slice a n cap) l) {j : Nat} {o : OpV} (hj : l[j]? = some o) : ∃ g off, a = some ⟨g, off, none⟩ ∧ g < w.heap.size ∧ OpIs w g (off + j * 5) o := by
  rcases h with ⟨rfl, _⟩ | ⟨g, off, cap', hg, hv, hc⟩
  · cases hj
  · injection hv with h1 h2 h3
    exact ⟨g, off, h1, hg, hc j o hj⟩
/-- Calls of a size that is looked at. -/
def Few (l : List OpV) : Prop := l.length ≤ 150 ∧ ∀ o ∈ l, o.s.size ≤ 200 ∧ o.l.length ≤ 100
theorem no_few {l : List OpV} {b : Bool} (h : b = true ↔ Few l) (hn : ¬ Few l) : b = false := by
  cases b
  · rfl
  · exact absurd (h.1 rfl) hn
set_option maxHeartbeats 4000000 in
set_option maxRecDepth 100000 in
theorem few_c (v : Value) (l : List OpV) (w : World) (hv : OpsIs w v l) (hl : l.length ≤ 9223372036854775807) (b : Bool) (hb : b = true ↔ Few l) :
    Calls Try.prog 7 #[v] w (fun e w' => e = .returned (.bool b) ∧ w = w') := by
  have HBF := Lib.hid hb
  clear hb
  obtain ⟨a, cap, rfl⟩ := hv.len
  obtain ⟨n, hn⟩ : ∃ n, l.length = n := ⟨_, rfl⟩
  have HV := Lib.hid hv
  have HN := Lib.hid hn
  rw [hn] at hl ⊢
  clear hv hn
  go_enter Try.func7, Try.ntmps7
  go_wp2
  go_loopw [3] (fun iv wr => ∃ i : Nat, i ≤ n ∧ i ≤ 300 ∧ iv = .int .i64 i ∧ (∀ o ∈ l.take i, o.s.size ≤ 200 ∧ o.l.length ≤ 100) ∧ wr = w) (fun iv _ => 301 - (intOf iv).toNat)
  case atStart => exact ⟨0, by omega, by omega, rfl, (by simp), rfl⟩
  case round =>
    obtain ⟨i, hi, hi3, rfl, hall, rfl⟩ := hrel
    have HALL := Lib.hid hall
    clear hall
    by_cases hin : i < n
    · have hiz : (i : Int) < (n : Int) := by omega
      by_cases hi300 : i < 300
      · have hi3z : (i : Int) < 300 := by omega
        obtain ⟨o, ho⟩ : ∃ o, l[i]? = some o := ⟨_, List.getElem?_eq_getElem (by rw [HN.out]; exact hin)⟩
        obtain ⟨g, off, rfl, hg, hop⟩ := HV.out.at ho
        obtain ⟨ak, ck, hk⟩ := hop.nums.len
        have c3 := hop.c3
        have c4 := hop.c4
        rw [hk] at c4
        have HTK : Hid (l.take (i + 1) = l.take i ++ [o]) := Lib.hid (take_snoc ho)
        have HMEM : Hid (o ∈ l) := Lib.hid (List.mem_of_getElem? ho)
        clear hop hk ho hg
        generalize hz : o.s.size = z at *
        generalize hy : o.l.length = y at *
        have HZ := Lib.hid hz
        have HY := Lib.hid hy
        obtain ⟨sx, hsx⟩ : ∃ sx, o.s = sx := ⟨_, rfl⟩
        rw [hsx] at c3 hz
        clear hsx hy
        by_cases hz2 : (200 : Int) < (z : Int)
        · obtain rfl := no_few HBF.out (fun h => by have := (h.2 o HMEM.out).1; have := HZ.out; omega)
          go_wp2
          go_ret
          exact ⟨rfl, rfl⟩
        · by_cases hy1 : (100 : Int) < (y : Int)
          · obtain rfl := no_few HBF.out (fun h => by have := (h.2 o HMEM.out).2; have := HY.out; omega)
            go_wp2
            go_ret
            exact ⟨rfl, rfl⟩
          · have HOK : Hid (∀ q ∈ l.take (i + 1), q.s.size ≤ 200 ∧ q.l.length ≤ 100) := Lib.hid (fun q hq => by
              rw [HTK.out] at hq
              rcases List.mem_append.1 hq with hq | hq
              · exact HALL.out q hq
              · rw [List.mem_singleton.1 hq, HZ.out, HY.out]; omega)
            go_wp2
            go_roundw
            case rel => exact ⟨i + 1, by omega, by omega, by first | rfl | go_num, HOK.out, by first | rfl | trivial⟩
            case measure => simp [intOf]; omega
      · have hi3z : ¬ ((i : Int) < 300) := by omega
        have hbig : ¬ ((n : Int) ≤ 150) := by omega
        have hbd : decide ((n : Int) ≤ 150) = false := decide_eq_false hbig
        obtain rfl := no_few HBF.out (fun h => by have := h.1; have := HN.out; omega)
        go_wp2
        go_ret
        exact ⟨rfl, rfl⟩
    · have hge : ¬ ((i : Int) < (n : Int)) := by omega
      have HTA : Hid (l.take i = l) := Lib.hid (List.take_of_length_le (by rw [HN.out]; omega))
      by_cases hnb : (n : Int) ≤ 150
      · obtain rfl : b = true := HBF.out.2 ⟨by rw [HN.out]; omega, by have := HALL.out; rwa [HTA.out] at this⟩
        go_wp2
        go_ret
        exact ⟨rfl, rfl⟩
      · have hbd : decide ((n : Int) ≤ 150) = false := decide_eq_false hnb
        obtain rfl := no_few HBF.out (fun h => by have := h.1; have := HN.out; omega)
        go_wp2
        go_ret
        exact ⟨rfl, rfl⟩
end Go.Proofs.Ytdjfojpfnfhaiaa
