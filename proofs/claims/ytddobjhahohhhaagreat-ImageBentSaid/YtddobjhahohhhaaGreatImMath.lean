/-
  Images and their bytes, plainly: what an image is of, and that just these bytes are read as it.
-/
import Derived.Test.YtddobjhahohhhaaGreatDeMath
import Derived.Test.YtddobjhahohhhaaGreatMkMath
namespace Go.Proofs.YtddobjhahohhhaaGreat
open Go.RowKit Go.Sort
set_option linter.unusedVariables false
set_option linter.unusedSimpArgs false

/-! Numbers of so many bytes, both ways. -/
def valB (l : List UInt8) : Nat := l.foldl (fun n b => n * 256 + b.toNat) 0
theorem val_from (l : List UInt8) : ∀ a : Nat, l.foldl (fun n b => n * 256 + b.toNat) a = a * 256 ^ l.length + valB l := by
  induction l with
  | nil => intro a; simp [valB]
  | cons b l ih =>
    intro a
    have h1 := ih (a * 256 + b.toNat)
    have h2 := ih (0 * 256 + b.toNat)
    show l.foldl _ (a * 256 + b.toNat) = a * 256 ^ (l.length + 1) + l.foldl _ (0 * 256 + b.toNat)
    rw [h1, h2, Nat.pow_succ]
    simp only [Nat.zero_mul, Nat.zero_add, Nat.add_mul, Nat.mul_assoc, Nat.mul_comm 256, Nat.add_assoc]
theorem val_cons (b : UInt8) (l : List UInt8) : valB (b :: l) = b.toNat * 256 ^ l.length + valB l := by
  show l.foldl _ (0 * 256 + b.toNat) = _
  rw [val_from, Nat.zero_mul, Nat.zero_add]
theorem val_lt (l : List UInt8) : valB l < 256 ^ l.length := by
  induction l with
  | nil => decide
  | cons b l ih =>
    rw [val_cons, List.length_cons, Nat.pow_succ]
    have h := b.toNat_lt
    have h2 : b.toNat * 256 ^ l.length ≤ 255 * 256 ^ l.length := Nat.mul_le_mul_right _ (by omega)
    omega
theorem beB_add (a m n : Nat) : ∀ k, beB (a * 256 ^ (k + m) + n) k = beB n k := by
  intro k
  induction k generalizing m with
  | zero => rfl
  | succ k ih =>
    show UInt8.ofNat _ :: beB _ k = UInt8.ofNat _ :: beB n k
    have h1 : a * 256 ^ (k + 1 + m) = a * 256 ^ (k + (m + 1)) := by rw [show k + 1 + m = k + (m + 1) by omega]
    rw [h1, ih (m + 1)]
    have h2 : (a * 256 ^ (k + (m + 1)) + n) / 256 ^ k = n / 256 ^ k + a * 256 ^ m * 256 := by
      rw [Nat.pow_add, show a * (256 ^ k * 256 ^ (m + 1)) = (a * 256 ^ m * 256) * 256 ^ k by rw [Nat.pow_succ]; simp only [Nat.mul_assoc, Nat.mul_comm, Nat.mul_left_comm], Nat.add_comm, Nat.add_mul_div_right _ _ (Nat.pow_pos (by decide))]
    rw [h2]
    congr 1
    apply UInt8.toNat_inj.1
    rw [u8_of, u8_of, Nat.add_mul_mod_self_right]
theorem beB_val (l : List UInt8) : beB (valB l) l.length = l := by
  induction l with
  | nil => rfl
  | cons b l ih =>
    rw [val_cons]
    show UInt8.ofNat _ :: beB _ l.length = b :: l
    have h := beB_add b.toNat 0 (valB l) l.length
    rw [Nat.add_zero] at h
    rw [h, ih]
    congr 1
    apply UInt8.toNat_inj.1
    have hv := val_lt l
    rw [u8_of, Nat.add_comm, Nat.add_mul_div_right _ _ (Nat.pow_pos (by decide)), Nat.div_eq_of_lt hv, Nat.zero_add]
    have := b.toNat_lt
    omega
theorem val_beB (n : Nat) : ∀ k, n < 256 ^ k → valB (beB n k) = n := by
  intro k
  induction k generalizing n with
  | zero => intro h; have : n = 0 := by simpa using h
            subst this; rfl
  | succ k ih =>
    intro h
    show valB (UInt8.ofNat _ :: beB n k) = n
    rw [val_cons, u8_of, beB_len]
    have hp : 0 < 256 ^ k := Nat.pow_pos (by decide)
    have hd : n / 256 ^ k < 256 := by
      rw [Nat.div_lt_iff_lt_mul hp]; rw [Nat.pow_succ] at h; omega
    rw [Nat.mod_eq_of_lt hd]
    have h2 : n = n / 256 ^ k * 256 ^ (k + 0) + n % 256 ^ k := by
      rw [Nat.add_zero, Nat.mul_comm]; exact (Nat.div_add_mod n _).symm
    have h3 : beB n k = beB (n % 256 ^ k) k := by
      conv => lhs; rw [h2]
      exact beB_add _ 0 _ k
    rw [h3, ih _ (Nat.mod_lt _ hp), Nat.mul_comm]
    exact Nat.div_add_mod n _
/-- Reading a number, strictly. -/
def takeN (k : Nat) (l : List UInt8) : Option (Nat × List UInt8) := if k ≤ l.length then some (rdN k l, l.drop k) else none
theorem rd_val (k : Nat) (l : List UInt8) : rdN k l = valB (l.take k) := rfl
theorem takeN_iff {k : Nat} {l : List UInt8} {n : Nat} {r : List UInt8} : takeN k l = some (n, r) ↔ l = beB n k ++ r ∧ n < 256 ^ k := by
  unfold takeN
  constructor
  · intro h
    split at h
    · rename_i hk
      obtain ⟨h1, h2⟩ := Prod.mk.inj (Option.some.inj h)
      have hl : (l.take k).length = k := by rw [List.length_take]; omega
      have e1 := beB_val (l.take k)
      rw [hl, ← rd_val, h1] at e1
      have e2 := val_lt (l.take k)
      rw [hl, ← rd_val, h1] at e2
      refine ⟨?_, e2⟩
      rw [e1, ← h2, List.take_append_drop]
    · exact absurd h (by simp)
  · rintro ⟨rfl, h⟩
    rw [if_pos (by rw [List.length_append, beB_len]; omega), beB_drop, rd_val, beB_take, val_beB n k h]
/-- Reading so many bytes. -/
def takeB (k : Nat) (l : List UInt8) : Option (ByteArray × List UInt8) := if k ≤ l.length then some (⟨(l.take k).toArray⟩, l.drop k) else none
theorem takeB_iff {k : Nat} {l : List UInt8} {s : ByteArray} {r : List UInt8} : takeB k l = some (s, r) ↔ l = s.data.toList ++ r ∧ s.size = k := by
  unfold takeB
  constructor
  · intro h
    split at h
    · rename_i hk
      obtain ⟨h1, h2⟩ := Prod.mk.inj (Option.some.inj h)
      subst h1 h2
      refine ⟨?_, ?_⟩
      · show l = (l.take k).toArray.toList ++ l.drop k
        rw [List.take_append_drop]
      · show (l.take k).toArray.size = k
        rw [List.size_toArray, List.length_take]
        omega
    · exact absurd h (by simp)
  · rintro ⟨rfl, rfl⟩
    have hs : s.data.toList.length = s.size := Array.length_toList
    rw [if_pos (by rw [List.length_append, hs]; omega), List.take_left' hs, List.drop_left' hs]

/-! An entry, a directory, an image. -/
def entY (e : Ent) : List UInt8 := nameB e.name ++ (beB e.node.toNat 2 ++ (beB (boolN e.dir) 1 ++ (beB e.cookie.toNat 8 ++ beB e.short.toNat 4)))
def EntOk (e : Ent) : Prop := e.name.size < 256 ∧ (0 ≤ e.node ∧ e.node < 65536) ∧ (0 ≤ e.cookie ∧ e.cookie < 18446744073709551616) ∧ (0 ≤ e.short ∧ e.short < 4294967296)
def entP (l : List UInt8) : Option (Ent × List UInt8) :=
  (takeN 1 l).bind fun a => (takeB a.1 a.2).bind fun s => (takeN 2 s.2).bind fun n => (takeN 1 n.2).bind fun d =>
    if 1 < d.1 then none else (takeN 8 d.2).bind fun c => (takeN 4 c.2).bind fun h => some (⟨s.1, n.1, decide (d.1 = 1), c.1, h.1⟩, h.2)
theorem entP_iff {l : List UInt8} {e : Ent} {r : List UInt8} : entP l = some (e, r) ↔ l = entY e ++ r ∧ EntOk e := by
  unfold entP
  constructor
  · intro h
    obtain ⟨⟨a, l1⟩, h1, h⟩ := Option.bind_eq_some_iff.1 h
    obtain ⟨⟨s, l2⟩, h2, h⟩ := Option.bind_eq_some_iff.1 h
    obtain ⟨⟨n, l3⟩, h3, h⟩ := Option.bind_eq_some_iff.1 h
    obtain ⟨⟨d, l4⟩, h4, h⟩ := Option.bind_eq_some_iff.1 h
    split at h
    · exact absurd h (by simp)
    · rename_i hd
      obtain ⟨⟨c, l5⟩, h5, h⟩ := Option.bind_eq_some_iff.1 h
      obtain ⟨⟨q, l6⟩, h6, h⟩ := Option.bind_eq_some_iff.1 h
      obtain ⟨g1, g2⟩ := Prod.mk.inj (Option.some.inj h)
      subst g1 g2
      obtain ⟨rfl, k1⟩ := takeN_iff.1 h1
      obtain ⟨e2, rfl⟩ := takeB_iff.1 h2
      obtain ⟨e3, k3⟩ := takeN_iff.1 h3
      obtain ⟨e4, k4⟩ := takeN_iff.1 h4
      obtain ⟨e5, k5⟩ := takeN_iff.1 h5
      obtain ⟨e6, k6⟩ := takeN_iff.1 h6
      simp only at e2 e3 e4 e5 e6 hd k1
      subst e2 e3 e4 e5 e6
      refine ⟨?_, k1, ⟨Int.natCast_nonneg _, by show (n : Int) < _; omega⟩, ⟨Int.natCast_nonneg _, by show (c : Int) < _; omega⟩, ⟨Int.natCast_nonneg _, by show (q : Int) < _; omega⟩⟩
      have hb : boolN (decide (d = 1)) = d := by
        unfold boolN
        have : d = 0 ∨ d = 1 := by omega
        rcases this with rfl | rfl <;> rfl
      unfold entY nameB
      simp only [Int.toNat_natCast, hb, List.append_assoc]
  · rintro ⟨rfl, k1, ⟨k2, k3⟩, ⟨k4, k5⟩, ⟨k6, k7⟩⟩
    obtain ⟨s, n, d, c, q⟩ := e
    simp only at k1 k2 k3 k4 k5 k6 k7
    obtain ⟨n, rfl⟩ : ∃ m : Nat, n = m := ⟨n.toNat, by omega⟩
    obtain ⟨c, rfl⟩ : ∃ m : Nat, c = m := ⟨c.toNat, by omega⟩
    obtain ⟨q, rfl⟩ : ∃ m : Nat, q = m := ⟨q.toNat, by omega⟩
    unfold entY nameB
    simp only [Int.toNat_natCast, List.append_assoc]
    have hb : boolN d < 2 := by unfold boolN; split <;> omega
    rw [takeN_iff.2 ⟨rfl, k1⟩]
    simp only [Option.bind_some]
    rw [takeB_iff.2 ⟨rfl, rfl⟩]
    simp only [Option.bind_some]
    rw [takeN_iff.2 ⟨rfl, by omega⟩]
    simp only [Option.bind_some]
    rw [takeN_iff.2 ⟨rfl, by omega⟩]
    simp only [Option.bind_some]
    rw [if_neg (by omega), takeN_iff.2 ⟨rfl, by omega⟩]
    simp only [Option.bind_some]
    rw [takeN_iff.2 ⟨rfl, by omega⟩]
    simp only [Option.bind_some]
    cases d <;> rfl
/-- So many, one behind the other. -/
def manyP {α : Type} (P : List UInt8 → Option (α × List UInt8)) : Nat → List UInt8 → Option (List α × List UInt8)
  | 0, l => some ([], l)
  | n + 1, l => (P l).bind fun x => (manyP P n x.2).bind fun y => some (x.1 :: y.1, y.2)
theorem manyP_iff {α : Type} {P : List UInt8 → Option (α × List UInt8)} {B : α → List UInt8} {ok : α → Prop}
    (hP : ∀ l x r, P l = some (x, r) ↔ l = B x ++ r ∧ ok x) : ∀ {n : Nat} {l : List UInt8} {xs : List α} {r : List UInt8},
    manyP P n l = some (xs, r) ↔ l = xs.flatMap B ++ r ∧ xs.length = n ∧ ∀ x ∈ xs, ok x := by
  intro n
  induction n with
  | zero =>
    intro l xs r
    constructor
    · intro h
      obtain ⟨rfl, rfl⟩ := Prod.mk.inj (Option.some.inj h)
      exact ⟨rfl, rfl, fun _ h => absurd h (by simp)⟩
    · rintro ⟨rfl, h, _⟩
      obtain rfl := List.eq_nil_of_length_eq_zero h
      rfl
  | succ n ih =>
    intro l xs r
    unfold manyP
    constructor
    · intro h
      obtain ⟨⟨x, l1⟩, h1, h⟩ := Option.bind_eq_some_iff.1 h
      obtain ⟨⟨ys, l2⟩, h2, h⟩ := Option.bind_eq_some_iff.1 h
      obtain ⟨rfl, rfl⟩ := Prod.mk.inj (Option.some.inj h)
      obtain ⟨rfl, o1⟩ := (hP _ _ _).1 h1
      obtain ⟨e2, rfl, o2⟩ := ih.1 h2
      simp only at e2
      subst e2
      refine ⟨by simp only [List.flatMap_cons, List.append_assoc], rfl, fun y hy => ?_⟩
      rcases List.mem_cons.1 hy with rfl | hy
      · exact o1
      · exact o2 y hy
    · rintro ⟨rfl, h, o⟩
      obtain _ | ⟨x, ys⟩ := xs
      · exact absurd h (by simp)
      · rw [List.flatMap_cons, List.append_assoc, (hP _ x _).2 ⟨rfl, o x (List.mem_cons_self ..)⟩]
        simp only [Option.bind_some]
        rw [ih.2 ⟨rfl, by simpa using h, fun y hy => o y (List.mem_cons_of_mem _ hy)⟩]
        rfl
def dirsB (d : Int × List Ent) : List UInt8 := beB d.1.toNat 2 ++ (beB d.2.length 2 ++ d.2.flatMap entY)
def DirOk (d : Int × List Ent) : Prop := (0 ≤ d.1 ∧ d.1 < 65536) ∧ d.2.length < 65536 ∧ ∀ e ∈ d.2, EntOk e
def dirP (l : List UInt8) : Option ((Int × List Ent) × List UInt8) :=
  (takeN 2 l).bind fun q => (takeN 2 q.2).bind fun n => (manyP entP n.1 n.2).bind fun es => some (((q.1 : Int), es.1), es.2)
theorem dirP_iff {l : List UInt8} {d : Int × List Ent} {r : List UInt8} : dirP l = some (d, r) ↔ l = dirsB d ++ r ∧ DirOk d := by
  unfold dirP
  constructor
  · intro h
    obtain ⟨⟨q, l1⟩, h1, h⟩ := Option.bind_eq_some_iff.1 h
    obtain ⟨⟨n, l2⟩, h2, h⟩ := Option.bind_eq_some_iff.1 h
    obtain ⟨⟨es, l3⟩, h3, h⟩ := Option.bind_eq_some_iff.1 h
    obtain ⟨rfl, rfl⟩ := Prod.mk.inj (Option.some.inj h)
    obtain ⟨rfl, k1⟩ := takeN_iff.1 h1
    obtain ⟨e2, k2⟩ := takeN_iff.1 h2
    obtain ⟨e3, rfl, o⟩ := (manyP_iff fun l x r => entP_iff).1 h3
    simp only at e2 e3
    subst e2 e3
    refine ⟨?_, ⟨Int.natCast_nonneg _, by show (q : Int) < _; omega⟩, k2, o⟩
    unfold dirsB
    simp only [Int.toNat_natCast, List.append_assoc]
  · rintro ⟨rfl, ⟨k1, k2⟩, k3, o⟩
    obtain ⟨q, es⟩ := d
    simp only at k1 k2 k3 o
    obtain ⟨q, rfl⟩ : ∃ m : Nat, q = m := ⟨q.toNat, by omega⟩
    unfold dirsB
    simp only [Int.toNat_natCast, List.append_assoc]
    rw [takeN_iff.2 ⟨rfl, by omega⟩]
    simp only [Option.bind_some]
    rw [takeN_iff.2 ⟨rfl, by omega⟩]
    simp only [Option.bind_some]
    rw [(manyP_iff fun l x r => entP_iff).2 ⟨rfl, rfl, o⟩]
    rfl
/-- The bytes of a next cookie and directories. -/
def imgB (nx : Int) (ds : List (Int × List Ent)) : List UInt8 := beB nx.toNat 8 ++ (beB ds.length 2 ++ ds.flatMap dirsB)
def ImgOk (nx : Int) (ds : List (Int × List Ent)) : Prop := (0 ≤ nx ∧ nx < 18446744073709551616) ∧ ds.length < 65536 ∧ ∀ d ∈ ds, DirOk d
def imgP (l : List UInt8) : Option (Int × List (Int × List Ent)) :=
  (takeN 8 l).bind fun c => (takeN 2 c.2).bind fun n => (manyP dirP n.1 n.2).bind fun ds => if ds.2 = [] then some ((c.1 : Int), ds.1) else none
/-- Just these bytes are read as it. -/
theorem imgP_iff {l : List UInt8} {nx : Int} {ds : List (Int × List Ent)} : imgP l = some (nx, ds) ↔ l = imgB nx ds ∧ ImgOk nx ds := by
  unfold imgP
  constructor
  · intro h
    obtain ⟨⟨c, l1⟩, h1, h⟩ := Option.bind_eq_some_iff.1 h
    obtain ⟨⟨n, l2⟩, h2, h⟩ := Option.bind_eq_some_iff.1 h
    obtain ⟨⟨ys, l3⟩, h3, h⟩ := Option.bind_eq_some_iff.1 h
    split at h
    · rename_i hl
      obtain ⟨rfl, rfl⟩ := Prod.mk.inj (Option.some.inj h)
      obtain ⟨rfl, k1⟩ := takeN_iff.1 h1
      obtain ⟨e2, k2⟩ := takeN_iff.1 h2
      obtain ⟨e3, rfl, o⟩ := (manyP_iff fun l x r => dirP_iff).1 h3
      simp only at e2 e3 hl
      subst e2 e3 hl
      refine ⟨?_, ⟨Int.natCast_nonneg _, by show (c : Int) < _; omega⟩, k2, o⟩
      unfold imgB
      simp only [Int.toNat_natCast, List.append_nil]
    · exact absurd h (by simp)
  · rintro ⟨rfl, ⟨k1, k2⟩, k3, o⟩
    obtain ⟨c, rfl⟩ : ∃ m : Nat, nx = m := ⟨nx.toNat, by omega⟩
    unfold imgB
    simp only [Int.toNat_natCast]
    rw [takeN_iff.2 ⟨rfl, by omega⟩]
    simp only [Option.bind_some]
    rw [takeN_iff.2 ⟨rfl, by omega⟩]
    simp only [Option.bind_some]
    rw [(manyP_iff (r := []) fun l x r => dirP_iff).2 ⟨by rw [List.append_nil], rfl, o⟩]
    rfl
theorem img_inj {a b : Int} {ds es : List (Int × List Ent)} (ha : ImgOk a ds) (hb : ImgOk b es) (h : imgB a ds = imgB b es) : a = b ∧ ds = es := by
  have h1 := imgP_iff.2 ⟨rfl, ha⟩
  have h2 := imgP_iff.2 ⟨h, hb⟩
  rw [h1] at h2
  exact Prod.mk.inj (Option.some.inj h2)

/-! How long an image is. -/
def entsLen (ds : List (Int × List Ent)) : Nat := (ds.map fun d => d.2.length).sum
theorem entY_len (e : Ent) (h : e.name.size < 256) : (entY e).length ≤ 271 := by
  unfold entY
  simp only [List.length_append, beB_len, nameB_len]
  omega
theorem ents_len (es : List Ent) (h : ∀ e ∈ es, e.name.size < 256) : (es.flatMap entY).length ≤ 271 * es.length := by
  induction es with
  | nil => simp
  | cons e es ih =>
    have h1 := entY_len e (h e (List.mem_cons_self ..))
    have h2 := ih fun x hx => h x (List.mem_cons_of_mem _ hx)
    rw [List.flatMap_cons, List.length_append, List.length_cons]
    omega
theorem dirs_len (ds : List (Int × List Ent)) (h : ∀ d ∈ ds, ∀ e ∈ d.2, e.name.size < 256) : (ds.flatMap dirsB).length ≤ 4 * ds.length + 271 * entsLen ds := by
  induction ds with
  | nil => simp [entsLen]
  | cons d ds ih =>
    have h1 := ents_len d.2 (h d (List.mem_cons_self ..))
    have h2 := ih fun x hx => h x (List.mem_cons_of_mem _ hx)
    have h3 : entsLen (d :: ds) = d.2.length + entsLen ds := rfl
    have h4 : (dirsB d).length = 4 + (d.2.flatMap entY).length := by
      unfold dirsB
      simp only [List.length_append, beB_len]
      omega
    rw [List.flatMap_cons, List.length_append, List.length_cons, h3, h4]
    omega
theorem img_len (nx : Int) (ds : List (Int × List Ent)) (h : ∀ d ∈ ds, ∀ e ∈ d.2, e.name.size < 256) (h1 : ds.length ≤ 201) (h2 : entsLen ds ≤ 200) : (imgB nx ds).length ≤ 60000 := by
  have h3 := dirs_len ds h
  unfold imgB
  simp only [List.length_append, beB_len]
  omega
end Go.Proofs.YtddobjhahohhhaaGreat
