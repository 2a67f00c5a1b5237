/- Kit. -/
import Derived.Lib.Hide
import Derived.Test.YtfioknaadbgjlaaGreatDoorEQ1
import Derived.Handy
import Derived.PlainAid
import Derived.Laws.IdiomStrings
import Derived.IntWalk
set_option maxRecDepth 100000
set_option linter.unusedVariables false
set_option linter.unusedSimpArgs false
namespace Go.Proofs.YtfioknaadbgjlaaGreatDoor
/-- Parted at each /. -/
def splitB : List UInt8 → List (List UInt8)
  | [] => [[]]
  | c :: t => if c = 47 then [] :: splitB t else match splitB t with
    | h :: r => (c :: h) :: r
    | [] => [[c]]
theorem splitB_ne (l : List UInt8) : splitB l ≠ [] := by
  cases l with
  | nil => simp [splitB]
  | cons c t =>
    unfold splitB
    split
    · simp
    · split <;> simp
/-- The first part goes on in front. -/
def frontB (a : List UInt8) (l : List (List UInt8)) : List (List UInt8) := match l with
  | h :: r => (a ++ h) :: r
  | [] => [a]
theorem frontB_nil (l : List (List UInt8)) (h : l ≠ []) : frontB [] l = l := by
  cases l with
  | nil => exact absurd rfl h
  | cons a r => rfl
theorem splitB_char {c : UInt8} (h : c ≠ 47) (t : List UInt8) : splitB (c :: t) = frontB [c] (splitB t) := by
  rw [splitB, if_neg h]
  unfold frontB
  split <;> rfl
theorem splitB_sl (t : List UInt8) : splitB (47 :: t) = [] :: splitB t := by rw [splitB, if_pos rfl]
theorem frontB_front (a b : List UInt8) (l : List (List UInt8)) : frontB a (frontB b l) = frontB (a ++ b) l := by
  cases l with
  | nil => rfl
  | cons h r => simp [frontB]
theorem splitB_pre : ∀ (a t : List UInt8), (∀ c ∈ a, c ≠ 47) → splitB (a ++ t) = frontB a (splitB t)
  | [], t, _ => (frontB_nil _ (splitB_ne t)).symm
  | c :: a, t, h => by
    rw [List.cons_append, splitB_char (h c (by simp)), splitB_pre a t (fun x hx => h x (by simp [hx])), frontB_front]
    rfl
/-- Names, each behind a /. -/
def joinP (ns : List (List UInt8)) : List UInt8 := ns.flatMap fun s => 47 :: s
theorem split_join : ∀ (ns : List (List UInt8)) (s : List UInt8), (∀ c ∈ s, c ≠ 47) → (∀ x ∈ ns, ∀ c ∈ x, c ≠ 47) → splitB (s ++ joinP ns) = s :: ns
  | [], s, h, _ => by
    rw [splitB_pre s _ h]
    simp [joinP, splitB, frontB]
  | x :: ns, s, h, hn => by
    rw [splitB_pre s _ h]
    show frontB s (splitB (47 :: (x ++ joinP ns))) = _
    rw [splitB_sl, split_join ns x (hn x (by simp)) (fun y hy => hn y (by simp [hy]))]
    simp [frontB]
/-- A name that can't be. -/
def badN (s : List UInt8) : Bool := decide (s = []) || decide (s = [46]) || decide (s = [46, 46])
/-- A path's names, and the error. -/
def splitI (p : List UInt8) : List (List UInt8) × Int :=
  if 1024 < p.length then ([], 4)
  else match p with
    | [] => ([], 3)
    | c :: t => if c ≠ 47 then ([], 3) else if t = [] then ([], 0) else if (splitB t).any badN = true then ([], 3) else if 16 < (splitB t).length then ([], 4) else (splitB t, 0)
/-- A path out of names that can be. -/
theorem splitI_of {x : List UInt8} {ns : List (List UInt8)} (hc : ∀ y ∈ x :: ns, ∀ c ∈ y, c ≠ 47) (hb : (x :: ns).any badN = false) : splitI (joinP (x :: ns)) = if 1024 < (joinP (x :: ns)).length then ([], 4) else if 16 < (x :: ns).length then ([], 4) else (x :: ns, 0) := by
  have hs : splitB (x ++ joinP ns) = x :: ns := split_join ns x (hc x (by simp)) (fun y hy => hc y (by simp [hy]))
  have hj : joinP (x :: ns) = 47 :: (x ++ joinP ns) := rfl
  have hx : x ++ joinP ns ≠ [] := by
    intro h
    have hx0 : x = [] := by cases x with
      | nil => rfl
      | cons a b => cases h
    rw [hx0] at hb
    simp [badN] at hb
  unfold splitI
  rw [hj]
  split
  · rfl
  · simp only
    rw [if_neg (by simp), if_neg hx, hs, if_neg (by rw [hb]; decide)]
theorem splitI_len (p : List UInt8) : (splitI p).1.length ≤ 16 := by
  unfold splitI
  split
  · exact Nat.zero_le _
  · split
    · exact Nat.zero_le _
    · split
      · exact Nat.zero_le _
      · split
        · exact Nat.zero_le _
        · split
          · exact Nat.zero_le _
          · split
            · exact Nat.zero_le _
            · show (splitB _).length ≤ 16
              omega
theorem bad_cases (s : List UInt8) : badN s = true ↔ (s = [] ∨ s = [46] ∨ s = [46, 46]) := by
  unfold badN
  simp only [Bool.or_eq_true, decide_eq_true_iff, or_assoc]
end Go.Proofs.YtfioknaadbgjlaaGreatDoor
namespace Go.Proofs.YtfioknaadbgjlaaGreatDoor
open Go.RowKit Go.Sort
def txC (s : ByteArray) : List Value := [.string s]
abbrev TxtsIs := @LstIs ByteArray txC 1
def mkS (l : List UInt8) : ByteArray := ⟨l.toArray⟩
theorem mkS_list (l : List UInt8) : (mkS l).data.toList = l := rfl
theorem mkS_of (b : ByteArray) : mkS b.data.toList = b := rfl
theorem txC_len (l : List ByteArray) : ∀ x ∈ l, (txC x).length = 1 := fun _ _ => rfl
theorem txC_one (s : ByteArray) : ∀ v ∈ txC s, v.oneCell' = true := fun v hv => by rw [List.mem_singleton.1 hv]; rfl
theorem txt_at {w : World} {a : Option Addr} {n cap : Nat} {l : List ByteArray} (h : TxtsIs w (.slice a n cap) l) {j : Nat} {s : ByteArray} (hj : l[j]? = some s) : ∃ g off, a = some ⟨g, off, none⟩ ∧ g < w.heap.size ∧ w.cell? ⟨g, off + j, none⟩ = some (.string s) := by
  obtain ⟨g, off, h1, h2, h3⟩ := h.at hj
  refine ⟨g, off, h1, h2, ?_⟩
  have := h3 0 _ rfl
  rw [Nat.mul_one, Nat.add_zero] at this
  exact this
/-- An own row of texts. -/
def OwnW (B : Nat) (w : World) (v : Value) (l : List ByteArray) : Prop := w.ownsRow B 9 1 v l.length (l.flatMap txC)
theorem OwnW.cap {B : Nat} {w : World} {a : Option Addr} {n c : Nat} {l : List ByteArray} (h : OwnW B w (.slice a n c) l) : n ≤ c := by
  rcases h.2 with ⟨hv, _⟩ | ⟨g, cap, cur, hv, _, _, h1, _⟩
  · injection hv with h1 h2 h3
    omega
  · injection hv with h2 h3 h4
    omega
/-- A slice within its capacity. -/
def CapOk (v : Value) : Prop := ∃ a n c, v = .slice a n c ∧ n ≤ c
theorem CapOk.none : CapOk (.slice none 0 0) := ⟨_, _, _, rfl, Nat.le_refl _⟩
theorem CapOk.le {a : Option Addr} {n c : Nat} (h : CapOk (.slice a n c)) : n ≤ c := by
  obtain ⟨_, _, _, hv, h1⟩ := h
  injection hv with h2 h3 h4
  omega
theorem infoStrW : (Tryz.prog.info? 9).map (fun i => (i.zero, i.size, i.bytes)) = some (some (.string ⟨#[]⟩), 1, 16) := by kernel_rfl
theorem below_draws {B : Nat} {a w : World} (h : Below B a w) (q : Nat) : Below B a (w.drewN q) := by
  induction q with
  | zero => exact h
  | succ q ih => exact ih.drew
end Go.Proofs.YtfioknaadbgjlaaGreatDoor
namespace Go.Proofs.YtfioknaadbgjlaaGreatDoor
open Go.RowKit Go.Sort
/-- What a find answers. -/
def fndV (o : Option Ent) : Value := match o with
  | some e => .tuple #[entV e, .bool true]
  | none => .tuple #[entV noEnt, .bool false]
/-- From a node along names: what is reached, whether it is a directory, the error. -/
def walkGo (fd : List Ent → List UInt8 → Option Ent) (l : List Itm) : Int → Bool → List (List UInt8) → Int × Bool × Int
  | n, d, [] => (n, d, 0)
  | n, d, x :: r => if d = false then (0, false, 8) else match fd (listI l n) x with
    | none => (0, false, 5)
    | some e => walkGo fd l e.node e.dir r
def walkI (fd : List Ent → List UInt8 → Option Ent) (l : List Itm) (ns : List (List UInt8)) : Int × Bool × Int := walkGo fd l 0 true ns
def nodeI (fd : List Ent → List UInt8 → Option Ent) (l : List Itm) (p : List UInt8) : Int × Bool × Int := if (splitI p).2 ≠ 0 then (0, false, (splitI p).2) else walkI fd l (splitI p).1
def parentI (fd : List Ent → List UInt8 → Option Ent) (l : List Itm) (p : List UInt8) : Int × List UInt8 × Int :=
  if (splitI p).2 ≠ 0 then (0, [], (splitI p).2)
  else if (splitI p).1 = [] then (0, [], 1)
  else if (walkI fd l (splitI p).1.dropLast).2.2 ≠ 0 then (0, [], (walkI fd l (splitI p).1.dropLast).2.2)
  else if (walkI fd l (splitI p).1.dropLast).2.1 = false then (0, [], 8)
  else ((walkI fd l (splitI p).1.dropLast).1, ((splitI p).1.getLast?).getD [], 0)
theorem listI_ok {ok : Ent → Prop} {l : List Itm} (h : ∀ x ∈ l, ok x.e) (n : Int) : ∀ e ∈ listI l n, ok e := by
  intro e he
  unfold listI at he
  split at he
  · unfold entsI at he
    obtain ⟨x, hx, rfl⟩ := List.mem_map.1 he
    exact h x (List.mem_filter.1 hx).1
  · cases he
theorem walkGo_file (fd : List Ent → List UInt8 → Option Ent) (l : List Itm) (n : Int) (x : List UInt8) (r : List (List UInt8)) : walkGo fd l n false (x :: r) = (0, false, 8) := by
  rw [walkGo, if_pos rfl]
theorem walkGo_none {fd : List Ent → List UInt8 → Option Ent} {l : List Itm} {n : Int} {x : List UInt8} (r : List (List UInt8)) (h : fd (listI l n) x = none) : walkGo fd l n true (x :: r) = (0, false, 5) := by
  rw [walkGo, if_neg (by decide), h]
theorem walkGo_some {fd : List Ent → List UInt8 → Option Ent} {l : List Itm} {n : Int} {x : List UInt8} {e : Ent} (r : List (List UInt8)) (h : fd (listI l n) x = some e) : walkGo fd l n true (x :: r) = walkGo fd l e.node e.dir r := by
  rw [walkGo, if_neg (by decide), h]
/-- A list without its last one. -/
theorem LstIs.pre {α : Type} {f : α → List Value} {c : Nat} {w : World} {a : Option Addr} {n cap : Nat} {l : List α} (h : LstIs f c w (.slice a n cap) l) {k : Nat} (hk : k ≤ l.length) (cap' : Nat) : LstIs f c w (.slice a k cap') (l.take k) := by
  rcases h with ⟨rfl, a', cap'', hv⟩ | ⟨g, off, cap'', hg, hv, hc⟩
  · refine Or.inl ⟨by simp, a, cap', ?_⟩
    have : k = 0 := by simpa using hk
    rw [this]
  · injection hv with h1 h2 h3
    subst h1
    refine Or.inr ⟨g, off, cap', hg, by rw [List.length_take, Nat.min_eq_left hk], fun j x hj => hc j x ?_⟩
    rw [List.getElem?_take] at hj
    split at hj
    · exact hj
    · cases hj
end Go.Proofs.YtfioknaadbgjlaaGreatDoor
namespace Go.Proofs.YtfioknaadbgjlaaGreatDoor
open Go.RowKit Go.Sort
def walkV (r : Int × Bool × Int) : Value := .tuple #[.int .i64 r.1, .bool r.2.1, .int .i64 r.2.2]
end Go.Proofs.YtfioknaadbgjlaaGreatDoor
namespace Go.Proofs.YtfioknaadbgjlaaGreatDoor
open Go.RowKit Go.Sort
/-- What is parted so far. -/
def PartTo (P : List UInt8) (f i : Nat) (done : List (List UInt8)) : Prop := splitB (P.drop 1) = done ++ frontB ((P.drop f).take (i - f)) (splitB (P.drop i)) ∧ f ≤ i
theorem PartTo.all {P : List UInt8} {f : Nat} {done : List (List UInt8)} (h : PartTo P f P.length done) : splitB (P.drop 1) = done ++ [(P.drop f).take (P.length - f)] := by
  rw [h.1, List.drop_length]
  simp [splitB, frontB]
theorem splitI_go {p t : List UInt8} (hp : p = 47 :: t) (hl : ¬ 1024 < p.length) (ht : t ≠ []) : splitI p = if (splitB t).any badN = true then ([], 3) else if 16 < (splitB t).length then ([], 4) else (splitB t, 0) := by
  subst hp
  unfold splitI
  rw [if_neg hl]
  simp only
  rw [if_neg (by simp), if_neg ht]
end Go.Proofs.YtfioknaadbgjlaaGreatDoor
namespace Go.Proofs.YtfioknaadbgjlaaGreatDoor
open Go.RowKit Go.Sort
theorem ball_ne {z : Int} (h : z ≠ 0) : (z != 0) = true := bne_iff_ne.2 h
def parV (r : Int × List UInt8 × Int) : Value := .tuple #[.int .i64 r.1, .string (mkS r.2.1), .int .i64 r.2.2]
theorem dropLast_take {α : Type} (l : List α) : l.dropLast = l.take (l.length - 1) := List.dropLast_eq_take
end Go.Proofs.YtfioknaadbgjlaaGreatDoor
namespace Go.Proofs.YtfioknaadbgjlaaGreatDoor
open Go.RowKit Go.Sort
/-- What the program's Split keeps, in a world of K. -/
def SplitC (K : World → Prop) : Prop := ∀ (b : ByteArray) (w : World), b.size ≤ 9223372036854775807 → K w → Calls Tryz.prog 15 #[.string b] w fun e w' => ∃ v, e = .returned (.tuple #[v, .int .i64 (splitI b.data.toList).2]) ∧ TxtsIs w' v ((splitI b.data.toList).1.map mkS) ∧ Below w.heap.size w w'
def Lasts (K : World → Prop) : Prop := ∀ w w', K w → Below w.heap.size w w' → K w'
set_option maxHeartbeats 4000000 in
set_option maxRecDepth 100000 in
theorem awake15_c {K : World → Prop} (hP : SplitC K) (w : World) (hw : K w) : Calls Tryz.prog 5 #[] w fun e w' => e = .returned (.bool true) ∧ Below w.heap.size w w' := by
  have cS := hP ⟨#[47, 97, 47, 98]⟩ w (by decide) hw
  rw [show splitI (⟨#[47, 97, 47, 98]⟩ : ByteArray).data.toList = ([[97], [98]], 0) by decide] at cS
  clear hw hP
  simp only at cS
  go_enter Tryz.func5, Tryz.ntmps5
  go_wp2_with fail
  refine cS.mono ?_
  rintro e w1 ⟨v, rfl, hT, hb1⟩
  obtain ⟨a, c, hv⟩ := hT.len
  subst hv
  obtain ⟨g, off, rfl, hg, hcell⟩ := txt_at hT (j := 1) (s := mkS [98]) rfl
  have HB1 := Lib.hid hb1
  simp only [List.length_map, List.length_cons, List.length_nil] at hT ⊢
  clear hT hb1 cS
  go_wp2
  go_ret
  exact ⟨by rw [show ((mkS [98]).toList == [98]) = true by rw [ByteArray.toList_eq]; rfl]; rfl, HB1.out⟩
end Go.Proofs.YtfioknaadbgjlaaGreatDoor
