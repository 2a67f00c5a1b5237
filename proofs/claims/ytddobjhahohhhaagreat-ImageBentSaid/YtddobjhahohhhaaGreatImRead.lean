/-
  What the project's reader of images reads of bytes, plainly: also of such as are no image.
-/
import Derived.Test.YtddobjhahohhhaaGreatImTree
import Derived.Test.YtddobjhahohhhaaGreatFiMath
import Derived.Test.YtddobjhahohhhaaGreatImFit
import Derived.Test.YtddobjhahohhhaaGreatTrFill
namespace Go.Proofs.YtddobjhahohhhaaGreat
open Go.RowKit Go.Sort
set_option linter.unusedVariables false
set_option linter.unusedSimpArgs false

/-- A reader: the bytes before it, and whether more was asked for than there was. -/
structure RS where
  l : List UInt8
  p : Bool
def RS.num (k : Nat) (r : RS) : RS := ⟨r.l.drop k, r.p || decide (r.l.length < k)⟩
def RS.nam (r : RS) : RS := ⟨nmR r.l, r.p || nmP r.l⟩
def entR (r : RS) : Ent × RS :=
  (⟨nmL r.l, (rdN 2 r.nam.l : Int), decide (rdN 1 (r.nam.num 2).l = 1), valI 8 ((r.nam.num 2).num 1).l, (rdN 4 (((r.nam.num 2).num 1).num 8).l : Int)⟩, (((r.nam.num 2).num 1).num 8).num 4)
section
variable {α : Type}
def sevGo (R : RS → α × RS) : Nat → RS → List α × RS
  | 0, r => ([], r)
  | n + 1, r => if r.p = true then ([], r) else ((R r).1 :: (sevGo R n (R r).2).1, (sevGo R n (R r).2).2)
def sevR (R : RS → α × RS) (r : RS) : List α × RS := sevGo R (rdN 2 r.l) (r.num 2)
end
def dirR (r : RS) : (Int × List Ent) × RS := (((rdN 2 r.l : Int), (sevR entR (r.num 2)).1), (sevR entR (r.num 2)).2)
def cookR (b : List UInt8) : Int := valI 8 b
def dirsR (b : List UInt8) : List (Int × List Ent) := (sevR dirR (RS.num 8 ⟨b, false⟩)).1

/-! Nothing is read twice. -/
theorem num_le (k : Nat) (r : RS) : (r.num k).l.length ≤ r.l.length := by
  unfold RS.num
  simp only [List.length_drop]
  omega
theorem nam_le (r : RS) : r.nam.l.length ≤ r.l.length := by
  unfold RS.nam nmR
  simp only [List.length_drop]
  omega
theorem entR_le (r : RS) : (entR r).2.l.length ≤ r.l.length :=
  Nat.le_trans (num_le 4 _) (Nat.le_trans (num_le 8 _) (Nat.le_trans (num_le 1 _) (Nat.le_trans (num_le 2 _) (nam_le r))))
theorem sevGo_le {α : Type} {R : RS → α × RS} (hR : ∀ r, (R r).2.l.length ≤ r.l.length) : ∀ n r, (sevGo R n r).2.l.length ≤ r.l.length
  | 0, r => Nat.le_refl _
  | n + 1, r => by
    unfold sevGo
    split
    · exact Nat.le_refl _
    · exact Nat.le_trans (sevGo_le hR n _) (hR r)
theorem sevGo_len {α : Type} {R : RS → α × RS} : ∀ n r, (sevGo R n r).1.length ≤ n
  | 0, r => Nat.le_refl _
  | n + 1, r => by
    unfold sevGo
    split
    · exact Nat.zero_le _
    · have := sevGo_len (R := R) n (R r).2
      simp only [List.length_cons]
      omega
theorem sevGo_mem {α : Type} {R : RS → α × RS} {P : α → Prop} (hR : ∀ r, (R r).2.l.length ≤ r.l.length) (m : Nat) (hP : ∀ r, r.l.length ≤ m → P (R r).1) : ∀ n r, r.l.length ≤ m → ∀ x ∈ (sevGo R n r).1, P x
  | 0, r, _, x, hx => absurd hx (by simp [sevGo])
  | n + 1, r, hm, x, hx => by
    unfold sevGo at hx
    split at hx
    · exact absurd hx (by simp)
    · rcases List.mem_cons.1 hx with rfl | hx
      · exact hP r hm
      · exact sevGo_mem hR m hP n _ (Nat.le_trans (hR r) hm) x hx
theorem sevR_le {α : Type} {R : RS → α × RS} (hR : ∀ r, (R r).2.l.length ≤ r.l.length) (r : RS) : (sevR R r).2.l.length ≤ r.l.length := Nat.le_trans (sevGo_le hR _ _) (num_le 2 r)
theorem dirR_le (r : RS) : (dirR r).2.l.length ≤ r.l.length := Nat.le_trans (sevR_le entR_le _) (num_le 2 r)
theorem sevR_len {α : Type} {R : RS → α × RS} (r : RS) : (sevR R r).1.length ≤ 65535 := by
  have h1 := sevGo_len (R := R) (rdN 2 r.l) (r.num 2)
  have h2 := rdN_lt 2 r.l
  show (sevGo R _ _).1.length ≤ _
  omega
theorem nmL_size (l : List UInt8) : (nmL l).size ≤ l.length := by
  show (nmL l).data.size ≤ _
  unfold nmL
  rw [← Array.length_toList]
  simp only [List.length_take, List.length_drop]
  omega
theorem dir_names (r : RS) (h : r.l.length ≤ 100000) : ∀ e ∈ (dirR r).1.2, e.name.size ≤ 9223372036854775807 := by
  intro e he
  exact sevGo_mem (P := fun e : Ent => e.name.size ≤ 9223372036854775807) entR_le 100000 (fun r hr => by have := nmL_size r.l; show (nmL r.l).size ≤ _; omega) _ _ (Nat.le_trans (num_le 2 _) (Nat.le_trans (num_le 2 r) h)) e he

/-! The map of what was read: a directory that comes later goes ahead. -/
def stG (ds : List (Int × List Ent)) : DirsG := ds.foldl (fun G d => fun q => if q = d.1 then some d.2 else G q) fun _ => none
theorem stG_snoc (ds : List (Int × List Ent)) (d : Int × List Ent) : stG (ds ++ [d]) = fun q => if q = d.1 then some d.2 else stG ds q := by
  unfold stG
  rw [List.foldl_append]
  rfl
theorem stG_mem : ∀ (n : Nat) (ds : List (Int × List Ent)), ds.length = n → ∀ {q : Int} {es : List Ent}, stG ds q = some es → (q, es) ∈ ds
  | 0, ds, hn, q, es, h => by
    obtain rfl := List.eq_nil_of_length_eq_zero hn
    exact absurd h (by simp [stG])
  | n + 1, ds, hn, q, es, h => by
    obtain ⟨ds', d, rfl⟩ : ∃ ds' d, ds = ds' ++ [d] := ⟨ds.dropLast, ds.getLast (by intro e; rw [e] at hn; exact absurd hn (by simp)), (List.dropLast_concat_getLast _).symm⟩
    rw [stG_snoc] at h
    simp only at h
    rw [List.length_append, List.length_singleton] at hn
    split at h
    · rename_i hq
      obtain rfl := Option.some.inj h
      rw [hq]
      exact List.mem_append_right _ (List.mem_singleton.2 rfl)
    · exact List.mem_append_left _ (stG_mem n ds' (by omega) h)
theorem stG_some : ∀ (n : Nat) (ds : List (Int × List Ent)), ds.length = n → ∀ {q : Int}, (∃ d ∈ ds, d.1 = q) → (stG ds q).isSome = true
  | 0, ds, hn, q, ⟨d, hd, _⟩ => by
    obtain rfl := List.eq_nil_of_length_eq_zero hn
    exact absurd hd (by simp)
  | n + 1, ds, hn, q, ⟨e, he, hq⟩ => by
    obtain ⟨ds', d, rfl⟩ : ∃ ds' d, ds = ds' ++ [d] := ⟨ds.dropLast, ds.getLast (by intro e; rw [e] at hn; exact absurd hn (by simp)), (List.dropLast_concat_getLast _).symm⟩
    rw [stG_snoc]
    rw [List.length_append, List.length_singleton] at hn
    simp only
    split
    · rfl
    · rename_i hne
      rcases List.mem_append.1 he with h | h
      · exact stG_some n ds' (by omega) ⟨e, h, hq⟩
      · obtain rfl := List.mem_singleton.1 h
        exact absurd hq.symm hne
/-- The map of a tree's own directories. -/
theorem stG_own (l : List Itm) : stG (dirsOf l) = ownG l := by
  funext q
  unfold ownG
  by_cases h : q ∈ dirsI l
  · rw [if_pos h]
    have h1 := stG_some _ (dirsOf l) rfl (q := q) ⟨(q, entsI l q), List.mem_map.2 ⟨q, h, rfl⟩, rfl⟩
    obtain ⟨es, he⟩ := Option.isSome_iff_exists.1 h1
    have h2 := stG_mem _ _ rfl he
    unfold dirsOf at h2
    obtain ⟨q', _, h3⟩ := List.mem_map.1 h2
    obtain ⟨rfl, rfl⟩ := Prod.mk.inj h3
    exact he
  · rw [if_neg h]
    cases he : stG (dirsOf l) q with
    | none => rfl
    | some es =>
      have h2 := stG_mem _ _ rfl he
      unfold dirsOf at h2
      obtain ⟨q', h4, h3⟩ := List.mem_map.1 h2
      obtain ⟨rfl, rfl⟩ := Prod.mk.inj h3
      exact absurd h4 h
theorem small_read (b : List UInt8) (h : b.length ≤ 100000) : SmallG (stG (dirsR b)) := by
  have key : ∀ d ∈ dirsR b, d.2.length ≤ 100000 ∧ ∀ e ∈ d.2, e.name.size ≤ 9223372036854775807 :=
    sevGo_mem (P := fun d : Int × List Ent => d.2.length ≤ 100000 ∧ ∀ e ∈ d.2, e.name.size ≤ 9223372036854775807) dirR_le 100000
      (fun r hr => ⟨by have := sevR_len (R := entR) (r.num 2); show (sevR entR (r.num 2)).1.length ≤ _; omega, dir_names r hr⟩) _ _ (Nat.le_trans (num_le 2 _) (Nat.le_trans (num_le 8 _) h))
  exact ⟨fun q es he => (key _ (stG_mem _ _ rfl he)).1, fun q es he => (key _ (stG_mem _ _ rfl he)).2⟩

/-! What an image's own bytes are read as. -/
theorem rd_beB (n k : Nat) (h : n < 256 ^ k) (r : List UInt8) : rdN k (beB n k ++ r) = n := by
  rw [rd_val, beB_take, val_beB n k h]
theorem num_exact (n k : Nat) (r : List UInt8) : RS.num k ⟨beB n k ++ r, false⟩ = ⟨r, false⟩ := by
  unfold RS.num
  simp only [beB_drop, List.length_append, beB_len, Bool.false_or]
  rw [decide_eq_false (by omega)]
theorem nam_exact (s : ByteArray) (hs : s.size < 256) (r : List UInt8) : RS.nam ⟨nameB s ++ r, false⟩ = ⟨r, false⟩ := by
  unfold RS.nam nmP
  have hl : ((nameB s ++ r).drop 1).length = s.size + r.length := by
    rw [List.length_drop, List.length_append, nameB_len]
    omega
  have hr : rdN 1 (nameB s ++ r) = s.size := by
    unfold nameB
    rw [List.append_assoc, rd1 _ hs]
  simp only [nm_r s hs, hl, hr, Bool.false_or]
  rw [decide_eq_false (by rw [List.length_append, nameB_len]; omega), decide_eq_false (by omega)]
  rfl
theorem val8 (n : Nat) (h : n ≤ 9223372036854775807) (r : List UInt8) : valI 8 (beB n 8 ++ r) = (n : Int) := by
  unfold valI
  rw [rd_beB n 8 (by omega), IntWalk.wrap64_in _ (by omega)]
theorem ent_exact (e : Ent) (h : EntFit e) (r : List UInt8) : entR ⟨entY e ++ r, false⟩ = (e, ⟨r, false⟩) := by
  obtain ⟨⟨k1, ⟨k2, k3⟩, ⟨k4, k5⟩, ⟨k6, k7⟩⟩, k8⟩ := h
  obtain ⟨s, n, d, c, q⟩ := e
  simp only at k1 k2 k3 k4 k5 k6 k7 k8
  obtain ⟨n, rfl⟩ : ∃ m : Nat, n = m := ⟨n.toNat, by omega⟩
  obtain ⟨c, rfl⟩ : ∃ m : Nat, c = m := ⟨c.toNat, by omega⟩
  obtain ⟨q, rfl⟩ : ∃ m : Nat, q = m := ⟨q.toNat, by omega⟩
  have hb : boolN d < 2 := by unfold boolN; split <;> omega
  unfold entR entY
  simp only [Int.toNat_natCast, List.append_assoc]
  rw [nam_exact s k1, num_exact, num_exact, num_exact, num_exact]
  simp only
  rw [nm_l s k1, rd2 n (by omega), rd1 _ (by omega), val8 c (by omega), rd4 q (by omega)]
  cases d <;> simp [boolN]
theorem sev_exact {α : Type} {R : RS → α × RS} {B : α → List UInt8} (xs : List α) (hR : ∀ x ∈ xs, ∀ r, R ⟨B x ++ r, false⟩ = (x, ⟨r, false⟩)) (r : List UInt8) : sevGo R xs.length ⟨xs.flatMap B ++ r, false⟩ = (xs, ⟨r, false⟩) := by
  induction xs with
  | nil => rfl
  | cons x xs ih =>
    rw [List.flatMap_cons, List.append_assoc, List.length_cons]
    unfold sevGo
    rw [if_neg (by simp), hR x (List.mem_cons_self ..)]
    simp only
    rw [ih fun y hy => hR y (List.mem_cons_of_mem _ hy)]
theorem sevR_exact {α : Type} {R : RS → α × RS} {B : α → List UInt8} (xs : List α) (hl : xs.length < 65536) (hR : ∀ x ∈ xs, ∀ r, R ⟨B x ++ r, false⟩ = (x, ⟨r, false⟩)) (r : List UInt8) : sevR R ⟨beB xs.length 2 ++ (xs.flatMap B ++ r), false⟩ = (xs, ⟨r, false⟩) := by
  unfold sevR
  rw [num_exact]
  simp only
  rw [rd2 _ hl, sev_exact xs hR r]
theorem dir_exact (d : Int × List Ent) (h : DirOk d) (hc : ∀ e ∈ d.2, e.cookie ≤ 9223372036854775807) (r : List UInt8) : dirR ⟨dirsB d ++ r, false⟩ = (d, ⟨r, false⟩) := by
  obtain ⟨⟨k1, k2⟩, k3, o⟩ := h
  obtain ⟨q, es⟩ := d
  simp only at k1 k2 k3 o hc
  obtain ⟨q, rfl⟩ : ∃ m : Nat, q = m := ⟨q.toNat, by omega⟩
  unfold dirR dirsB
  simp only [Int.toNat_natCast, List.append_assoc]
  rw [num_exact, sevR_exact es k3 (fun e he r => ent_exact e ⟨o e he, hc e he⟩ r)]
  simp only
  rw [rd2 q (by omega)]
theorem img_exact {nx : Int} {ds : List (Int × List Ent)} (h : ImgOk nx ds) (hx : nx ≤ 9223372036854775807) (hc : ∀ d ∈ ds, ∀ e ∈ d.2, e.cookie ≤ 9223372036854775807) : cookR (imgB nx ds) = nx ∧ dirsR (imgB nx ds) = ds := by
  obtain ⟨⟨k1, _⟩, k3, o⟩ := h
  obtain ⟨c, rfl⟩ : ∃ m : Nat, nx = m := ⟨nx.toNat, by omega⟩
  unfold cookR dirsR imgB
  simp only [Int.toNat_natCast]
  refine ⟨val8 c (by omega) _, ?_⟩
  rw [num_exact]
  have h9 := sevR_exact (R := dirR) (B := dirsB) ds k3 (fun d hd r => dir_exact d (o d hd) (hc d hd) r) []
  rw [List.append_nil] at h9
  rw [h9]
theorem own_cook {l : List Itm} {nx : Int} (h : GoodT l nx) (hx : nx ≤ 9223372036854775807) : ∀ d ∈ dirsOf l, ∀ e ∈ d.2, e.cookie ≤ 9223372036854775807 := by
  intro d hd e he
  unfold dirsOf at hd
  obtain ⟨q, hq, rfl⟩ := List.mem_map.1 hd
  obtain ⟨x, hx2, _, rfl⟩ := mem_entsI.1 he
  have h3 := h.cook x hx2
  omega
/-- A tree's own image is read as its directories. -/
theorem own_read {l : List Itm} {nx : Int} (h : GoodT l nx) (hx : nx ≤ 9223372036854775807) : cookR (imgI l nx) = nx ∧ dirsR (imgI l nx) = dirsOf l :=
  img_exact (img_ok h (by omega)) hx (own_cook h hx)
/-- Trees with the same image have the same entries. -/
theorem twin_img {l l' : List Itm} {nx nx' : Int} (h : GoodT l nx) (h' : GoodT l' nx') (hx : nx ≤ 9223372036854775807) (hx' : nx' ≤ 9223372036854775807) (he : imgI l' nx' = imgI l nx) : nx' = nx ∧ dirsI l' = dirsI l ∧ Twin l l' := by
  obtain ⟨e1, e2⟩ := img_inj (img_ok h' (by omega)) (img_ok h (by omega)) he
  have hd : dirsI l' = dirsI l := by
    have := congrArg (List.map Prod.fst) e2
    unfold dirsOf at this
    rw [List.map_map, List.map_map] at this
    simpa [Function.comp_def] using this
  refine ⟨e1, hd, ⟨fun q => ?_⟩⟩
  by_cases hq : q ∈ dirsI l
  · have h1 : (q, entsI l' q) ∈ dirsOf l := by
      rw [← e2]
      exact List.mem_map.2 ⟨q, by rw [hd]; exact hq, rfl⟩
    obtain ⟨q2, _, h2⟩ := List.mem_map.1 h1
    obtain ⟨rfl, h3⟩ := Prod.mk.inj h2
    exact h3.symm
  · have key : ∀ {m : List Itm} {c : Int}, GoodT m c → q ∉ dirsI m → entsI m q = [] := fun {m c} hg hn => by
      apply List.eq_nil_iff_forall_not_mem.2
      intro e he
      obtain ⟨x, hx2, hxi, _⟩ := mem_entsI.1 he
      exact hn (hg.dirs.2 (by rw [← hxi]; exact hg.inn x hx2))
    rw [key h hq, key h' (by rw [hd]; exact hq)]
/-- Make of what was read of a tree's own image goes well. -/
theorem own_make {l : List Itm} {nx : Int} (h : GoodT l nx) : 1 ≤ nx ∧ (fillAll (stG (dirsOf l)) nx).1 = true ∧ (fillAll (stG (dirsOf l)) nx).2.2 = (dirsOf l).length := by
  rw [stG_own]
  have h1 := made_yes (own_formed h) (own_supp l) (dirsI_nodup l)
  refine ⟨h.nx1, h1.1, ?_⟩
  rw [h1.2, own_there]
  unfold dirsOf
  rw [List.length_map]
end Go.Proofs.YtddobjhahohhhaaGreat
