/-
  Prepared for stage 10: the laws' own has, and reached.
  A map keyed by int, said by what stands at each key: the raw values, and how many there are.
  Prepared for stage 10: what 'formed' asks, said plainly.
-/
import Derived.Test.YtmplekjiciedgaaQ4
import Derived.Test.YtmplekjiciedgaaQ1
import Derived.Maps.OwnSet
import Derived.Maps.OwnOps
import Derived.Maps.Range
namespace Go.Proofs.Ytmplekjiciedgaa
open Go.RowKit Go.Sort
set_option linter.unusedVariables false

/-- What is below the root. -/
inductive Reach (all : List Itm) : Int → Prop where
  | root : Reach all 0
  | step {x : Itm} (h : Reach all x.inn) (hx : x ∈ all) (hd : x.e.dir = true) : Reach all x.e.node
/-- Those that are met: all below the root; of the first i, and of i by the first k items, all that is in them. -/
structure MetI (all : List Itm) (met : List Int) (i k : Nat) : Prop where
  nd : met.Nodup
  root : (0 : Int) ∈ met
  re : ∀ m ∈ met, Reach all m
  sub : ∀ m ∈ met, m = 0 ∨ m ∈ all.map fun x => x.e.node
  done : ∀ j, j < i → ∀ d, met[j]? = some d → ∀ x ∈ all, x.inn = d → x.e.dir = true → x.e.node ∈ met
  now : ∀ d, met[i]? = some d → ∀ x ∈ all.take k, x.inn = d → x.e.dir = true → x.e.node ∈ met
theorem nodup_sub_len : ∀ (l m : List Int), l.Nodup → (∀ x ∈ l, x ∈ m) → l.length ≤ m.length
  | [], m, _, _ => Nat.zero_le _
  | x :: l, m, hn, hs => by
    obtain ⟨h1, h2⟩ := List.nodup_cons.1 hn
    have hx : x ∈ m := hs x List.mem_cons_self
    have ih := nodup_sub_len l (m.erase x) h2 (fun y hy => (List.mem_erase_of_ne (show y ≠ x from fun e => h1 (by rw [← e]; exact hy))).2 (hs y (List.mem_cons_of_mem _ hy)))
    rw [List.length_erase_of_mem hx] at ih
    have : 0 < m.length := List.length_pos_of_mem hx
    rw [List.length_cons]
    omega
theorem MetI.len {all : List Itm} {met : List Int} {i k : Nat} (h : MetI all met i k) : met.length ≤ all.length + 1 := by
  have := nodup_sub_len met (0 :: all.map fun x => x.e.node) h.nd (fun m hm => by
    rcases h.sub m hm with rfl | h1
    · exact List.mem_cons_self
    · exact List.mem_cons_of_mem _ h1)
  simpa using this
theorem MetI.start (all : List Itm) : MetI all [0] 0 0 :=
  ⟨by simp, by simp, fun m hm => by rw [List.mem_singleton.1 hm]; exact Reach.root, fun m hm => Or.inl (List.mem_singleton.1 hm), fun j hj => absurd hj (by omega), fun d hd x hx => by simp at hx⟩
theorem MetI.skip {all : List Itm} {met : List Int} {i k : Nat} {x : Itm} {d : Int} (h : MetI all met i k) (hx : all[k]? = some x) (hd : met[i]? = some d) (hn : x.inn = d → x.e.dir = true → x.e.node ∈ met) : MetI all met i (k + 1) := by
  refine ⟨h.nd, h.root, h.re, h.sub, h.done, fun d' hd' y hy h1 h2 => ?_⟩
  rw [take_snoc hx, List.mem_append, List.mem_singleton] at hy
  rcases hy with hy | rfl
  · exact h.now d' hd' y hy h1 h2
  · rw [hd] at hd'
    obtain rfl := Option.some.inj hd'
    exact hn h1 h2
theorem MetI.add {all : List Itm} {met : List Int} {i k : Nat} {x : Itm} {d : Int} (h : MetI all met i k) (hx : all[k]? = some x) (hd : met[i]? = some d) (h1 : x.inn = d) (h2 : x.e.dir = true) (hn : x.e.node ∉ met) : MetI all (met ++ [x.e.node]) i (k + 1) := by
  have hxm : x ∈ all := List.mem_of_getElem? hx
  have hil : i < met.length := (List.getElem?_eq_some_iff.1 hd).1
  have hpos : ∀ j d', j ≤ i → (met ++ [x.e.node])[j]? = some d' → met[j]? = some d' := fun j d' hj hd' => by
    rwa [List.getElem?_append_left (by omega)] at hd'
  refine ⟨?_, List.mem_append_left _ h.root, fun m hm => ?_, fun m hm => ?_, fun j hj d' hd' y hy h3 h4 => List.mem_append_left _ (h.done j hj d' (hpos j d' (by omega) hd') y hy h3 h4), fun d' hd' y hy h3 h4 => ?_⟩
  · rw [List.nodup_append]
    exact ⟨h.nd, by simp, fun a ha b hb => by rw [List.mem_singleton.1 hb]; exact fun e => hn (e ▸ ha)⟩
  · rcases List.mem_append.1 hm with hm | hm
    · exact h.re m hm
    · rw [List.mem_singleton.1 hm]
      exact Reach.step (by rw [h1]; exact h.re d (List.mem_of_getElem? hd)) hxm h2
  · rcases List.mem_append.1 hm with hm | hm
    · exact h.sub m hm
    · rw [List.mem_singleton.1 hm]
      exact Or.inr (List.mem_map.2 ⟨x, hxm, rfl⟩)
  · rw [take_snoc hx, List.mem_append, List.mem_singleton] at hy
    rcases hy with hy | rfl
    · exact List.mem_append_left _ (h.now d' (hpos i d' (Nat.le_refl _) hd') y hy h3 h4)
    · exact List.mem_append_right _ (by simp)
theorem MetI.next {all : List Itm} {met : List Int} {i k : Nat} (h : MetI all met i k) (hk : all.length ≤ k) : MetI all met (i + 1) 0 := by
  refine ⟨h.nd, h.root, h.re, h.sub, fun j hj d hd x hx h1 h2 => ?_, fun d hd x hx => by simp at hx⟩
  by_cases e : j = i
  · subst e
    exact h.now d hd x (by rw [List.take_of_length_le hk]; exact hx) h1 h2
  · exact h.done j (by omega) d hd x hx h1 h2
theorem MetI.all {all : List Itm} {met : List Int} {i k : Nat} (h : MetI all met i k) (hi : met.length ≤ i) (m : Int) : Reach all m ↔ m ∈ met := by
  refine ⟨fun hr => ?_, h.re m⟩
  induction hr with
  | root => exact h.root
  | @step x hr hx hd ih =>
    obtain ⟨j, hj, he⟩ := List.getElem_of_mem ih
    exact h.done j (by omega) x.inn (List.getElem?_eq_some_iff.2 ⟨hj, he⟩) x hx rfl hd
abbrev EqA (a : Option Addr) (n cap : Nat) (all : List Itm) (W : World) : Prop := ItmsIs W (.slice a n cap) all
theorem own_drewN1 {B : Nat} {T : TypeId} {c : Nat} {w : World} {v : Value} {n : Nat} {xs : List Value} (h : w.ownsRow B T c v n xs) : ∀ q, (w.drewN q).ownsRow B T c v n xs
  | 0 => h
  | q + 1 => own_drewN1 (w := w.drew) h q
end Go.Proofs.Ytmplekjiciedgaa

namespace Go.Proofs.Ytmplekjiciedgaa
open Go.RowKit Go.Sort Go.Maps
open Go.WideShapes
set_option linter.unusedVariables false

/-- An element as it stands. -/
def rawR (v : Value) : Option (DataW Value × List MemPlace) := some (.held v, [])
def inI64 (x : Int) : Prop := -9223372036854775808 ≤ x ∧ x ≤ 9223372036854775807
theorem inI64_wf {x : Int} (h : inI64 x) : (Lit.int .i64 x).wf = true := by
  unfold inI64 at h
  simp [Lit.wf, IntKind.min, IntKind.max, IntKind.signed, IntKind.bits]
  omega
/-- Block b is a map keyed by int: F tells what stands at each key, c how many keys there are. -/
def MapF (P : Program) (k : TypeId) (w : World) (b n : Nat) (F : Int → Option Value) (c : Nat) : Prop :=
  ∃ D : DataW Value, w.ownsMap P k rawR b n D ∧ Maps.size D = c ∧ ∀ x, inI64 x → Maps.has D (.int .i64 x) = (F x).isSome ∧ ∀ v, F x = some v → ∀ z, D.atKey (.int .i64 x) z = .held v
def updF (F : Int → Option Value) (x : Int) (v : Option Value) : Int → Option Value := fun y => if y = x then v else F y
section
variable {P : Program} {k e t : TypeId} {w w' : World} {b n c : Nat} {F : Int → Option Value}
theorem MapF.lt (h : MapF P k w b n F c) : b < w.heap.size := by
  obtain ⟨D, h, _⟩ := h
  exact h.lt
theorem MapF.grown {row : Option Nat} (h : MapF P k w b n F c) (hg : w.grownBy w' row) (hne : some b ≠ row) : MapF P k w' b n F c := by
  obtain ⟨D, h, hs⟩ := h
  exact ⟨D, h.kept hg hne, hs⟩
theorem MapF.below (h : MapF P k w b n F c) (hb : Below w.heap.size w w') : MapF P k w' b n F c :=
  h.grown (row := none) ⟨hb.os, hb.tape, hb.output, hb.size, fun j hj _ => hb.block j hj⟩ (by simp)
theorem MapF.isMap (h : MapF P k w b n F c) : ∃ es cl, w.heap[b]? = some (.map es cl) := by
  obtain ⟨D, ⟨es, cl, h, _⟩, _⟩ := h
  exact ⟨es, cl, h⟩
theorem MapF.made (w : World) : MapF P k (w.alloc (.map #[] 0)) w.heap.size 0 (fun _ => none) 0 :=
  ⟨.map [], World.ownsMap_made _ _ _ _, rfl, fun x hx => ⟨rfl, fun v hv => by cases hv⟩⟩
theorem MapF.look (h : MapF P k w b n F c) (hk : P.underlying k = some (.int .i64)) (ht : P.underlying t = some (.map k e)) {z : Value} (hz : (zeroValue e).run P w = .ok z w) {x : Int} (hx : inI64 x) :
    (Instr.lookup t (.map (some b)) (.int .i64 x) true).run P w = .ok (.tuple #[(F x).getD z, .bool (F x).isSome]) w ∧ (Instr.lookup t (.map (some b)) (.int .i64 x) false).run P w = .ok ((F x).getD z) w := by
  obtain ⟨D, h, _, hF⟩ := h
  obtain ⟨h1, h2⟩ := hF x hx
  have hkey := keyOf_int_mk hk (inI64_wf hx)
  have hv : ∀ v ps, rawR v = some (D.atKey (.int .i64 x) (.held z), ps) → v = (F x).getD z := by
    intro v ps hv
    unfold rawR at hv
    have hv' : DataW.held v = D.atKey (.int .i64 x) (.held z) := by
      injection hv with hv
      injection hv
    cases hf : F x with
    | none =>
      rw [hf] at h1
      rw [Maps.atKey_of_not_has h1] at hv'
      injection hv'
    | some u =>
      rw [h2 u hf] at hv'
      injection hv'
  constructor
  · obtain ⟨v, ps, hr, hvv⟩ := h.look_ok (int_keyed hk) ht hz (zd := .held z) (zp := []) rfl hkey
    rw [hr, h1, hv v ps hvv]
  · obtain ⟨v, ps, hr, hvv⟩ := h.lookup (int_keyed hk) ht hz (zd := .held z) (zp := []) rfl hkey
    rw [hr, hv v ps hvv]
theorem lit_ne {x y : Int} (h : y ≠ x) : Lit.int .i64 y ≠ Lit.int .i64 x := fun e => by
  injection e with _ e
  exact h e
theorem MapF.update (h : MapF P k w b n F c) (hk : P.underlying k = some (.int .i64)) (ht : P.underlying t = some (.map k e)) (hn : n < maxLen) {x : Int} (hx : inI64 x) (v : Value) :
    ∃ w', (Instr.mapUpdate t (.map (some b)) (.int .i64 x) v).run P w = .ok () w' ∧ MapF P k w' b (n + 1) (updF F x (some v)) (if (F x).isSome = true then c else c + 1) ∧ w.mapTurned w' b := by
  obtain ⟨D, h, hs, hF⟩ := h
  have hkey := keyOf_int_mk hk (inI64_wf hx)
  have hM := h.isMap
  have hT := h.tidy (int_keyed hk)
  obtain ⟨w', hr, h', hm⟩ := h.store (int_keyed hk) ht hn hkey (val := v) (d := .held v) (ps := []) rfl
  refine ⟨w', hr, ⟨_, h', ?_, fun y hy => ?_⟩, hm⟩
  · rw [Maps.size_put hT, (hF x hx).1, hs]
  · unfold updF
    by_cases e : y = x
    · subst e
      rw [if_pos rfl]
      exact ⟨Maps.has_put_same hM (by simp [WideAt.IsKeyLit]) _, fun u hu z => by
        rw [Maps.atKey_put_same hM (by simp [WideAt.IsKeyLit])]
        injection hu with hu
        rw [hu]⟩
    · rw [if_neg e]
      exact ⟨by rw [Maps.has_put_other (lit_ne e)]; exact (hF y hy).1, fun u hu z => by rw [Maps.atKey_put_other (lit_ne e)]; exact (hF y hy).2 u hu z⟩
theorem MapF.delete (h : MapF P k w b n F c) (hk : P.underlying k = some (.int .i64)) (ht : P.underlying t = some (.map k e)) {x : Int} (hx : inI64 x) (ty : TypeId) :
    ∃ w', (Builtin.delete_ #[t, k] ty #[.map (some b), .int .i64 x]).run P w = .ok (.tuple #[]) w' ∧ MapF P k w' b n (updF F x none) (if (F x).isSome = true then c - 1 else c) ∧ w.mapTurned w' b := by
  obtain ⟨D, h, hs, hF⟩ := h
  have hkey := keyOf_int_mk hk (inI64_wf hx)
  have hT := h.tidy (int_keyed hk)
  obtain ⟨w', hr, h', hm⟩ := h.drop (int_keyed hk) ht hkey ty
  refine ⟨w', hr, ⟨_, h', ?_, fun y hy => ?_⟩, hm⟩
  · have h9 := Maps.size_del (k := Lit.int .i64 x) hT
    rw [(hF x hx).1, hs] at h9
    split <;> simp_all <;> omega
  · unfold updF
    by_cases e : y = x
    · subst e
      rw [if_pos rfl]
      exact ⟨Maps.has_del_same, fun u hu => by cases hu⟩
    · rw [if_neg e]
      exact ⟨by rw [Maps.has_del_other (lit_ne e)]; exact (hF y hy).1, fun u hu z => by rw [Maps.atKey_del_other (lit_ne e)]; exact (hF y hy).2 u hu z⟩
theorem MapF.len (h : MapF P k w b n F c) (ht : P.underlying t = some (.map k e)) (ty : TypeId) : (Builtin.len_ #[t] ty #[.map (some b)]).run P w = .ok (.int .i64 (c : Int)) w := by
  obtain ⟨D, h, hs, _⟩ := h
  rw [h.len ht ty, hs]
end
end Go.Proofs.Ytmplekjiciedgaa

namespace Go.Proofs.Ytmplekjiciedgaa
open Go.RowKit Go.Sort
set_option linter.unusedVariables false

abbrev DirsG := Int → Option (List Ent)
def allI (G : DirsG) (keys : List Int) : List Itm := keys.flatMap fun q => ((G q).getD []).map (Itm.mk q)
def thereI (G : DirsG) (keys : List Int) : List Int := keys.filter fun q => (G q).isSome
def keysI (d : List Int) (other : Int) : List Int := if other ∈ d then d else d ++ [other]
def risingE (l : List Ent) : Prop := ∀ i x y, l[i]? = some x → l[i + 1]? = some y → x.cookie < y.cookie
def clash (x y : Itm) : Prop := x.e.node = y.e.node ∨ x.e.cookie = y.e.cookie ∨ (x.inn = y.inn ∧ x.e.name = y.e.name)
instance (x y : Itm) : Decidable (clash x y) := by unfold clash; infer_instance
def okItm (cookie : Int) (there : List Int) (x : Itm) : Prop := badE x.e.name x.e.short = 0 ∧ 1 ≤ x.e.node ∧ x.e.node ≤ 200 ∧ 1 ≤ x.e.cookie ∧ x.e.cookie < cookie ∧ decide (x.e.node ∈ there) = x.e.dir
instance (cookie : Int) (there : List Int) (x : Itm) : Decidable (okItm cookie there x) := by unfold okItm; infer_instance
def apartTo (all : List Itm) (i : Nat) : Prop := ∀ j k x y, j < i → k < j → all[j]? = some x → all[k]? = some y → ¬ clash y x
structure Formed (cookie : Int) (G : DirsG) (keys : List Int) : Prop where
  rise : ∀ q ∈ keys, ∀ l, G q = some l → risingE l
  pos : 1 ≤ cookie
  root : (0 : Int) ∈ thereI G keys
  ok : ∀ x ∈ allI G keys, okItm cookie (thereI G keys) x
  apart : apartTo (allI G keys) (allI G keys).length
  reach : ∀ t ∈ thereI G keys, Reach (allI G keys) t
/-- The map's block, and the lists that its slices hold. -/
structure DirsAt (w : World) (b n : Nat) (F : Int → Option Value) (G : DirsG) : Prop where
  f : ∃ c, MapF Try.prog 3 w b n F c
  g : ∀ x, inI64 x → match F x with
    | none => G x = none
    | some v => ∃ l, G x = some l ∧ EntsIs w v l
theorem DirsAt.below {w w' : World} {b n : Nat} {F : Int → Option Value} {G : DirsG} (h : DirsAt w b n F G) (hb : Below w.heap.size w w') : DirsAt w' b n F G := by
  obtain ⟨c, hf⟩ := h.f
  refine ⟨⟨c, hf.below hb⟩, fun x hx => ?_⟩
  have hg := h.g x hx
  cases hv : F x with
  | none => rw [hv] at hg; exact hg
  | some v =>
    rw [hv] at hg
    obtain ⟨l, h1, h2⟩ := hg
    exact ⟨l, h1, h2.kept hb⟩
theorem DirsAt.no {w : World} {b n : Nat} {F : Int → Option Value} {G : DirsG} (h : DirsAt w b n F G) {x : Int} (hx : inI64 x) (hv : F x = none) : G x = none := by
  have := h.g x hx
  rw [hv] at this
  exact this
theorem DirsAt.yes {w : World} {b n : Nat} {F : Int → Option Value} {G : DirsG} (h : DirsAt w b n F G) {x : Int} (hx : inI64 x) {v : Value} (hv : F x = some v) : ∃ l, G x = some l ∧ EntsIs w v l := by
  have := h.g x hx
  rw [hv] at this
  exact this
theorem LstIs.spot {α : Type} {f : α → List Value} {c : Nat} {w : World} {g off n cap : Nat} {l : List α} (h : LstIs f c w (.slice (some ⟨g, off, none⟩) n cap) l) {j : Nat} {x : α} (hj : l[j]? = some x) : w.rangeAt g (off + j * c) (f x) := by
  obtain ⟨g', off', he, _, hr⟩ := h.at hj
  injection he with he
  injection he with e1 e2
  subst e1 e2
  exact hr
theorem rise_none (l : List Ent) : risingE (l.take 0) := fun i x y h => by simp at h
theorem rise_snoc {l : List Ent} {k : Nat} {y : Ent} (h : risingE (l.take k)) (hy : l[k]? = some y) (hp : ∀ p x, k = p + 1 → l[p]? = some x → x.cookie < y.cookie) : risingE (l.take (k + 1)) := by
  intro i x z hx hz
  rw [List.getElem?_take] at hx hz
  by_cases h1 : i + 1 < k
  · rw [if_pos (by omega)] at hx hz
    exact h i x z (by rw [List.getElem?_take, if_pos (by omega)]; exact hx) (by rw [List.getElem?_take, if_pos h1]; exact hz)
  · split at hz
    · rename_i h2
      have hk : k = i + 1 := by omega
      rw [if_pos (by omega)] at hx
      rw [← hk, hy] at hz
      obtain rfl := Option.some.inj hz
      exact hp i x hk hx
    · cases hz
theorem rise_bad {l : List Ent} {p : Nat} {x y : Ent} (hx : l[p]? = some x) (hy : l[p + 1]? = some y) (h : ¬ x.cookie < y.cookie) : ¬ risingE l := fun hr => h (hr p x y hx hy)
theorem allI_mid {G : DirsG} {keys : List Int} {i k : Nat} {q : Int} {l : List Ent} {y : Ent} (hy : l[k]? = some y) : allI G (keys.take i) ++ (l.take (k + 1)).map (Itm.mk q) = (allI G (keys.take i) ++ (l.take k).map (Itm.mk q)) ++ [⟨q, y⟩] := by
  rw [take_snoc hy, List.map_append, List.append_assoc]
  rfl
theorem allI_snoc {G : DirsG} {keys : List Int} {i : Nat} {q : Int} (h : keys[i]? = some q) : allI G (keys.take (i + 1)) = allI G (keys.take i) ++ ((G q).getD []).map (Itm.mk q) := by
  unfold allI
  rw [take_snoc h, List.flatMap_append]
  simp
theorem thereI_snoc {G : DirsG} {keys : List Int} {i : Nat} {q : Int} (h : keys[i]? = some q) : thereI G (keys.take (i + 1)) = thereI G (keys.take i) ++ (if (G q).isSome = true then [q] else []) := by
  unfold thereI
  rw [take_snoc h, List.filter_append]
  congr 1
  by_cases h : (G q).isSome = true <;> simp [h]
theorem allI_le {G : DirsG} {keys : List Int} {i : Nat} : (allI G (keys.take i)).length ≤ (allI G keys).length := by
  unfold allI
  conv => rhs; rw [← List.take_append_drop i keys, List.flatMap_append, List.length_append]
  omega
theorem thereI_le {G : DirsG} {keys : List Int} : (thereI G keys).length ≤ keys.length := List.length_filter_le _ _
/-- Two own rows of different types. -/
theorem own_beside {B B' : Nat} {T T' : TypeId} {c c' : Nat} {w w' : World} {v v' : Value} {n n' : Nat} {xs xs' : List Value} (h : w.ownsRow B T c v n xs) (h' : w.ownsRow B' T' c' v' n' xs') (hT : T ≠ T') (hg : w.grownBy w' v'.ownBlock) : w'.ownsRow B T c v n xs := by
  refine World.ownsRow.kept h hg ?_
  cases hv : v.ownBlock with
  | none => exact Or.inl rfl
  | some k =>
    right
    intro e
    rcases h.2 with ⟨h1, _⟩ | ⟨g, cap, cur, h1, _, hb, _⟩
    · rw [h1] at hv; cases hv
    · rw [h1] at hv
      obtain rfl := Option.some.inj hv
      rcases h'.2 with ⟨h2, _⟩ | ⟨g', cap', cur', h2, _, hb', _⟩
      · rw [h2] at e; cases e
      · rw [h2] at e
        obtain rfl := Option.some.inj e
        exact block_ne hb hb' hT rfl
theorem own_below {B : Nat} {T : TypeId} {c : Nat} {w w' : World} {v : Value} {n : Nat} {xs : List Value} (h : w.ownsRow B T c v n xs) (hb : Below w.heap.size w w') : w'.ownsRow B T c v n xs :=
  h.kept (row := Option.none) ⟨hb.os, hb.tape, hb.output, hb.size, fun k hk _ => hb.block k hk⟩ (by cases v.ownBlock <;> simp)
theorem link_empty (s : ByteArray) (sh : Int) : linkI [] 1 0 s false sh = if badE s sh = 0 then (([⟨0, ⟨s, 1, false, 1, sh⟩⟩], 2), 1, 0) else (([], 1), 0, badE s sh) := by
  unfold linkI
  have h1 : listE [] 0 = 0 := by decide
  have h2 : (findI [] 0 s).2 = 5 := rfl
  have h3 : freeN [] = 1 := by decide
  rw [h1, h2, h3]
  by_cases h : badE s sh = 0
  · rw [if_pos h, if_neg (by simp), if_neg (by rw [h]; simp), if_neg (by simp), if_neg (by simp)]
    rfl
  · rw [if_neg h, if_neg (by simp), if_pos h]
theorem below_step {B : Nat} {W0 W W' : World} (hB : B ≤ W0.heap.size) (h : Below B W0 W) (h' : Below W.heap.size W W') : Below B W0 W' := h.trans (h'.mono (Nat.le_trans hB h.size))
theorem below_store {B : Nat} {W0 W : World} {x y : Value} {o : Obj} (hB : B ≤ W0.heap.size) (h : Below B W0 W) : Below B W0 (((W.alloc o).setCell ⟨W.heap.size, 0, none⟩ x).setCell ⟨W.heap.size, 1, none⟩ y) := below_two (below_al h hB) (Nat.le_trans hB h.size)
end Go.Proofs.Ytmplekjiciedgaa
