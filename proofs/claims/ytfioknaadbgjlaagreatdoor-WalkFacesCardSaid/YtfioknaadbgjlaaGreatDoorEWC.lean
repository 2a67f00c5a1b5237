/- Kit. -/
import Derived.Test.YtfioknaadbgjlaaGreatDoorEQI
import Derived.Test.YtfioknaadbgjlaaGreatDoorEQ4
import Derived.Test.YtfioknaadbgjlaaGreatDoorEWA
import Derived.Test.YtfioknaadbgjlaaGreatDoorEF2
import Derived.Test.YtfioknaadbgjlaaGreatDoorEWB
set_option maxRecDepth 100000
set_option linter.unusedVariables false
set_option linter.unusedSimpArgs false
namespace Go.Proofs.YtfioknaadbgjlaaGreatDoor
open Go.RowKit Go.Sort
/-- What the program's Node, and Parent, keep, in a world of K. -/
def NodeC (K : World → Prop) (fd : Int → List Ent → List UInt8 → Option Ent) : Prop := ∀ (E : Int) (w : World) (b : Nat) (l : List Itm) (nx : Int) (S : Nat → Prop) (s : ByteArray), 0 ≤ E → E ≤ 8 → K w → theTree.Is w b l nx S → s.size ≤ 9223372036854775807 →
  Calls Tryz.prog 8 #[.int .i64 E, ptrV b, .string s] w fun e w' => e = .returned (walkV (nodeI (fd E) l s.data.toList)) ∧ Below w.heap.size w w'
def ParentC (K : World → Prop) (fd : Int → List Ent → List UInt8 → Option Ent) : Prop := ∀ (E : Int) (w : World) (b : Nat) (l : List Itm) (nx : Int) (S : Nat → Prop) (s : ByteArray), 0 ≤ E → E ≤ 8 → K w → theTree.Is w b l nx S → s.size ≤ 9223372036854775807 →
  Calls Tryz.prog 10 #[.int .i64 E, ptrV b, .string s] w fun e w' => e = .returned (parV (parentI (fd E) l s.data.toList)) ∧ Below w.heap.size w w'
end Go.Proofs.YtfioknaadbgjlaaGreatDoor
namespace Go.Proofs.YtfioknaadbgjlaaGreatDoor
open Go.RowKit Go.Sort
theorem fndV_found (o : Option Ent) : fndV o = F.foundV o := by cases o <;> rfl
theorem badE_ok {e : Ent} (h : badE e.name e.short = 0) : F.EntOk e := by
  unfold badE at h
  split at h
  · rename_i hg
    split at h
    · exact absurd h (by decide)
    · unfold goodB at hg
      simp only [Bool.and_eq_true, decide_eq_true_eq] at hg
      have := hg.2.2.1
      exact ⟨by omega, by omega, by omega⟩
  · exact absurd h (by decide)
theorem tree_ok {w : World} {b : Nat} {l : List Itm} {nx : Int} {S : Nat → Prop} (h : theTree.Is w b l nx S) : ∀ x ∈ l, F.EntOk x.e := fun x hx => badE_ok ((theGood h).form x hx)
end Go.Proofs.YtfioknaadbgjlaaGreatDoor
namespace Go.Proofs.YtfioknaadbgjlaaGreatDoor
open Go.RowKit Go.Sort
def KW (w : World) : Prop := F.Tabs w ∧ F.Base w
theorem kw_lasts : Lasts KW := fun w w' h hb => ⟨h.1.step hb, h.2.step hb⟩
abbrev fdW : Int → List Ent → List UInt8 → Option Ent := fun E l s => F.faced E l s
section
variable {w : World} {b : Nat} {l : List Itm} {nx : Int} {S : Nat → Prop}
theorem listW (hi : theTree.Is w b l nx S) : ListW w b l := fun d W hW => (theTree.list d (theTree.below hi hW)).mono fun e w' ⟨v, h1, h2, _, h4⟩ => ⟨v, h1, h2, h4⟩
theorem findW {E : Int} (h0 : 0 ≤ E) (h8 : E ≤ 8) (hk : KW w) (hi : theTree.Is w b l nx S) : FindW w E (fdW E) l := fun d v s W hW hv =>
  (F.ffind_c E h0 h8 v (listI l d) s W hv (Nat.le_trans (listI_le l d) (Nat.le_trans (theTree.len hi) (by omega))) (listI_ok (tree_ok hi) d) (hk.1.step hW) (hk.2.step hW)).mono fun e w' ⟨h1, h2⟩ => ⟨by rw [h1, fndV_found], h2⟩
theorem GoodT.kindD (h : GoodT l nx) {x : Itm} (hx : x ∈ l) : kindI l x.e.node = if x.e.dir = true then 2 else 1 := by
  have h1 := h.node x hx
  unfold kindI
  rw [if_neg (by omega)]
  unfold kindGo
  rw [nodeAt_mem h hx]
theorem kindsW {E : Int} (hi : theTree.Is w b l nx S) : KindsOk (fdW E) l where
  kind d e he := by
    obtain ⟨x, hx, rfl⟩ : ∃ x ∈ l, x.e = e := by
      unfold listI at he
      split at he
      · unfold entsI at he
        obtain ⟨x, hx, h2⟩ := List.mem_map.1 he
        exact ⟨x, (List.mem_filter.1 hx).1, h2⟩
      · cases he
    exact (theGood hi).kindD hx
  mem L x e h := List.mem_of_find?_eq_some h
end
theorem nodeW_c : NodeC KW fdW := fun E w b l nx S s h0 h8 hk hi hs => pnode_c (K := fun _ => True) split_c trivial (listW hi) (findW h0 h8 hk hi) (kindsW hi) s hs
theorem parentW_c : ParentC KW fdW := fun E w b l nx S s h0 h8 hk hi hs => pparent_c split_d (listW hi) (findW h0 h8 hk hi) (kindsW hi) s hs
theorem splitW_c : SplitC KW := fun b w hs _ => split_c b w hs trivial
end Go.Proofs.YtfioknaadbgjlaaGreatDoor
