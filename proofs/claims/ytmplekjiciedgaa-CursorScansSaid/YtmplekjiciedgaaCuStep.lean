/-
  A new list of all entries and one more, in a region that draws its order: its two appends (as FcStep, for a seat without faces).
-/
import Derived.Test.YtmplekjiciedgaaQ1
namespace Go.Proofs.Ytmplekjiciedgaa
open Go.RowKit Go.Sort
set_option linter.unusedVariables false

abbrev E0 : Obj := .cells #[] 46
/-- A row of entries of the call's own. -/
def OwnE (B : Nat) (w : World) (v : Value) (l : List Ent) : Prop := w.ownsRow B 46 5 v l.length (l.flatMap entC)
theorem OwnE.nil (B : Nat) (w : World) : OwnE B w (.slice none 0 0) [] := World.ownsRow_nil _ _ _ _
theorem OwnE.ents {B : Nat} {w : World} {v : Value} {l : List Ent} (h : OwnE B w v l) : EntsIs w v l := LstIs.own (entC_len l) h rfl
theorem OwnE.below {B : Nat} {w w' : World} {v : Value} {l : List Ent} (h : OwnE B w v l) (hb : Below w.heap.size w w') : OwnE B w' v l :=
  World.ownsRow.kept (row := none) h ⟨hb.os, hb.tape, hb.output, hb.size, fun k hk _ => hb.block k hk⟩ (by cases h : v.ownBlock with | none => exact Or.inl rfl | some x => exact Or.inr (by simp))
theorem OwnE.al {B : Nat} {w : World} {v : Value} {l : List Ent} (h : OwnE B w v l) (o : Obj) : OwnE B (w.alloc o) v l := h.below ((Below.refl _ _).alloc (Nat.le_refl _) _)
theorem OwnE.mono {B B' : Nat} {w : World} {v : Value} {l : List Ent} (h : OwnE B' w v l) (hB : B ≤ B') : OwnE B w v l :=
  ⟨h.1, h.2.elim Or.inl (fun ⟨g, cap, cur, h1, h2, h3⟩ => Or.inr ⟨g, cap, cur, h1, Nat.le_trans hB h2, h3⟩)⟩
theorem OwnE.form {B : Nat} {w : World} {v : Value} {l : List Ent} (h : OwnE B w v l) : ∃ a c, v = .slice a l.length c := h.ents.len
theorem below_alS {w W : World} (h : Below w.heap.size w W) (o : Obj) : Below w.heap.size w (W.alloc o) := h.alloc h.size o
theorem heap_keep {W : World} {g : Nat} {x : Obj} (h : W.heap[g]? = some x) (o : Obj) : (W.alloc o).heap[g]? = some x := by
  rw [Below.heap_alloc W o g (lt_of_get h)]; exact h
theorem heap_two (W : World) (o o' : Obj) : ((W.alloc o).alloc o').heap[W.heap.size + 1]? = ((W.alloc o).alloc o').heap[(W.alloc o).heap.size]? := by
  rw [show (W.alloc o).heap.size = W.heap.size + 1 by simp]
theorem heap_one (W : World) (cs : Array Value) (T : TypeId) (o' : Obj) : ((W.alloc (.cells cs T)).alloc o').heap[W.heap.size]? = some (.cells cs T (0, 0)) := heap_keep (heap_alloc_new _ _) _
theorem heap_snd (W : World) (cs : Array Value) (T : TypeId) (o : Obj) : ((W.alloc o).alloc (.cells cs T)).heap[W.heap.size + 1]? = some (.cells cs T (0, 0)) := by
  rw [heap_two]; exact heap_alloc_new _ _
section
variable {ops : Array Oper} {o : Oper} {a : Act} {w W : World} {K : Act → World → Prop} {Q : Exit → Act → World → Prop} {F : Prop}
theorem step_first (hgd : o.guard = none) (s x : Operand) (ho : o.op = .call { callee := .builtin .append, args := #[s, x], argTypes := #[32, 32] })
    (g : Nat) (hs : a.eval s = .slice (some ⟨g, 0, none⟩) 0 0) (hE : W.heap[g]? = some (.cells #[] 46 (0, 0))) (hg : w.heap.size ≤ g) (hW : Below w.heap.size w W) (vx : Value) (l : List Ent) (hx : a.eval x = vx) (hl : EntsIs w vx l) (hlen : l.length ≤ 1000)
    (h : ∀ v' w', OwnE w.heap.size w' v' l → Below w.heap.size w w' → (∀ k o, k ≠ g → W.heap[k]? = some o → w'.heap[k]? = some o) → K (a.put o.dst v') w') :
    if Region.wanted o (yielded ops a.tmps) = true then Oper.wp Try.prog o a W K Q else F := by
  refine step_append_lst entElem hgd s x ho w.heap.size _ 0 [] hs (own_new hE hg) vx l (entC_len l) (fun y _ => entC_one y) hx (LstIs.kept hl hW) (by omega) hW.size ?_
  intro v' w' hown hgr _
  rw [Nat.zero_add, List.nil_append] at hown
  refine h v' w' hown (hW.grown hgr hW.size (fun k hk => by obtain rfl := Option.some.inj hk; exact hg)) (fun k o hk ho => ?_)
  rw [hgr.block k (lt_of_get ho) (fun e => hk (Option.some.inj e))]
  exact ho
theorem step_second (hgd : o.guard = none) (s x : Operand) (ho : o.op = .call { callee := .builtin .append, args := #[s, x], argTypes := #[32, 32] })
    (v : Value) (l : List Ent) (hs : a.eval s = v) (hown : OwnE w.heap.size W v l) (hW : Below w.heap.size w W) (g : Nat) (e : Ent) (hx : a.eval x = .slice (some ⟨g, 0, none⟩) 1 1) (hg : W.heap[g]? = some (.cells (entC e).toArray 46 (0, 0))) (hlen : l.length ≤ 1000)
    (h : ∀ v' w', OwnE w.heap.size w' v' (l ++ [e]) → Below w.heap.size w w' → K (a.put o.dst v') w') :
    if Region.wanted o (yielded ops a.tmps) = true then Oper.wp Try.prog o a W K Q else F := by
  refine step_append_lst entElem hgd s x ho w.heap.size v l.length _ hs hown _ [e] (entC_len _) (fun y _ => entC_one y) hx (LstIs.block (entC_len _) hg) (by simp; omega) hW.size ?_
  intro v' w' hown' hgr _
  refine h v' w' ?_ (hW.grown hgr hW.size (fun k hk => (hown.lt k hk).1))
  unfold OwnE
  rw [List.length_append, List.flatMap_append]
  exact hown'
end
end Go.Proofs.Ytmplekjiciedgaa
