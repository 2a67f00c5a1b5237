/-
  What the laws ask of a tree, shown of the project's.
-/
import Derived.Test.YthaghhleidopeaaTrMove
import Derived.Test.YthaghhleidopeaaTreeC
namespace Go.Proofs.Ythaghhleidopeaa
open Go.RowKit Go.Sort
set_option linter.unusedVariables false

theorem outRow_empty : outRow 0 [] = usedRow [] := by decide +kernel
theorem kindN_nil : kindN [] = rootK := by
  funext n
  unfold rootK upd
  rw [kindN_at]
  by_cases h : n = 0
  · subst h; rfl
  · rw [if_neg (by omega), if_neg h]; rfl
theorem goodT_nil : GoodT [] 1 := ⟨(fun x hx => nomatch hx), List.nodup_nil, (fun x hx => nomatch hx), (fun x hx => nomatch hx), List.Pairwise.nil, (fun x hx => nomatch hx), List.Pairwise.nil, ⟨fun _ => 0, (fun x hx => nomatch hx)⟩, by decide⟩
theorem foot_typ {w : World} {b : Nat} {K : Nat → Int} {E : Nat → List Ent} {R : Nat → Value} {u : Nat} {v : Value} {ys : List Int} {c : Int} (h : TM w b K E R u v ys c) : ∀ k, Foot b R v k → ∀ t ∈ [99, 48, 32], ∀ cs fr, w.heap[k]? ≠ some (.cells cs t fr) := by
  intro k hk t ht cs fr hc
  have key : ∃ T cs', w.heap[k]? = some (.cells cs' T (0, 0)) ∧ (T = 84 ∨ T = 40 ∨ T = 3) := by
    rcases hk with rfl | ⟨n, hn, hg⟩ | hg
    · obtain ⟨cs', h1, _⟩ := h.cells
      exact ⟨_, cs', h1, Or.inl rfl⟩
    · obtain ⟨cs', h1⟩ := ownsRow_typ (h.rows n hn) hg
      exact ⟨_, cs', h1, Or.inr (Or.inl rfl)⟩
    · obtain ⟨cs', h1⟩ := ownsRow_typ h.own hg
      exact ⟨_, cs', h1, Or.inr (Or.inr rfl)⟩
  obtain ⟨T, cs', h1, h2⟩ := key
  rw [hc] at h1
  injection h1 with h1
  injection h1 with _ h3 _
  rw [h3] at ht
  rcases h2 with rfl | rfl | rfl <;> exact absurd ht (by decide)
theorem theNew (w : World) : Calls Try.prog 10 #[] w fun e w' => ∃ b S, e = .returned (ptrV b) ∧ TIs w' b [] 1 S ∧ (∀ k, S k → w.heap.size ≤ k) ∧ Below w.heap.size w w' := by
  have h := treeNew_c w
  unfold NewTPost at h
  refine h.mono ?_
  rintro e w' ⟨b, rfl, hb, hm, hbb⟩
  rw [← kindN_nil] at hm
  refine ⟨b, Foot b (fun _ => .slice none 0 0) (.slice none 0 0), rfl, ⟨_, 0, _, [], hm, outRow_empty, goodT_nil, rfl⟩, ?_, hbb⟩
  rintro k (rfl | ⟨n, _, hg⟩ | hg)
  · exact hb
  · cases hg
  · cases hg
def theTree : TreeC where
  Is := TIs
  lt := by
    rintro w b l nx S ⟨R, u, v, ys, hm, _, _, rfl⟩ k hk
    exact (hm.lt k hk).2
  len := by
    rintro w b l nx S ⟨R, u, v, ys, hm, _, hg, rfl⟩
    exact hg.len
  next := by
    rintro w b l nx S ⟨R, u, v, ys, hm, _, hg, rfl⟩
    exact hg.nx1
  kept := by
    rintro w w' b l nx S ⟨R, u, v, ys, hm, ho, hg, rfl⟩ hs hk
    exact ⟨R, u, v, ys, hm.kept hk, ho, hg, rfl⟩
  typ := by
    rintro w b l nx S ⟨R, u, v, ys, hm, ho, hg, rfl⟩
    exact foot_typ hm
  new := theNew
  link := by
    rintro w b l nx S d s isD sh ⟨R, u, v, ys, hm, ho, hg, rfl⟩ hs hnx
    exact treeLink_c hm ho hg d s isD sh hs hnx
  unlink := by
    rintro w b l nx S d s isD ⟨R, u, v, ys, hm, ho, hg, rfl⟩
    exact treeUnlink_c hm ho hg d s isD
  move := by
    rintro w b l nx S d s dt ns sh ⟨R, u, v, ys, hm, ho, hg, rfl⟩ hs hnx
    exact treeMove_c hm ho hg d s dt ns sh hs hnx
  list := by
    rintro w b l nx S d ⟨R, u, v, ys, hm, ho, hg, rfl⟩
    have h := treeList_c hm (fun n hn => Nat.le_trans (hg.elen n) (by omega)) d
    unfold TListPost at h
    rw [hg.open'] at h
    refine h.mono ?_
    rintro e w' ⟨v', rfl, he, hf, hb⟩
    refine ⟨v', rfl, ?_, hf, hb⟩
    unfold listI
    by_cases hd : listE l d = 0
    · obtain ⟨n, rfl, _, _⟩ := hg.dir hd
      rw [if_pos hd] at he ⊢
      rw [Int.toNat_natCast] at he
      exact he
    · rw [if_neg hd] at he ⊢
      exact he
  find := by
    rintro w b l nx S d s ⟨R, u, v, ys, hm, ho, hg, rfl⟩
    exact hg.findS hm d s
  dirs := by
    rintro w b l nx S ⟨R, u, v, ys, hm, ho, hg, rfl⟩
    have h := treeDirs_c hm
    unfold TDirsPost at h
    rw [dirsK_to] at h
    exact h
  nodes := by
    rintro w b l nx S ⟨R, u, v, ys, hm, ho, hg, rfl⟩
    have h := nodes_c hm
    rw [ho, hg.count] at h
    exact h.mono fun e w' ⟨h1, q, h2⟩ => ⟨h1, by rw [h2]; exact below_drewN1 (Below.refl _ _) q⟩
  cookie := by
    rintro w b l nx S ⟨R, u, v, ys, hm, ho, hg, rfl⟩
    exact (cookie_c hm).mono fun e w' ⟨h1, h2⟩ => ⟨h1, by rw [h2]; exact Below.refl _ _⟩
theorem theGood {w : World} {b : Nat} {l : List Itm} {nx : Int} {S : Nat → Prop} (h : theTree.Is w b l nx S) : GoodT l nx := by
  obtain ⟨R, u, v, ys, hm, ho, hg, _⟩ := h
  exact hg
theorem theCook {w : World} {b : Nat} {l : List Itm} {nx : Int} {S : Nat → Prop} (h : theTree.Is w b l nx S) : Calls Try.prog 18 #[ptrV b] w fun e w' => e = .returned (.int .i64 nx) ∧ w' = w := by
  obtain ⟨R, u, v, ys, hm, ho, hg, _⟩ := h
  exact cookie_c hm
end Go.Proofs.Ythaghhleidopeaa
