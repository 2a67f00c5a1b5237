/-
  A region that draws its order, by an invariant: what holds of the operations that have come up already, in whatever order, is kept by each that may come up next.
-/
import Derived.RegionTactic
import Derived.WalkKit
namespace Go.Proofs.YtnnpkognnbolcaaDoor
set_option linter.unusedVariables false

/-- Each operation waits for earlier ones alone. -/
def acyc (md : Region.Mode) (ops : Array Oper) : Bool :=
  (List.range ops.size).all fun i => match ops[i]? with
    | none => true
    | some o => o.after.all fun e => !Region.binds md e || decide (e.on < i)
theorem acyc_spec {md : Region.Mode} {ops : Array Oper} (h : acyc md ops = true) {i : Nat} {o : Oper} (ho : ops[i]? = some o) {e : Edge} (he : e ∈ o.after) (hb : Region.binds md e = true) : e.on < i := by
  have hlt : i < ops.size := (Array.getElem?_eq_some_iff.1 ho).1
  have h1 := List.all_eq_true.1 h i (List.mem_range.2 hlt)
  rw [ho] at h1
  have h2 := Array.all_eq_true_iff_forall_mem.1 h1 e he
  rw [hb] at h2
  simpa using h2

theorem inv_set {listed : Array Bool} {i : Nat} (hi : i < listed.size) : (fun j => (listed.setIfInBounds i true).getD j false) = fun j => if j = i then true else listed.getD j false := by
  funext j
  by_cases h : j = i
  · subst h
    rw [if_pos rfl]
    simp [hi]
  · rw [if_neg h, getD_set_ne false (Ne.symm h)]
theorem inv_count {listed : Array Bool} {i : Nat} (hi : i < listed.size) (h : listed.getD i true = false) : (listed.setIfInBounds i true).toList.count false + 1 = listed.toList.count false := by
  have hl : i < listed.toList.length := by simpa using hi
  have hv : listed.toList[i] = false := by
    rw [Array.getElem_toList]
    simpa [Array.getD, hi] using h
  have hpos : 0 < listed.toList.count false := List.count_pos_iff.2 (hv ▸ List.getElem_mem hl)
  rw [Array.toList_setIfInBounds, List.count_set hl, hv]
  show listed.toList.count false - 1 + 0 + 1 = listed.toList.count false
  omega

theorem wpAny_inv {P : Program} {md : Region.Mode} {ops : Array Oper} {Q : Exit → Act → World → Prop} (I : (Nat → Bool) → Act → World → Prop) (hac : acyc md ops = true)
    (hstep : ∀ i o, ops[i]? = some o → ∀ (L : Nat → Bool) a w, I L a w → L i = false → (∀ e ∈ o.after, Region.binds md e = true → L e.on = true) →
      ∀ K' : Act → World → Prop, (∀ a' w', I (fun j => if j = i then true else L j) a' w' → K' a' w') → if Region.wanted o (yielded ops a.tmps) = true then Oper.wp P o a w K' Q else K' (a.put o.dst undef) w)
    (hend : ∀ L a w, I L a w → (∀ i, i < ops.size → L i = true) → Q .normal a w) :
    ∀ (fuel : Nat) (listed : Array Bool) (a : Act) (w : World), listed.size = ops.size → listed.toList.count false ≤ fuel → I (fun j => listed.getD j false) a w → wpAny P md ops Q fuel listed a w := by
  intro fuel
  induction fuel with
  | zero =>
    intro listed a w hs hc hI
    have hall : ∀ i, i < ops.size → listed.getD i false = true := by
      intro i hi
      have hil : i < listed.size := by omega
      cases hv : listed.getD i false with
      | true => rfl
      | false =>
        exfalso
        have hl : i < listed.toList.length := by simpa using hil
        have : 0 < listed.toList.count false := List.count_pos_iff.2 (by
          have h1 : listed.toList[i] = false := by
            rw [Array.getElem_toList]
            simpa [Array.getD, hil] using hv
          exact h1 ▸ List.getElem_mem hl)
        omega
    refine ⟨?_, hend _ a w hI hall⟩
    apply List.eq_nil_iff_forall_not_mem.2
    intro j hj
    obtain ⟨h0, o, ho, _⟩ := mem_ready.1 hj
    have hlt : j < ops.size := (Array.getElem?_eq_some_iff.1 ho).1
    have hil : j < listed.size := by omega
    have h1 := hall j hlt
    simp [Array.getD, hil] at h0 h1
    rw [h0] at h1
    cases h1
  | succ fuel ih =>
    intro listed a w hs hc hI
    constructor
    · intro hr
      refine hend _ a w hI ?_
      intro i
      induction i using Nat.strongRecOn with
      | ind i ihi =>
        intro hi
        have hil : i < listed.size := by omega
        cases hv : listed.getD i false with
        | true => rfl
        | false =>
          exfalso
          have hm : i ∈ Region.ready md ops listed := by
            refine mem_ready.2 ⟨by simpa [Array.getD, hil] using hv, ops[i], by simp [hi], fun e he hb => ?_⟩
            have hlt := acyc_spec hac (i := i) (o := ops[i]) (by simp [hi]) he hb
            exact ihi e.on hlt (by omega)
          rw [hr] at hm
          cases hm
    · intro i hi
      obtain ⟨h0, o, ho, hdep⟩ := mem_ready.1 hi
      have hlt : i < ops.size := (Array.getElem?_eq_some_iff.1 ho).1
      have hil : i < listed.size := by omega
      have hf : listed.getD i false = false := by simpa [Array.getD, hil] using h0
      refine wpOp_mono (K := fun a' w' => I (fun j => if j = i then true else listed.getD j false) a' w') ?_ (wpOp_step ho (hstep i o ho _ a w hI hf hdep))
      intro a' w' h'
      refine ih _ a' w' (by simpa using hs) ?_ (by rw [inv_set hil]; exact h')
      have := inv_count hil h0
      omega

/-- What has come up is closed: whatever it waits for has come up, too. -/
def Dn (ops : Array Oper) (L : Nat → Bool) : Prop := ∀ j o, ops[j]? = some o → L j = true → ∀ e ∈ o.after, Region.binds .any e = true → L e.on = true

theorem region_inv {P : Program} {id : Nat} {ops : Array Oper} {Q : Exit → Act → World → Prop} {a : Act} {w : World} (hm : P.follows .mixedOrders = true) (I : (Nat → Bool) → Act → World → Prop) (hac : acyc .any ops = true)
    (hstart : I (fun _ => false) a w.drew)
    (hstep : ∀ i o, ops[i]? = some o → ∀ (L : Nat → Bool) a w, Dn ops L → I L a w → L i = false → (∀ e ∈ o.after, Region.binds .any e = true → L e.on = true) →
      ∀ K' : Act → World → Prop, (∀ a' w', I (fun j => if j = i then true else L j) a' w' → K' a' w') → if Region.wanted o (yielded ops a.tmps) = true then Oper.wp P o a w K' Q else K' (a.put o.dst undef) w)
    (hend : ∀ L a w, I L a w → (∀ i, i < ops.size → L i = true) → Q .normal a w) : (Code.region id ops true).wp P Q a w := by
  refine wp_region_any hm (wpAny_inv (fun L a w => Dn ops L ∧ I L a w) hac ?_ (fun L a w h => hend L a w h.2) _ _ _ _ (by simp) ?_ ?_)
  · intro i o ho L a w ⟨hd, hI⟩ hL hdep K' hK
    refine hstep i o ho L a w hd hI hL hdep K' (fun a' w' h => hK a' w' ⟨?_, h⟩)
    intro j oj hj hjL e he hb
    by_cases hei : e.on = i
    · simp [hei]
    · simp only [if_neg hei]
      by_cases hji : j = i
      · subst hji
        rw [ho] at hj
        cases hj
        exact hdep e he hb
      · simp only [if_neg hji] at hjL
        exact hd j oj hj hjL e he hb
  · simp
  · have e : (fun j => (Array.replicate ops.size false).getD j false) = fun _ => false := by
      funext j
      simp [Array.getD]
    rw [e]
    exact ⟨(fun j o _ h => by cases h), hstart⟩
end Go.Proofs.YtnnpkognnbolcaaDoor
