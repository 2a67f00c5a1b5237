/-
  The law TreeBack: what is linked and unlinked, moved and moved back.
-/
import Derived.Test.YthaghhleidopeaaTrTheTree
import Derived.Test.YthaghhleidopeaaTreeC
import Derived.Test.YthaghhleidopeaaR10Same
namespace Go.Proofs.Ythaghhleidopeaa
open Go.RowKit Go.Sort
set_option linter.unusedVariables false

theorem named_snoc (l : List Ent) (x : Ent) (s : ByteArray) : named (l ++ [x]) s = match named l s with | some y => some y | none => if x.name = s then some x else none := by
  unfold named
  rw [List.find?_append]
  cases h : l.find? fun y => decide (y.name = s) with
  | some y => rfl
  | none =>
    rw [List.find?_singleton]
    by_cases hx : x.name = s <;> simp [hx]
theorem listE_of {l l' : List Itm} {d : Int} (h : kindI l' d = kindI l d) : listE l' d = listE l d := by
  unfold listE
  rw [h]
theorem listE_two {l : List Itm} {d : Int} (h : kindI l d = 2) : listE l d = 0 := by
  unfold listE
  rw [h]
  rfl
theorem findI_eq {l : List Itm} {d : Int} {s : ByteArray} (hd : listE l d = 0) : findI l d s = match named (entsI l d) s with | some x => (x, 0) | none => (noEnt, 5) := by
  unfold findI listI
  rw [if_pos hd]
  cases named (entsI l d) s with
  | some x => rfl
  | none => simp only [if_pos hd]
section
variable {l : List Itm} {nx : Int}
theorem drop_put {d : Int} {s : ByteArray} {e : Ent} (h : ∀ x ∈ l, x.inn = d → x.e.name ≠ s) (he : e.name = s) : dropI (l ++ [⟨d, e⟩]) d s = l := by
  unfold dropI
  rw [List.filter_append]
  have h1 : l.filter (fun x => !(decide (x.inn = d) && decide (x.e.name = s))) = l := by
    rw [List.filter_eq_self]
    intro x hx
    by_cases h1 : x.inn = d
    · simp [h1, h x hx h1]
    · simp [h1]
  rw [h1]
  simp [he]
/-- What is linked can be unlinked, and leaves what was. -/
theorem link_unlink (h : GoodT l nx) {d : Int} {s : ByteArray} (hf : (linkI l nx d s true 0).2.2 = 0) : listE l d = 0 ∧ (unlinkI (linkI l nx d s true 0).1.1 (linkI l nx d s true 0).1.2 d s true).2 = 0 ∧ (unlinkI (linkI l nx d s true 0).1.1 (linkI l nx d s true 0).1.2 d s true).1.1 = l := by
  unfold linkI at hf ⊢
  by_cases h1 : listE l d = 0
  · refine ⟨h1, ?_⟩
    rw [if_neg (by simp [h1])] at hf ⊢
    by_cases h2 : badE s 0 = 0
    · rw [if_neg (by simp [h2])] at hf ⊢
      by_cases h3 : (findI l d s).2 = 0
      · rw [if_pos h3] at hf
        exact absurd hf (by simp)
      · rw [if_neg h3] at hf ⊢
        by_cases h4 : freeN l = 0
        · rw [if_pos h4] at hf
          exact absurd hf (by simp)
        · rw [if_neg h4]
          obtain ⟨n, rfl, hn, hk⟩ := h.dir h1
          have hkn := freeN_kind l h4
          have hle : freeN l ≤ 200 := by
            rcases freeGo_le l 200 1 with h5 | h5
            · have : freeN l = freeGo l 200 1 := rfl
              omega
            · have : freeN l = freeGo l 200 1 := rfl
              omega
          show (unlinkI (putI l nx (n : Int) ⟨s, (freeN l : Int), true, 0, 0⟩) (nx + 1) (n : Int) s true).2 = 0 ∧ (unlinkI (putI l nx (n : Int) ⟨s, (freeN l : Int), true, 0, 0⟩) (nx + 1) (n : Int) s true).1.1 = l
          have hnn := no_name h1 h3
          have hL : listE (putI l nx (n : Int) ⟨s, (freeN l : Int), true, 0, 0⟩) (n : Int) = 0 := by
            apply listE_two
            have h6 := congrFun (kindN_snoc l (n : Int) ⟨s, (freeN l : Int), true, nx, 0⟩ (nd := freeN l) rfl (by omega) hkn) n
            have h7 : kindN (putI l nx (n : Int) ⟨s, (freeN l : Int), true, 0, 0⟩) n = 2 := by
              show kindN (l ++ [_]) n = 2
              rw [h6]
              unfold upd
              split
              · rename_i e
                rw [← e, hk] at hkn
                omega
              · exact hk
            exact h7
          have hF : findI (putI l nx (n : Int) ⟨s, (freeN l : Int), true, 0, 0⟩) (n : Int) s = (⟨s, (freeN l : Int), true, nx, 0⟩, 0) := by
            rw [findI_eq hL]
            show (match named (entsI (l ++ [⟨(n : Int), ⟨s, (freeN l : Int), true, nx, 0⟩⟩]) (n : Int)) s with | some x => (x, (0 : Int)) | none => (noEnt, 5)) = _
            rw [entsI_snoc1, if_pos rfl, named_snoc]
            have : named (entsI l (n : Int)) s = none := by
              unfold named
              rw [List.find?_eq_none]
              intro e he
              obtain ⟨y, hy, hi, rfl⟩ := mem_entsI.1 he
              simpa using hnn y hy hi
            rw [this]
            simp
          have hH : hasIn (putI l nx (n : Int) ⟨s, (freeN l : Int), true, 0, 0⟩) (freeN l : Int) = false := by
            unfold hasIn
            rw [List.any_eq_false]
            intro y hy
            have : y.inn ≠ (freeN l : Int) := fun e => by
              rcases List.mem_append.1 hy with hy | hy
              · have h8 := h.inn y hy
                rw [e] at h8
                have : kindN l (freeN l) = 2 := h8
                omega
              · obtain rfl := List.mem_singleton.1 hy
                have h8 : (n : Int) = (freeN l : Int) := e
                have h9 : n = freeN l := by omega
                rw [← h9, hk] at hkn
                omega
            simpa using this
          unfold unlinkI
          rw [hF]
          simp only [ne_eq, not_true_eq_false, if_false, Bool.true_eq_false, and_false, false_and, hH, Bool.false_eq_true]
          refine ⟨trivial, ?_⟩
          exact drop_put hnn rfl
    · rw [if_pos h2] at hf
      exact absurd hf h2
  · rw [if_pos h1] at hf
    exact absurd hf h1
/-- What is moved in a directory can be moved back. -/
theorem move_back (h : GoodT l nx) {d : Int} {s a : ByteArray} (hm : (moveI l nx d s d a 0).2 = 0) :
    ∃ x : Ent, findI l d s = (x, 0) ∧ findI (moveI l nx d s d a 0).1.1 d a = (⟨a, x.node, x.dir, nx, 0⟩, 0) ∧ (findI (moveI l nx d s d a 0).1.1 d s).2 = 5 ∧ (moveI l nx d s d a 0).1.2 = nx + 1 ∧ (moveI (moveI l nx d s d a 0).1.1 (nx + 1) d a d s x.short).2 = 0 := by
  unfold moveI at hm
  by_cases h1 : (findI l d s).2 = 0
  · rw [if_neg (by simp [h1])] at hm
    obtain ⟨hd, hnm, hmem, hns⟩ := found h1
    obtain ⟨x, hx⟩ : ∃ x, (findI l d s).1 = x := ⟨_, rfl⟩
    have hFx : findI l d s = (x, 0) := by rw [← hx, ← h1]
    rw [hx] at hm hnm hmem hns
    rw [if_neg (by simp [hd])] at hm
    by_cases h2 : badE a 0 = 0
    · rw [if_neg (by simp [h2])] at hm
      by_cases h3 : loopGo l x.node 300 d = true
      · rw [if_pos h3] at hm
        exact absurd hm (by simp)
      · rw [if_neg h3] at hm
        by_cases h4 : (findI l d a).2 = 0
        · rw [if_pos h4] at hm
          exact absurd hm (by simp)
        · have hMv : moveI l nx d s d a 0 = ((putI (dropI l d s) nx d ⟨a, x.node, x.dir, 0, 0⟩, nx + 1), 0) := by
            unfold moveI
            rw [if_neg (by simp [h1]), if_neg (by simp [hd]), if_neg (by simp [h2]), hx, if_neg h3, if_neg h4]
          rw [hMv]
          obtain ⟨n, rfl, hn, hk⟩ := h.dir hd
          have hdr : dropI l (n : Int) s = dropI l (n : Int) x.name := by rw [hns]
          have hg := h.move hmem hd h2 h3 h4
          have hkm := kindN_move h hmem (n : Int) a 0
          simp only at hg hkm
          rw [← hdr] at hg hkm
          have hL : listE (putI (dropI l (n : Int) s) nx (n : Int) ⟨a, x.node, x.dir, 0, 0⟩) (n : Int) = 0 := by
            apply listE_two
            have := congrFun hkm n
            exact this.trans hk
          have hnn := no_name hd h4
          have hne : s ≠ a := fun e => by
            rw [e] at h1
            exact h4 h1
          have hE : entsI (putI (dropI l (n : Int) s) nx (n : Int) ⟨a, x.node, x.dir, 0, 0⟩) (n : Int) = entsI (dropI l (n : Int) s) (n : Int) ++ [⟨a, x.node, x.dir, nx, 0⟩] := by
            show entsI (dropI l (n : Int) s ++ [_]) (n : Int) = _
            rw [entsI_snoc1, if_pos rfl]
          have hda : named (entsI (dropI l (n : Int) s) (n : Int)) a = none := by
            unfold named
            rw [List.find?_eq_none]
            intro e he
            obtain ⟨y, hy, hi, rfl⟩ := mem_entsI.1 he
            simpa using hnn y ((drop_sub l _ _).subset hy) hi
          have hds : named (entsI (dropI l (n : Int) s) (n : Int)) s = none := by
            unfold named
            rw [List.find?_eq_none]
            intro e he
            obtain ⟨y, hy, hi, rfl⟩ := mem_entsI.1 he
            have hy2 := hy
            rw [hdr] at hy2
            have hyy := (mem_drop h hmem y).1 hy2
            intro hc
            have hc := of_decide_eq_true hc
            rcases pair_or h.names hyy.1 hmem hyy.2 with h5 | h5
            · exact h5 hi (hc.trans hns.symm)
            · exact h5 hi.symm (hns.trans hc.symm)
          have hF1 : findI (putI (dropI l (n : Int) s) nx (n : Int) ⟨a, x.node, x.dir, 0, 0⟩) (n : Int) a = (⟨a, x.node, x.dir, nx, 0⟩, 0) := by
            rw [findI_eq hL, hE, named_snoc, hda]
            simp
          have hF2 : findI (putI (dropI l (n : Int) s) nx (n : Int) ⟨a, x.node, x.dir, 0, 0⟩) (n : Int) s = (noEnt, 5) := by
            rw [findI_eq hL, hE, named_snoc, hds]
            simp [Ne.symm hne]
          refine ⟨x, hFx, hF1, by rw [hF2], rfl, ?_⟩
          have hform := h.form _ hmem
          simp only at hform
          rw [hns] at hform
          have hlp : loopGo (putI (dropI l (n : Int) s) nx (n : Int) ⟨a, x.node, x.dir, 0, 0⟩) x.node 300 (n : Int) ≠ true := fun hc => h3 (by
            have hxn : 0 ≤ x.node := by have := h.node _ hmem; simp only at this; omega
            rw [loop_iff hg hxn] at hc
            rw [loop_iff h hxn]
            have key : ∀ m, Up (putI (dropI l (n : Int) s) nx (n : Int) ⟨a, x.node, x.dir, 0, 0⟩) x.node m → Up l x.node m := fun m hu => by
              induction hu with
              | here => exact Up.here
              | step y hy _ ih =>
                rcases List.mem_append.1 hy with hy | hy
                · exact Up.step y ((drop_sub l _ _).subset hy) ih
                · obtain rfl := List.mem_singleton.1 hy
                  exact Up.here
            exact key _ hc)
          show (moveI (putI (dropI l (n : Int) s) nx (n : Int) ⟨a, x.node, x.dir, 0, 0⟩) (nx + 1) (n : Int) a (n : Int) s x.short).2 = 0
          unfold moveI
          rw [hF1]
          simp only [ne_eq, not_true_eq_false, if_false]
          rw [if_neg (by simp [hL]), if_neg (by simp [hform]), if_neg hlp, if_neg (by rw [hF2]; decide)]
    · rw [if_pos h2] at hm
      exact absurd hm h2
  · rw [if_pos h1] at hm
    exact absurd hm h1
end
end Go.Proofs.Ythaghhleidopeaa
