/- Kit. -/
import Derived.Test.YtfioknaadbgjlaaGreatDoorEWkFacesM
import Derived.Test.YtfioknaadbgjlaaGreatDoorEWkSeenM
import Derived.Test.YtfioknaadbgjlaaGreatDoorEWC
import Derived.Test.YtfioknaadbgjlaaGreatDoorEF2
set_option maxRecDepth 100000
set_option linter.unusedVariables false
set_option linter.unusedSimpArgs false
namespace Go.Proofs.YtfioknaadbgjlaaGreatDoor
open Go.RowKit Go.Sort
theorem strElem : ElemOf Tryz.prog 40 9 1 :=
  ⟨Tryz.underlying40, by
    obtain ⟨i0, h1, h2, h3, h4⟩ := info_parts infoStrW
    exact ⟨i0, _, 16, h1, h2, h3, h4, rfl, by decide⟩, by decide⟩
def pathS (ns : List (List UInt8)) : ByteArray := mkS (joinP ns)
structure Gone (E : Int) (L : List Itm) (B : Nat) (w : World) (dv pv : Value) (ds : List Int) (ps : List (List (List UInt8))) (i k : Nat) : Prop where
  own : w.ownsRow B 3 1 dv ds.length (ds.flatMap numC)
  txt : w.ownsRow B 9 1 pv ps.length ((ps.map pathS).flatMap txC)
  same : ps.length = ds.length
  seen : Seen L ds i k
  way : ∀ (j : Nat) (d : Int), ds[j]? = some d → ∃ ns, ps[j]? = some ns ∧ LeadsTo E L ns d ∧ (joinP ns).length ≤ 1024
theorem gone_own {B : Nat} {T : TypeId} {w w' : World} {v : Value} {n : Nat} {xs : List Value} (h : w.ownsRow B T 1 v n xs) (hb : Below w.heap.size w w') : w'.ownsRow B T 1 v n xs :=
  ownsRow_same h fun g hg => by
    obtain ⟨cur, hc⟩ := ownsRow_typ h hg
    exact hb.block g (lt_of_get hc)
/-- Two rows of different types stand in different blocks. -/
theorem own_other {B : Nat} {T T' : TypeId} {w w' : World} {v v' : Value} {n n' : Nat} {xs xs' : List Value} (h : w.ownsRow B T 1 v n xs) (h' : w.ownsRow B T' 1 v' n' xs') (hT : T ≠ T') (hg : w.grownBy w' v'.ownBlock) : w'.ownsRow B T 1 v n xs :=
  ownsRow_same h fun g hg' => by
    obtain ⟨cur, hc⟩ := ownsRow_typ h hg'
    refine hg.block g (lt_of_get hc) (fun e => ?_)
    obtain ⟨cur', hc'⟩ := ownsRow_typ h' e.symm
    exact block_ne hc hc' hT rfl
/-- A list that stands in neither row's block. -/
def Aside (mv dv pv : Value) : Prop := ∀ g, mv.ownBlock = some g → dv.ownBlock ≠ some g ∧ pv.ownBlock ≠ some g
section
variable {E : Int} {L : List Itm} {B : Nat} {w : World} {dv pv mv : Value} {ds : List Int} {ps : List (List (List UInt8))} {i k : Nat} {es : List Ent}
theorem Gone.below (h : Gone E L B w dv pv ds ps i k) {w' : World} (hb : Below w.heap.size w w') : Gone E L B w' dv pv ds ps i k :=
  ⟨gone_own h.own hb, gone_own h.txt hb, h.same, h.seen, h.way⟩
theorem Gone.next (h : Gone E L B w dv pv ds ps i k) : Gone E L B w dv pv ds ps i (k + 1) := ⟨h.own, h.txt, h.same, h.seen.next, h.way⟩
theorem Gone.over (h : Gone E L B w dv pv ds ps i k) : Gone E L B w dv pv ds ps (i + 1) 0 := ⟨h.own, h.txt, h.same, h.seen.over, h.way⟩
theorem Gone.forms (h : Gone E L B w dv pv ds ps i k) : ∃ a c a' c', dv = .slice a ds.length c ∧ pv = .slice a' ds.length c' := by
  obtain ⟨a, c, hd⟩ := (LstIs.own (f := numC) (numC_len _) h.own rfl).len
  obtain ⟨a', c', hp⟩ := (LstIs.own (f := txC) (txC_len _) h.txt (by rw [List.length_map])).len
  rw [List.length_map, h.same] at hp
  exact ⟨a, c, a', c', hd, hp⟩
theorem Gone.num {a : Option Addr} {n c : Nat} (h : Gone E L B w (.slice a n c) pv ds ps i k) {j : Nat} {d : Int} (hj : ds[j]? = some d) : ∃ g off, a = some ⟨g, off, none⟩ ∧ g < w.heap.size ∧ w.cell? ⟨g, off + j, none⟩ = some (.int .i64 d) := by
  obtain ⟨g, off, h1, h2, h3⟩ := (LstIs.own (f := numC) (numC_len _) h.own rfl).at hj
  refine ⟨g, off, h1, h2, ?_⟩
  have := num_at h3
  rwa [Nat.mul_one] at this
theorem Gone.path {a : Option Addr} {n c : Nat} (h : Gone E L B w dv (.slice a n c) ds ps i k) {j : Nat} {ns : List (List UInt8)} (hj : ps[j]? = some ns) : ∃ g off, a = some ⟨g, off, none⟩ ∧ g < w.heap.size ∧ w.cell? ⟨g, off + j, none⟩ = some (.string (pathS ns)) :=
  txt_at (LstIs.own (f := txC) (txC_len _) h.txt (by rw [List.length_map])) (by rw [List.getElem?_map, hj]; rfl)
theorem Gone.aside (h : Gone E L B w dv pv ds ps i k) (hm : ∀ g, mv.ownBlock = some g → w.heap.size ≤ g) : Aside mv dv pv := fun g hg => by
  have h1 := hm g hg
  refine ⟨fun e => ?_, fun e => ?_⟩
  · obtain ⟨cur, hc⟩ := ownsRow_typ h.own e
    have := lt_of_get hc
    omega
  · obtain ⟨cur, hc⟩ := ownsRow_typ h.txt e
    have := lt_of_get hc
    omega
/-- A list aside is kept by an appending. -/
theorem LstIs.aside {w w' : World} {row : Option Nat} (h : EntsIs w mv es) (hg : w.grownBy w' row) (hr : ∀ g, mv.ownBlock = some g → row ≠ some g) : EntsIs w' mv es := by
  rcases h with h | ⟨g, off, cap, hlt, hv, hc⟩
  · exact Or.inl h
  · refine Or.inr ⟨g, off, cap, Nat.lt_of_lt_of_le hlt hg.size, hv, fun j x hj k' u hu => ?_⟩
    rw [World.cell?_of_block (w := w) (a := ⟨g, off + j * 5 + k', none⟩) (hg.block g hlt (fun e => hr g (by rw [hv]; rfl) e.symm))]
    exact hc j x hj k' u hu
/-- What is kept between the two appendings. -/
structure Half (E : Int) (L : List Itm) (B : Nat) (w0 w : World) (dv pv mv : Value) (ds : List Int) (ps : List (List (List UInt8))) (i k : Nat) (es : List Ent) (d n : Int) : Prop where
  own : w.ownsRow B 3 1 dv (ds.length + 1) (ds.flatMap numC ++ [n].flatMap numC)
  txt : w.ownsRow B 9 1 pv ps.length ((ps.map pathS).flatMap txC)
  same : ps.length = ds.length
  seen : Seen L (ds ++ [n]) i (k + 1)
  way : ∀ (j : Nat) (d : Int), ds[j]? = some d → ∃ ns, ps[j]? = some ns ∧ LeadsTo E L ns d ∧ (joinP ns).length ≤ 1024
  ents : EntsIs w mv es
  side : Aside mv dv pv
  kept : Below B w0 w
theorem Half.al {w0 : World} {d n : Int} (h : Half E L B w0 w dv pv mv ds ps i k es d n) (hB : B ≤ w.heap.size) (o : Obj) : Half E L B w0 (w.alloc o) dv pv mv ds ps i k es d n :=
  have hb := (Below.refl w.heap.size w).alloc (Nat.le_refl _) o
  ⟨gone_own h.own hb, gone_own h.txt hb, h.same, h.seen, h.way, LstIs.kept h.ents hb, h.side, h.kept.alloc hB o⟩
theorem some_lt (h : EntsIs w mv es) (hn : 0 < es.length) : ∀ g, mv.ownBlock = some g → g < w.heap.size := fun g hg => by
  rcases h with ⟨h1, _⟩ | ⟨g', off, cap, hlt, hv, _⟩
  · rw [h1] at hn
    exact absurd hn (by simp)
  · rw [hv] at hg
    obtain rfl := Option.some.inj hg
    exact hlt
theorem Gone.half {w0 : World} (h : Gone E L B w dv pv ds ps i k) (hB : B ≤ w.heap.size) (hk : Below B w0 w) (he : EntsIs w mv es) (hs : Aside mv dv pv) {n d : Int} (hn : Seen L (ds ++ [n]) i (k + 1)) (hlen : 0 < es.length) {o : Obj} {w' : World} {dv' : Value}
    (ho : w'.ownsRow B 3 1 dv' (ds.length + 1) (ds.flatMap numC ++ [n].flatMap numC)) (hg : (w.alloc o).grownBy w' dv.ownBlock) (hr : dv'.ownBlock = dv.ownBlock ∨ dv'.ownBlock = some (w.alloc o).heap.size) : Half E L B w0 w' dv' pv mv ds ps i k es d n := by
  have hb : Below w.heap.size w (w.alloc o) := (Below.refl w.heap.size w).alloc (Nat.le_refl _) o
  have h1 := gone_own h.own hb
  have h2 := gone_own h.txt hb
  have he1 := LstIs.kept he hb
  refine ⟨ho, own_other h2 h1 (by decide) hg, h.same, hn, h.way, LstIs.aside he1 hg (fun g hg' => (hs g hg').1), fun g hg' => ⟨?_, (hs g hg').2⟩, ?_⟩
  · rcases hr with hr | hr
    · rw [hr]; exact (hs g hg').1
    · rw [hr]
      intro e
      have h3 := Option.some.inj e
      have h4 := some_lt he1 hlen g hg'
      omega
  · exact (hk.alloc hB o).grown hg (by have := hb.size; omega) (fun j hj => (h1.lt j hj).1)
theorem Half.full {w0 : World} {d n : Int} (h : Half E L B w0 w dv pv mv ds ps i k es d n) (hB : B ≤ w.heap.size) {ns : List (List UInt8)} (hl : LeadsTo E L ns n) (hp : (joinP ns).length ≤ 1024) (hlen : 0 < es.length) {o : Obj} {w' : World} {pv' : Value}
    (ho : w'.ownsRow B 9 1 pv' (ps.length + 1) ((ps.map pathS).flatMap txC ++ [pathS ns].flatMap txC)) (hg : (w.alloc o).grownBy w' pv.ownBlock) (hr : pv'.ownBlock = pv.ownBlock ∨ pv'.ownBlock = some (w.alloc o).heap.size) :
    Gone E L B w' dv pv' (ds ++ [n]) (ps ++ [ns]) i (k + 1) ∧ EntsIs w' mv es ∧ Aside mv dv pv' ∧ Below B w0 w' := by
  have hb : Below w.heap.size w (w.alloc o) := (Below.refl w.heap.size w).alloc (Nat.le_refl _) o
  have h1 := gone_own h.own hb
  have h2 := gone_own h.txt hb
  have he1 := LstIs.kept h.ents hb
  refine ⟨⟨?_, ?_, ?_, h.seen, ?_⟩, LstIs.aside he1 hg (fun g hg' => (h.side g hg').2), fun g hg' => ⟨(h.side g hg').1, ?_⟩, ?_⟩
  · have h3 := own_other h1 h2 (by decide) hg
    rw [List.length_append, List.flatMap_append]
    exact h3
  · rw [List.length_append, List.map_append, List.flatMap_append]
    exact ho
  · rw [List.length_append, List.length_append, h.same]; rfl
  · intro j e hj
    by_cases hlt : j < ds.length
    · rw [List.getElem?_append_left hlt] at hj
      obtain ⟨q, q1, q2, q3⟩ := h.way j e hj
      exact ⟨q, by rw [List.getElem?_append_left (by have := h.same; omega)]; exact q1, q2, q3⟩
    · rw [List.getElem?_append_right (by omega)] at hj
      have hj0 : j - ds.length = 0 := by
        have := (List.getElem?_eq_some_iff.1 hj).1
        simp at this
        omega
      rw [hj0] at hj
      have e1 : n = e := by simpa using hj
      subst e1
      refine ⟨ns, ?_, hl, hp⟩
      rw [List.getElem?_append_right (by have := h.same; omega), h.same, hj0]
      rfl
  · rcases hr with hr | hr
    · rw [hr]; exact (h.side g hg').2
    · rw [hr]
      intro e
      have h3 := Option.some.inj e
      have h4 := some_lt he1 hlen g hg'
      omega
  · exact (h.kept.alloc hB o).grown hg (by have := hb.size; omega) (fun j hj => (h2.lt j hj).1)
end
theorem face_len {E : Int} (h0 : 0 ≤ E) {e : Ent} (hs : e.name.size ≤ 255) : (F.faceL E e).length ≤ 2000 := by
  unfold F.faceL
  split
  · have h1 := F.presL_len h0 e.name.data.toList
    have h2 : e.name.data.toList.length = e.name.size := by simp
    omega
  · have h1 := F.nameL_le (F.fnvL e.name.data.toList) e.short
    omega
theorem listI_ents {L : List Itm} {d : Int} {k : Nat} {x : Ent} (h : (listI L d)[k]? = some x) : (entsI L d)[k]? = some x := by
  unfold listI at h
  split at h
  · exact h
  · cases h
end Go.Proofs.YtfioknaadbgjlaaGreatDoor
