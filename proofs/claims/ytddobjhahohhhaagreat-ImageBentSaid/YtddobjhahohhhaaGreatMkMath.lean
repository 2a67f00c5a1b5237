/-
  TreeMakes' mathematics: a tree is filled directory by directory.
-/
import Derived.Test.YtddobjhahohhhaaGreatQF
import Derived.Test.YtddobjhahohhhaaGreatQI
import Derived.Test.YtddobjhahohhhaaGreatQ5
namespace Go.Proofs.YtddobjhahohhhaaGreat
open Go.RowKit Go.Sort
set_option linter.unusedVariables false
set_option linter.unusedSimpArgs false

/-! Kinds, entries. -/
theorem kind_free {l : List Itm} {n : Int} : kindI l n = 0 ↔ n ≠ 0 ∧ ∀ x ∈ l, x.e.node ≠ n := by
  unfold kindI
  by_cases h : n = 0
  · simp [h]
  · rw [if_neg h, kindGo_zero]
    simp [h]
theorem kind_app {l A : List Itm} {n : Int} (h : kindI l n ≠ 0) : kindI (l ++ A) n = kindI l n := by
  unfold kindI at *
  by_cases h0 : n = 0
  · rw [if_pos h0, if_pos h0]
  · rw [if_neg h0] at h
    rw [if_neg h0, if_neg h0]
    unfold kindGo nodeAt at *
    rw [List.find?_append]
    cases h1 : l.find? fun x => decide (x.e.node = n) with
    | none => rw [h1] at h; exact absurd rfl h
    | some y => rfl
theorem kind_put {l : List Itm} {d : Int} {e : Ent} (h : kindI l e.node = 0) : kindI (l ++ [⟨d, e⟩]) e.node = if e.dir = true then 2 else 1 := by
  obtain ⟨h0, h1⟩ := kind_free.1 h
  unfold kindI
  rw [if_neg h0]
  unfold kindGo nodeAt
  rw [List.find?_append, List.find?_eq_none.2 (fun x hx => by simpa using h1 x hx)]
  simp
theorem ents_app (l A : List Itm) (q : Int) : entsI (l ++ A) q = entsI l q ++ entsI A q := by
  unfold entsI
  rw [List.filter_append, List.map_append]
theorem ents_nil {A : List Itm} {q : Int} (h : ∀ x ∈ A, x.inn ≠ q) : entsI A q = [] := by
  unfold entsI
  rw [List.filter_eq_nil_iff.2 (fun x hx => by simpa using h x hx)]
  rfl
theorem ents_mem {A : List Itm} {q : Int} {e : Ent} : e ∈ entsI A q ↔ (⟨q, e⟩ : Itm) ∈ A := by
  unfold entsI
  rw [List.mem_map]
  constructor
  · rintro ⟨x, hx, rfl⟩
    rw [List.mem_filter, decide_eq_true_eq] at hx
    obtain ⟨h1, h2⟩ := hx
    subst h2
    exact h1
  · intro h
    exact ⟨⟨q, e⟩, by rw [List.mem_filter]; exact ⟨h, by simp⟩, rfl⟩
theorem GoodT.noin {l : List Itm} {c : Int} (h : GoodT l c) {n : Int} (hn : kindI l n ≠ 2) : entsI l n = [] := ents_nil fun x hx e => hn (e ▸ h.inn x hx)
/-- Does an entry fit into a directory? -/
def Fits (l : List Itm) (c d : Int) (e : Ent) : Prop := (1 ≤ e.node ∧ e.node ≤ 200) ∧ kindI l e.node = 0 ∧ badE e.name e.short = 0 ∧ (∀ y ∈ entsI l d, y.name ≠ e.name) ∧ (lastI (entsI l d) < e.cookie ∧ e.cookie < c) ∧ ∀ x ∈ l, x.e.cookie ≠ e.cookie
instance (l : List Itm) (c d : Int) (e : Ent) : Decidable (Fits l c d e) := by unfold Fits; infer_instance
theorem pairwise_snoc {α : Type} {R : α → α → Prop} {l : List α} {x : α} : (l ++ [x]).Pairwise R ↔ l.Pairwise R ∧ ∀ y ∈ l, R y x := by
  rw [List.pairwise_append]
  simp
/-- The last of a directory has the greatest cookie. -/
theorem GoodT.lastCk {l : List Itm} {c : Int} (h : GoodT l c) (d : Int) : 0 ≤ lastI (entsI l d) ∧ ∀ y ∈ l, y.inn = d → y.e.cookie ≤ lastI (entsI l d) := by
  have hr : (entsI l d).Pairwise fun a b => a.cookie < b.cookie := by
    unfold entsI
    rw [List.pairwise_map]
    refine List.Pairwise.imp_of_mem ?_ (h.rise.filter _)
    intro a b ha hb hab
    rw [List.mem_filter, decide_eq_true_eq] at ha hb
    exact hab.1 (ha.2.trans hb.2.symm)
  have hp : ∀ y ∈ entsI l d, 1 ≤ y.cookie := fun y hy => (h.cook _ (ents_mem.1 hy)).1
  have key : ∀ l : List Ent, l.Pairwise (fun a b => a.cookie < b.cookie) → (∀ y ∈ l, 1 ≤ y.cookie) → 0 ≤ lastI l ∧ ∀ y ∈ l, y.cookie ≤ lastI l := by
    intro l hl hl1
    unfold lastI
    rcases List.eq_nil_or_concat l with rfl | ⟨m, z, rfl⟩
    · simp
    · rw [List.concat_eq_append] at *
      rw [List.getLast?_append]
      simp only [List.getLast?_singleton, Option.some_or]
      obtain ⟨h1, h2⟩ := pairwise_snoc.1 hl
      refine ⟨by have := hl1 z (by simp); omega, fun y hy => ?_⟩
      rcases List.mem_append.1 hy with hy | hy
      · have := h2 y hy; omega
      · rw [List.mem_singleton] at hy; rw [hy]; exact Int.le_refl _
  obtain ⟨h1, h2⟩ := key _ hr hp
  exact ⟨h1, fun y hy hd => h2 _ (ents_mem.2 (by subst hd; exact hy))⟩
theorem good_snoc {l : List Itm} {c d : Int} {e : Ent} (h : GoodT l c) (hd : kindI l d = 2) (hf : Fits l c d e) : GoodT (l ++ [⟨d, e⟩]) c := by
  obtain ⟨⟨f1, f2⟩, f3, f4, f5, ⟨f6, f7⟩, f8⟩ := hf
  obtain ⟨k1, k2⟩ := kind_free.1 f3
  have hk : ∀ n, kindI l n = 2 → kindI (l ++ [⟨d, e⟩]) n = 2 := fun n hn => by rw [kind_app (by omega)]; exact hn
  obtain ⟨g1, g2⟩ := h.lastCk d
  have hck : 1 ≤ e.cookie := by omega
  have snoc : ∀ {P : Itm → Prop}, (∀ x ∈ l, P x) → P ⟨d, e⟩ → ∀ x ∈ l ++ [⟨d, e⟩], P x := by
    intro P h1 h2 x hx
    rcases List.mem_append.1 hx with hx | hx
    · exact h1 x hx
    · rw [List.mem_singleton] at hx; rw [hx]; exact h2
  refine ⟨snoc h.node ⟨f1, f2⟩, ?_, snoc (fun x hx => hk _ (h.inn x hx)) (hk _ hd), snoc h.form f4, ?_, snoc h.cook ⟨hck, f7⟩, ?_, ?_, h.nx1⟩
  · unfold nodesI
    rw [List.map_append]
    refine List.nodup_append.2 ⟨h.nd, by simp, ?_⟩
    intro a ha b hb
    rw [List.mem_map] at ha
    obtain ⟨x, hx, rfl⟩ := ha
    simp at hb
    rw [hb]
    exact k2 x hx
  · rw [pairwise_snoc]
    refine ⟨h.names, fun y hy hyd => f5 y.e (ents_mem.2 ?_)⟩
    have hyd' : y.inn = d := hyd
    subst hyd'
    exact hy
  · rw [pairwise_snoc]
    refine ⟨h.rise, fun y hy => ⟨fun hyd => ?_, f8 y hy⟩⟩
    have := g2 y hy hyd
    show y.e.cookie < e.cookie
    omega
  · obtain ⟨H, hH⟩ := h.low
    refine ⟨fun m => if m = e.node.toNat then 0 else H m + 1, snoc (fun x hx => ?_) ?_⟩
    · have h1 := h.node x hx
      have h2 := k2 x hx
      show (if x.e.node.toNat = e.node.toNat then 0 else H x.e.node.toNat + 1) < (if x.inn.toNat = e.node.toNat then 0 else H x.inn.toNat + 1)
      rw [if_neg (by omega)]
      have h3 : x.inn ≠ e.node := fun e2 => by
        have := h.inn x hx
        rw [e2, f3] at this
        omega
      have h4 := (h.inn_range hx).1
      rw [if_neg (by omega)]
      have := hH x hx
      omega
    · show (if e.node.toNat = e.node.toNat then 0 else _) < _
      rw [if_pos rfl]
      have h3 : d ≠ e.node := fun e2 => by
        rw [e2, f3] at hd
        omega
      have h4 : 0 ≤ d := by
        apply Classical.byContradiction
        intro hc
        have := h.far (d := d) (by omega)
        omega
      show 0 < (if d.toNat = e.node.toNat then 0 else H d.toNat + 1)
      rw [if_neg (by omega)]
      omega
/-! The fill. -/
def fillGo (c : Int) (rec : Int → List Itm × Nat → Bool × (List Itm × Nat)) (d : Int) : List Ent → List Itm × Nat → Bool × (List Itm × Nat)
  | [], s => (true, s)
  | e :: es, s => if Fits s.1 c d e then
      (if e.dir = true then (if (rec e.node (s.1 ++ [⟨d, e⟩], s.2)).1 = true then fillGo c rec d es (rec e.node (s.1 ++ [⟨d, e⟩], s.2)).2 else (false, (rec e.node (s.1 ++ [⟨d, e⟩], s.2)).2))
       else fillGo c rec d es (s.1 ++ [⟨d, e⟩], s.2))
    else (false, s)
def fillI (G : DirsG) (c : Int) : Nat → Int → List Itm × Nat → Bool × (List Itm × Nat)
  | 0, _, s => (false, s)
  | k + 1, d, s => match G d with
    | none => (false, s)
    | some es => fillGo c (fillI G c k) d es (s.1, s.2 + 1)
/-- The directories among items. -/
def dirNodes (A : List Itm) : List Int := (A.filter fun x => x.e.dir).map fun x => x.e.node
theorem dirNodes_app (A B : List Itm) : dirNodes (A ++ B) = dirNodes A ++ dirNodes B := by
  unfold dirNodes
  rw [List.filter_append, List.map_append]
theorem dirNodes_mem {A : List Itm} {n : Int} : n ∈ dirNodes A ↔ ∃ x ∈ A, x.e.dir = true ∧ x.e.node = n := by
  unfold dirNodes
  rw [List.mem_map]
  constructor
  · rintro ⟨x, hx, rfl⟩
    rw [List.mem_filter] at hx
    exact ⟨x, hx.1, hx.2, rfl⟩
  · rintro ⟨x, hx, h1, rfl⟩
    exact ⟨x, by rw [List.mem_filter]; exact ⟨hx, h1⟩, rfl⟩
/-- Each item's directory is among those ahead of it. -/
def Down : List Int → List Itm → Prop
  | _, [] => True
  | D, x :: A => x.inn ∈ D ∧ Down (if x.e.dir = true then x.e.node :: D else D) A
theorem Down.mono : ∀ {A : List Itm} {D D' : List Int}, Down D A → (∀ q ∈ D, q ∈ D') → Down D' A
  | [], _, _, _, _ => trivial
  | x :: A, D, D', h, hs => ⟨hs _ h.1, h.2.mono fun q hq => by
      split at hq
      · rename_i hd
        rw [if_pos hd]
        rcases List.mem_cons.1 hq with h1 | h1
        · exact List.mem_cons.2 (Or.inl h1)
        · exact List.mem_cons.2 (Or.inr (hs q h1))
      · rename_i hd
        rw [if_neg hd]
        exact hs q hq⟩
theorem Down.app : ∀ {A B : List Itm} {D : List Int}, Down D A → Down (dirNodes A ++ D) B → Down D (A ++ B)
  | [], _, _, _, h => h
  | x :: A, B, D, h, hb => ⟨h.1, h.2.app (hb.mono fun q hq => by
      rw [List.mem_append] at hq ⊢
      rcases hq with hq | hq
      · rw [show x :: A = [x] ++ A from rfl, dirNodes_app, List.mem_append] at hq
        rcases hq with hq | hq
        · obtain ⟨y, hy, hyd, rfl⟩ := dirNodes_mem.1 hq
          rw [List.mem_singleton] at hy
          subst hy
          right
          rw [if_pos hyd]
          exact List.mem_cons_self
        · exact Or.inl hq
      · right
        split
        · exact List.mem_cons.2 (Or.inr hq)
        · exact hq)⟩
theorem Down.inn : ∀ {A : List Itm} {D : List Int}, Down D A → ∀ x ∈ A, x.inn ∈ D ∨ x.inn ∈ dirNodes A
  | [], _, _, x, hx => nomatch hx
  | y :: A, D, h, x, hx => by
    rw [show y :: A = [y] ++ A from rfl, dirNodes_app, List.mem_append]
    rcases List.mem_cons.1 hx with rfl | hx
    · exact Or.inl h.1
    · rcases h.2.inn x hx with h1 | h1
      · split at h1
        · rename_i hd
          rcases List.mem_cons.1 h1 with h2 | h2
          · exact Or.inr (Or.inl (dirNodes_mem.2 ⟨y, by simp, hd, h2.symm⟩))
          · exact Or.inl h2
        · exact Or.inl h1
      · exact Or.inr (Or.inr h1)
/-- What a fill that went well has added. -/
structure Added (G : DirsG) (c d : Int) (l A : List Itm) : Prop where
  good : GoodT (l ++ A) c
  down : Down [d] A
  full : ∀ q ∈ dirNodes A, G q = some (entsI A q)
theorem Added.free {G : DirsG} {c d : Int} {l A : List Itm} (h : Added G c d l A) {x : Itm} (hx : x ∈ A) : kindI l x.e.node = 0 := by
  refine kind_free.2 ⟨?_, fun y hy e => ?_⟩
  · have := h.good.node x (by simp [hx])
    omega
  · have hn := h.good.nd
    unfold nodesI at hn
    rw [List.map_append] at hn
    exact (List.nodup_append.1 hn).2.2 _ (List.mem_map_of_mem hy) _ (List.mem_map_of_mem hx) e
theorem Added.inn {G : DirsG} {c d : Int} {l A : List Itm} (h : Added G c d l A) {x : Itm} (hx : x ∈ A) : x.inn = d ∨ kindI l x.inn = 0 := by
  rcases h.down.inn x hx with h1 | h1
  · exact Or.inl (by simpa using h1)
  · obtain ⟨y, hy, _, hn⟩ := dirNodes_mem.1 h1
    exact Or.inr (by rw [← hn]; exact h.free hy)
/-- Within a directory: the items that were added so far. -/
structure Mid (G : DirsG) (c d : Int) (l P : List Itm) (p : List Ent) : Prop where
  add : Added G c d l P
  ents : entsI P d = p
theorem Mid.put {G : DirsG} {c d : Int} {l P : List Itm} {p : List Ent} {e : Ent} (h : Mid G c d l P p) (hd : kindI l d = 2) (hf : Fits (l ++ P) c d e) (he : e.dir ≠ true) : Mid G c d l (P ++ [⟨d, e⟩]) (p ++ [e]) := by
  refine ⟨⟨?_, ?_, fun q hq => ?_⟩, ?_⟩
  · rw [← List.append_assoc]
    exact good_snoc h.add.good (by rw [kind_app (by omega)]; exact hd) hf
  · refine h.add.down.app ⟨by simp, ?_⟩
    trivial
  · rw [dirNodes_app, List.mem_append] at hq
    rcases hq with hq | hq
    · obtain ⟨y, hy, _, hn⟩ := dirNodes_mem.1 hq
      have h1 := h.add.free hy
      rw [hn] at h1
      rw [ents_app, ents_nil (A := [⟨d, e⟩]) (fun x hx e2 => by
        rw [List.mem_singleton] at hx
        subst hx
        have e3 : d = q := e2
        rw [← e3, hd] at h1
        omega), List.append_nil]
      exact h.add.full q hq
    · obtain ⟨y, hy, hyd, _⟩ := dirNodes_mem.1 hq
      rw [List.mem_singleton] at hy
      subst hy
      exact absurd hyd he
  · rw [ents_app, h.ents]
    simp [entsI]
theorem Mid.sub {G : DirsG} {c d : Int} {l P A : List Itm} {p : List Ent} {e : Ent} (h : Mid G c d l P p) (hd : kindI l d = 2) (hf : Fits (l ++ P) c d e) (he : e.dir = true) (ha : Added G c e.node (l ++ P ++ [⟨d, e⟩]) A) (hg : G e.node = some (entsI A e.node)) :
    Mid G c d l (P ++ [⟨d, e⟩] ++ A) (p ++ [e]) := by
  have hfr := hf.2.1
  have hfl : kindI l e.node = 0 := by
    obtain ⟨h0, h1⟩ := kind_free.1 hfr
    exact kind_free.2 ⟨h0, fun x hx => h1 x (by simp [hx])⟩
  have hde : d ≠ e.node := fun e2 => by rw [e2, hfl] at hd; omega
  -- none of A stands in what was not free behind the put
  have hout : ∀ q, q ≠ e.node → kindI (l ++ P ++ [⟨d, e⟩]) q ≠ 0 → entsI A q = [] := fun q hq hk => ents_nil fun x hx e2 => by
    rcases ha.inn hx with h1 | h1
    · exact hq (e2 ▸ h1)
    · exact hk (e2 ▸ h1)
  have hdk : kindI (l ++ P ++ [⟨d, e⟩]) d ≠ 0 := by
    rw [kind_app (l := l ++ P) (by rw [kind_app (by omega)]; omega), kind_app (by omega)]
    omega
  have hPn : ∀ q, kindI (l ++ P) q = 0 → entsI (P ++ [⟨d, e⟩]) q = [] := fun q hq => ents_nil fun x hx e2 => by
    rcases List.mem_append.1 hx with hx | hx
    · have h9 := h.add.good.inn x (by simp [hx])
      rw [e2, hq] at h9
      omega
    · rw [List.mem_singleton] at hx
      subst hx
      have e3 : d = q := e2
      rw [← e3, kind_app (by omega)] at hq
      omega
  refine ⟨⟨?_, ?_, fun q hq => ?_⟩, ?_⟩
  · have := ha.good
    simpa [List.append_assoc] using this
  · refine Down.app (Down.app h.add.down ⟨by simp, trivial⟩) (ha.down.mono fun q hq => ?_)
    rw [List.mem_singleton] at hq
    rw [hq, dirNodes_app, List.mem_append, List.mem_append]
    exact Or.inl (Or.inr (dirNodes_mem.2 ⟨⟨d, e⟩, by simp, he, rfl⟩))
  · rw [dirNodes_app, dirNodes_app, List.mem_append, List.mem_append] at hq
    rcases hq with (hq | hq) | hq
    · obtain ⟨y, hy, _, hn⟩ := dirNodes_mem.1 hq
      have h1 := h.add.free hy
      rw [hn] at h1
      have h2 : kindI (l ++ P) q ≠ 0 := fun h3 => (kind_free.1 h3).2 y (by simp [hy]) hn
      have hqe : q ≠ e.node := fun e2 => h2 (e2 ▸ hfr)
      rw [ents_app, ents_app, ents_nil (A := [⟨d, e⟩]) (fun x hx e2 => by
        rw [List.mem_singleton] at hx
        subst hx
        have e3 : d = q := e2
        rw [← e3, hd] at h1
        omega), List.append_nil, hout q hqe (by rw [kind_app h2]; exact h2), List.append_nil]
      exact h.add.full q hq
    · obtain ⟨y, hy, _, hn⟩ := dirNodes_mem.1 hq
      rw [List.mem_singleton] at hy
      subst hy
      have e3 : e.node = q := hn
      subst e3
      rw [ents_app, hPn _ hfr, List.nil_append]
      exact hg
    · obtain ⟨y, hy, _, hn⟩ := dirNodes_mem.1 hq
      have h1 := ha.free hy
      rw [hn] at h1
      have h2 : kindI (l ++ P) q = 0 := by
        obtain ⟨h0, h3⟩ := kind_free.1 h1
        exact kind_free.2 ⟨h0, fun x hx => h3 x (by simp only [List.mem_append] at hx ⊢; exact Or.inl hx)⟩
      rw [ents_app, hPn q h2, List.nil_append]
      exact ha.full q hq
  · rw [ents_app, ents_app, h.ents, hout d hde hdk]
    simp [entsI]
/-- The number of directories that were filled. -/
def OkRec (G : DirsG) (c : Int) (rec : Int → List Itm × Nat → Bool × (List Itm × Nat)) : Prop :=
  ∀ d l f, GoodT l c → kindI l d = 2 → entsI l d = [] → (rec d (l, f)).1 = true → ∃ A, (rec d (l, f)).2 = (l ++ A, f + 1 + (dirNodes A).length) ∧ Added G c d l A ∧ G d = some (entsI A d)
theorem go_ok {G : DirsG} {c d : Int} {rec : Int → List Itm × Nat → Bool × (List Itm × Nat)} (hrec : OkRec G c rec) {l : List Itm} (hd : kindI l d = 2) (hl : entsI l d = []) :
    ∀ (es : List Ent) (P : List Itm) (p : List Ent) (f : Nat), Mid G c d l P p → (fillGo c rec d es (l ++ P, f)).1 = true →
      ∃ A, (fillGo c rec d es (l ++ P, f)).2 = (l ++ A, f + (dirNodes A).length - (dirNodes P).length) ∧ Mid G c d l A (p ++ es) ∧ (dirNodes P).length ≤ (dirNodes A).length
  | [], P, p, f, hm, _ => ⟨P, by show (l ++ P, f) = _; congr 1; omega, by simpa using hm, Nat.le_refl _⟩
  | e :: es, P, p, f, hm, ht => by
    unfold fillGo at ht ⊢
    by_cases hf : Fits (l ++ P) c d e
    · simp only [if_pos hf] at ht ⊢
      by_cases he : e.dir = true
      · simp only [if_pos he] at ht ⊢
        by_cases hr : (rec e.node (l ++ P ++ [⟨d, e⟩], f)).1 = true
        · simp only [if_pos hr] at ht ⊢
          have hdP : kindI (l ++ P) d = 2 := by rw [kind_app (by omega)]; exact hd
          have hg1 := good_snoc hm.add.good hdP hf
          have hk1 : kindI (l ++ P ++ [⟨d, e⟩]) e.node = 2 := by rw [kind_put hf.2.1, if_pos he]
          have hn1 : entsI (l ++ P ++ [⟨d, e⟩]) e.node = [] := by
            rw [ents_app, hm.add.good.noin (by rw [hf.2.1]; decide), List.nil_append]
            refine ents_nil fun x hx e2 => ?_
            rw [List.mem_singleton] at hx
            subst hx
            have e3 : d = e.node := e2
            rw [e3, hf.2.1] at hdP
            omega
          obtain ⟨A1, h1, h2, h3⟩ := hrec e.node (l ++ P ++ [⟨d, e⟩]) f hg1 hk1 hn1 hr
          have hm2 := hm.sub hd hf he h2 h3
          rw [h1] at ht ⊢
          have e9 : l ++ P ++ [⟨d, e⟩] ++ A1 = l ++ (P ++ [⟨d, e⟩] ++ A1) := by simp [List.append_assoc]
          rw [e9] at ht ⊢
          obtain ⟨A, h4, h5, h6⟩ := go_ok hrec hd hl es _ _ _ hm2 ht
          have hlen : (dirNodes (P ++ [⟨d, e⟩] ++ A1)).length = (dirNodes P).length + 1 + (dirNodes A1).length := by
            rw [dirNodes_app, dirNodes_app, List.length_append, List.length_append, show dirNodes [(⟨d, e⟩ : Itm)] = [e.node] by simp [dirNodes, he]]
            rfl
          refine ⟨A, ?_, by simpa [List.append_assoc] using h5, by omega⟩
          rw [h4]
          congr 1
          omega
        · simp only [if_neg hr] at ht
          cases ht
      · simp only [if_neg he] at ht ⊢
        have hm2 := hm.put hd hf he
        have e9 : l ++ P ++ [⟨d, e⟩] = l ++ (P ++ [⟨d, e⟩]) := by simp [List.append_assoc]
        rw [e9] at ht ⊢
        obtain ⟨A, h4, h5, h6⟩ := go_ok hrec hd hl es _ _ _ hm2 ht
        have hlen : (dirNodes (P ++ [⟨d, e⟩])).length = (dirNodes P).length := by
          rw [dirNodes_app]
          simp [dirNodes, he]
        refine ⟨A, ?_, by simpa [List.append_assoc] using h5, by omega⟩
        rw [h4, hlen]
    · simp only [if_neg hf] at ht
      cases ht
theorem fill_ok (G : DirsG) (c : Int) : ∀ k, OkRec G c (fillI G c k)
  | 0, d, l, f, _, _, _, ht => by cases ht
  | k + 1, d, l, f, hg, hd, hl, ht => by
    unfold fillI at ht ⊢
    cases hG : G d with
    | none => rw [hG] at ht; cases ht
    | some es =>
      simp only [hG] at ht ⊢
      have hm : Mid G c d l [] [] := ⟨⟨by simpa using hg, trivial, fun q hq => nomatch hq⟩, rfl⟩
      have e9 : l ++ ([] : List Itm) = l := List.append_nil _
      obtain ⟨A, h1, h2, h3⟩ := go_ok (fill_ok G c k) hd hl es [] [] (f + 1) hm (by rw [e9]; exact ht)
      rw [e9] at h1
      refine ⟨A, ?_, h2.add, by rw [h2.ents, List.nil_append]⟩
      rw [h1]
      congr 1
/-! Where the entries make a tree, all is filled. -/
structure Whole (G : DirsG) (c : Int) : Prop where
  ok : ∀ q es, G q = some es → ∀ e ∈ es, badE e.name e.short = 0 ∧ 1 ≤ e.node ∧ e.node ≤ 200 ∧ 1 ≤ e.cookie ∧ e.cookie < c ∧ (G e.node).isSome = e.dir
  rise : ∀ q es, G q = some es → risingE es
  apart : ∀ q q' es es', G q = some es → G q' = some es' → ∀ (i j : Nat) x y, es[i]? = some x → es'[j]? = some y → (q ≠ q' ∨ i ≠ j) → ¬ clash ⟨q, x⟩ ⟨q', y⟩
/-- What stands already is the beginning of what is asked. -/
def Pre (G : DirsG) (l : List Itm) : Prop := ∀ q, ∃ r, (G q).getD [] = entsI l q ++ r
theorem pre_item {G : DirsG} {l : List Itm} (h : Pre G l) {y : Itm} (hy : y ∈ l) : ∃ es i, G y.inn = some es ∧ es[i]? = some y.e ∧ i < (entsI l y.inn).length := by
  have h1 : y.e ∈ entsI l y.inn := ents_mem.2 hy
  obtain ⟨i, hi⟩ := List.mem_iff_getElem?.1 h1
  have hlt := (List.getElem?_eq_some_iff.1 hi).1
  obtain ⟨r, hr⟩ := h y.inn
  cases hG : G y.inn with
  | none =>
    rw [hG] at hr
    have : entsI l y.inn = [] := by
      have := congrArg List.length hr
      simp at this
      exact List.eq_nil_of_length_eq_zero (by omega)
    rw [this] at hlt
    simp at hlt
  | some es =>
    rw [hG] at hr
    have hr2 : es = entsI l y.inn ++ r := hr
    exact ⟨es, i, rfl, by rw [hr2, List.getElem?_append_left hlt]; exact hi, hlt⟩
theorem whole_fits {G : DirsG} {c : Int} (hw : Whole G c) {l : List Itm} (hp : Pre G l) (hg : GoodT l c) {d : Int} {p es : List Ent} {e : Ent} (hG : G d = some (p ++ e :: es)) (he : entsI l d = p) : Fits l c d e := by
  have hpos : (p ++ e :: es)[p.length]? = some e := by simp
  have hmem : e ∈ p ++ e :: es := by simp
  obtain ⟨o1, o2, o3, o4, o5, o6⟩ := hw.ok d _ hG e hmem
  have hno : ∀ y ∈ l, ¬ clash y (Itm.mk d e) := fun y hy => by
    obtain ⟨es', i, g1, g2, g3⟩ := pre_item hp hy
    refine hw.apart y.inn d es' _ g1 hG i p.length y.e e g2 hpos ?_
    by_cases hq : y.inn = d
    · right
      rw [hq, he] at g3
      omega
    · exact Or.inl hq
  have hc : ∀ y ∈ l, y.e.node ≠ e.node ∧ y.e.cookie ≠ e.cookie ∧ (y.inn = d → y.e.name ≠ e.name) := fun y hy => by
    have h1 := hno y hy
    unfold clash at h1
    refine ⟨?_, ?_, ?_⟩
    · exact fun h => h1 (Or.inl h)
    · exact fun h => h1 (Or.inr (Or.inl h))
    · exact fun h h2 => h1 (Or.inr (Or.inr (And.intro h h2)))
  unfold Fits
  refine ⟨⟨o2, o3⟩, kind_free.2 ⟨by omega, fun y hy => (hc y hy).1⟩, o1, fun y hy => ?_, ⟨?_, o5⟩, fun y hy => (hc y hy).2.1⟩
  · exact (hc _ (ents_mem.1 hy)).2.2 rfl
  · rw [he]
    unfold lastI
    rcases List.eq_nil_or_concat p with rfl | ⟨m, z, rfl⟩
    · show 0 < e.cookie
      omega
    · rw [List.concat_eq_append] at hG ⊢
      rw [List.getLast?_append]
      simp only [List.getLast?_singleton, Option.some_or]
      exact hw.rise d _ hG m.length z e (by simp) (by simp)
theorem pre_snoc {G : DirsG} {l : List Itm} (hp : Pre G l) {d : Int} {p es : List Ent} {e : Ent} (hG : G d = some (p ++ e :: es)) (he : entsI l d = p) : Pre G (l ++ [⟨d, e⟩]) := fun q => by
  by_cases hq : d = q
  · subst hq
    refine ⟨es, ?_⟩
    rw [hG, ents_app, he]
    simp [entsI]
  · obtain ⟨r, hr⟩ := hp q
    refine ⟨r, ?_⟩
    rw [ents_app, ents_nil (A := [⟨d, e⟩]) (fun x hx e2 => by
      rw [List.mem_singleton] at hx
      subst hx
      exact hq e2), List.append_nil]
    exact hr
def YesRec (G : DirsG) (c : Int) (k : Nat) (rec : Int → List Itm × Nat → Bool × (List Itm × Nat)) : Prop :=
  ∀ d l f, GoodT l c → kindI l d = 2 → entsI l d = [] → (G d).isSome = true → Pre G l → 201 ≤ l.length + k → (rec d (l, f)).1 = true ∧ Pre G (rec d (l, f)).2.1
theorem go_yes {G : DirsG} {c d : Int} (hw : Whole G c) {k : Nat} {rec : Int → List Itm × Nat → Bool × (List Itm × Nat)} (hok : OkRec G c rec) (hrec : YesRec G c k rec) :
    ∀ (es : List Ent) (l : List Itm) (p : List Ent) (f : Nat), GoodT l c → kindI l d = 2 → entsI l d = p → G d = some (p ++ es) → Pre G l → 200 ≤ l.length + k → (fillGo c rec d es (l, f)).1 = true ∧ Pre G (fillGo c rec d es (l, f)).2.1
  | [], l, p, f, hg, hd, he, hG, hp, hk => ⟨rfl, hp⟩
  | e :: es, l, p, f, hg, hd, he, hG, hp, hk => by
    have hf := whole_fits hw hp hg hG he
    have hp1 := pre_snoc hp hG he
    have hg1 := good_snoc hg hd hf
    have hd1 : kindI (l ++ [⟨d, e⟩]) d = 2 := by rw [kind_app (by omega)]; exact hd
    have he1 : entsI (l ++ [⟨d, e⟩]) d = p ++ [e] := by rw [ents_app, he]; simp [entsI]
    have hG1 : G d = some (p ++ [e] ++ es) := by rw [hG]; simp
    have hlen : (l ++ [(⟨d, e⟩ : Itm)]).length = l.length + 1 := by simp
    unfold fillGo
    simp only [if_pos hf]
    by_cases hdir : e.dir = true
    · simp only [if_pos hdir]
      have ho := (hw.ok d _ hG e (by simp)).2.2.2.2.2
      have hk1 : kindI (l ++ [⟨d, e⟩]) e.node = 2 := by rw [kind_put hf.2.1, if_pos hdir]
      have hn1 : entsI (l ++ [⟨d, e⟩]) e.node = [] := by
        rw [ents_app, hg.noin (by rw [hf.2.1]; decide), List.nil_append]
        refine ents_nil fun x hx e2 => ?_
        rw [List.mem_singleton] at hx
        subst hx
        have e3 : d = e.node := e2
        rw [e3, hf.2.1] at hd
        omega
      obtain ⟨r1, r2⟩ := hrec e.node (l ++ [⟨d, e⟩]) f hg1 hk1 hn1 (by rw [ho]; exact hdir) hp1 (by omega)
      obtain ⟨A1, a1, a2, a3⟩ := hok e.node (l ++ [⟨d, e⟩]) f hg1 hk1 hn1 r1
      simp only [if_pos r1]
      rw [a1] at r2 ⊢
      have hde : d ≠ e.node := fun e2 => by rw [e2, hf.2.1] at hd; omega
      have hA : entsI A1 d = [] := ents_nil fun x hx e2 => by
        rcases a2.inn hx with h1 | h1
        · exact hde (e2.symm.trans h1)
        · rw [e2, hd1] at h1; omega
      exact go_yes hw hok hrec es _ (p ++ [e]) _ a2.good (by rw [kind_app (by omega)]; exact hd1) (by rw [ents_app, he1, hA, List.append_nil]) hG1 r2 (by rw [List.length_append]; omega)
    · simp only [if_neg hdir]
      exact go_yes hw hok hrec es _ (p ++ [e]) _ hg1 hd1 he1 hG1 hp1 (by omega)
theorem fill_yes {G : DirsG} {c : Int} (hw : Whole G c) : ∀ k, YesRec G c k (fillI G c k)
  | 0, d, l, f, hg, hd, he, hs, hp, hk => by
    have := hg.len
    omega
  | k + 1, d, l, f, hg, hd, he, hs, hp, hk => by
    unfold fillI
    cases hG : G d with
    | none => rw [hG] at hs; cases hs
    | some es =>
      simp only
      exact go_yes hw (fill_ok G c k) (fill_yes hw k) es l [] (f + 1) hg hd he (by rw [hG]; rfl) hp (by omega)
end Go.Proofs.YtddobjhahohhhaaGreat
