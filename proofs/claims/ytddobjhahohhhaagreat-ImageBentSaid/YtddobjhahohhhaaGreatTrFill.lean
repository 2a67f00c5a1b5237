/-
  The fill of Make: a closure that calls itself, directory by directory.
-/
import Derived.Test.YtddobjhahohhhaaGreatMkForm
import Derived.Test.YtddobjhahohhhaaGreatTrFitsB
import Derived.Laws.EntriesVeiled
namespace Go.Proofs.YtddobjhahohhhaaGreat
open Go.RowKit Go.Sort
set_option linter.unusedVariables false
set_option linter.unusedSimpArgs false

theorem fits_iff {l : List Itm} {c : Int} (hg : GoodT l c) {d : Nat} (hd : d ≤ 200) (e : Ent) : FitsT (kindN l) (entsN l) c d e ↔ Fits l c (d : Int) e := by
  unfold FitsT Fits
  have hp : placeI (entsN l d) e.name < 0 ↔ ∀ y ∈ entsI l (d : Int), y.name ≠ e.name := by
    rcases placeI_spec (entsN l d) e.name with ⟨h1, _, h2⟩ | ⟨i, x, h1, h2, h3, _⟩
    · exact ⟨fun _ => h2, fun _ => by omega⟩
    · exact ⟨fun h => by omega, fun h => absurd h3 (h x (List.mem_of_getElem? h2))⟩
  have hk : hasCk (entsN l) e.cookie ↔ ∃ x ∈ l, x.e.cookie = e.cookie := by
    unfold hasCk
    constructor
    · rintro ⟨n, hn, h⟩
      obtain ⟨y, hy, hc⟩ := List.any_eq_true.1 h
      exact ⟨⟨(n : Int), y⟩, ents_mem.1 hy, of_decide_eq_true hc⟩
    · rintro ⟨x, hx, hc⟩
      obtain ⟨r1, r2⟩ := hg.inn_range hx
      refine ⟨x.inn.toNat, by omega, List.any_eq_true.2 ⟨x.e, ?_, decide_eq_true hc⟩⟩
      show x.e ∈ entsI l ((x.inn.toNat : Nat) : Int)
      rw [show ((x.inn.toNat : Nat) : Int) = x.inn by omega]
      exact ents_mem.2 hx
  have hh : (¬ hasCk (entsN l) e.cookie) ↔ ∀ x ∈ l, x.e.cookie ≠ e.cookie := by
    rw [hk]
    exact ⟨fun h x hx hc => h ⟨x, hx, hc⟩, fun h ⟨x, hx, hc⟩ => h x hx hc⟩
  rw [hp, hh]
  constructor
  · rintro ⟨h1, h2, h3⟩
    rw [kindN_of l (by omega)] at h2
    exact ⟨h1, h2, h3⟩
  · rintro ⟨h1, h2, h3⟩
    exact ⟨h1, by rw [kindN_of l (by omega)]; exact h2, h3⟩
/-- Behind a child that went well. -/
theorem fill_step {G : DirsG} {c : Int} {k : Nat} {l : List Itm} {f : Nat} {d : Int} {e : Ent} (hg : GoodT l c) (hd : kindI l d = 2) (hf : Fits l c d e) (he : e.dir = true) (hr : (fillI G c k e.node (l ++ [⟨d, e⟩], f)).1 = true) (hfl : f ≤ (l ++ [(⟨d, e⟩ : Itm)]).length) :
    GoodT (fillI G c k e.node (l ++ [⟨d, e⟩], f)).2.1 c ∧ kindI (fillI G c k e.node (l ++ [⟨d, e⟩], f)).2.1 d = 2 ∧ l.length < (fillI G c k e.node (l ++ [⟨d, e⟩], f)).2.1.length ∧ (fillI G c k e.node (l ++ [⟨d, e⟩], f)).2.2 ≤ (fillI G c k e.node (l ++ [⟨d, e⟩], f)).2.1.length + 1 := by
  have hg1 := good_snoc hg hd hf
  have hk1 : kindI (l ++ [⟨d, e⟩]) e.node = 2 := by rw [kind_put hf.2.1, if_pos he]
  have hn1 : entsI (l ++ [⟨d, e⟩]) e.node = [] := by
    rw [ents_app, hg.noin (by rw [hf.2.1]; decide), List.nil_append]
    refine ents_nil fun x hx e2 => ?_
    rw [List.mem_singleton] at hx
    subst hx
    have e3 : d = e.node := e2
    rw [e3, hf.2.1] at hd
    omega
  obtain ⟨A, a1, a2, a3⟩ := fill_ok G c k e.node (l ++ [⟨d, e⟩]) f hg1 hk1 hn1 hr
  rw [a1]
  have hdl : (dirNodes A).length ≤ A.length := by
    unfold dirNodes
    rw [List.length_map]
    exact List.length_filter_le _ _
  have hd1 : kindI (l ++ [⟨d, e⟩]) d = 2 := by rw [kind_app (by omega)]; exact hd
  refine ⟨a2.good, by show kindI (l ++ [⟨d, e⟩] ++ A) d = 2; rw [kind_app (by omega)]; exact hd1, ?_, ?_⟩
  · simp only [List.length_append, List.length_cons, List.length_nil]
    omega
  · simp only [List.length_append] at hfl ⊢
    omega
theorem typ_ne {W : World} {k q : Nat} {cs cs' : Array Value} {t t' : TypeId} {fr fr' : Nat × Nat} (h : W.heap[k]? = some (.cells cs t fr)) (h' : W.heap[q]? = some (.cells cs' t' fr')) (ht : t ≠ t') : k ≠ q := by
  rintro rfl
  rw [h] at h'
  injection h' with h'
  injection h' with _ h2 _
  exact ht h2
/-- What the fill works on. -/
structure FillW (w0 : World) (b mb A B C D : Nat) (c : Int) (l : List Itm) (f : Nat) (W : World) : Prop where
  tm : ∃ R, TM W b (kindN l) (entsN l) R 0 (.slice none 0 0) [] c
  a : W.heap[A]? = some (.cells #[.map (some mb)] 77 (0, 0))
  n : W.heap[B]? = some (.cells #[.int .i64 (f : Int)] 3 (0, 0))
  t : W.heap[C]? = some (.cells #[ptrV b] 25 (0, 0))
  f : W.heap[D]? = some (.cells #[.func (.func 49) #[] #[ptrV A, ptrV B, ptrV C, ptrV D]] 119 (0, 0))
  b0 : Below w0.heap.size w0 W
  hb : w0.heap.size ≤ b
  hB : w0.heap.size ≤ B
section
variable {w0 W W' : World} {b mb A B C D : Nat} {c : Int} {l : List Itm} {f : Nat}
theorem foot_kind {K : Nat → Int} {E : Nat → List Ent} {R : Nat → Value} (h : TM W b K E R 0 (.slice none 0 0) [] c) {k : Nat} (hk : Foot b R (.slice none 0 0) k) : ∃ cs t, W.heap[k]? = some (.cells cs t (0, 0)) ∧ (t = 96 ∨ t = 84) := by
  rcases hk with rfl | ⟨n, hn, hg⟩ | hg
  · obtain ⟨cs, h1, _⟩ := h.cells
    exact ⟨_, _, h1, Or.inl rfl⟩
  · obtain ⟨cs, h1⟩ := ownsRow_typ (h.rows n hn) hg
    exact ⟨_, _, h1, Or.inr rfl⟩
  · cases hg
theorem FillW.below (h : FillW w0 b mb A B C D c l f W) (hb : Below W.heap.size W W') : FillW w0 b mb A B C D c l f W' := by
  obtain ⟨R, ht⟩ := h.tm
  exact ⟨⟨R, ht.below hb⟩, (hb.block _ (lt_of_get h.a)).trans h.a, (hb.block _ (lt_of_get h.n)).trans h.n, (hb.block _ (lt_of_get h.t)).trans h.t, (hb.block _ (lt_of_get h.f)).trans h.f, h.b0.trans (hb.mono h.b0.size), h.hb, h.hB⟩
/-- The count is stored. -/
theorem FillW.count (h : FillW w0 b mb A B C D c l f W) (f' : Nat) : FillW w0 b mb A B C D c l f' (W.setCell ⟨B, 0, none⟩ (.int .i64 (f' : Int))) := by
  obtain ⟨R, ht⟩ := h.tm
  have hne : ∀ k, k ≠ B → (W.setCell ⟨B, 0, none⟩ (.int .i64 (f' : Int))).heap[k]? = W.heap[k]? := fun k hk => Below.heap_setCell _ _ _ _ hk
  refine ⟨⟨R, ht.kept fun k hk => ?_⟩, ?_, ?_, ?_, ?_, h.b0.setCell (p := ⟨B, 0, none⟩) h.hB _, h.hb, h.hB⟩
  · obtain ⟨cs, t, h1, h2⟩ := foot_kind ht hk
    exact hne k (typ_ne h1 h.n (by rcases h2 with rfl | rfl <;> decide))
  · rw [hne _ (typ_ne h.a h.n (by decide))]; exact h.a
  · rw [heap_setCell_same _ B 0 _ _ _ h.n]; rfl
  · rw [hne _ (typ_ne h.t h.n (by decide))]; exact h.t
  · rw [hne _ (typ_ne h.f h.n (by decide))]; exact h.f
/-- An entry is put. -/
theorem FillW.put (h : FillW w0 b mb A B C D c l f W) {R R' : Nat → Value} (hR : TM W b (kindN l) (entsN l) R 0 (.slice none 0 0) [] c) {d : Nat} {e : Ent} {nd : Nat} (hnd : e.node = nd) (h1 : 1 ≤ nd) (h0 : kindN l nd = 0)
    (ht : TM W' b (upd (kindN l) nd (kindOf e.dir)) (upd (entsN l) d (entsN l d ++ [e])) R' 0 (.slice none 0 0) [] c) (htr : Trod W W' (Foot b R (.slice none 0 0)) (Foot b R' (.slice none 0 0))) : FillW w0 b mb A B C D c (l ++ [⟨(d : Int), e⟩]) f W' := by
  have hout : ∀ {q : Nat} {cs : Array Value} {t : TypeId} {fr : Nat × Nat}, W.heap[q]? = some (.cells cs t fr) → (t ≠ 96 ∧ t ≠ 84) → W'.heap[q]? = some (.cells cs t fr) := by
    intro q cs t fr hq hne
    rw [htr.rest q (lt_of_get hq) (fun hs => by
      obtain ⟨cs', t', h2, h3⟩ := foot_kind hR hs
      rw [hq] at h2
      injection h2 with h2
      injection h2 with _ h4 _
      rcases h3 with h3 | h3
      · exact hne.1 (h4.trans h3)
      · exact hne.2 (h4.trans h3))]
    exact hq
  have hlow := htr.low (B := w0.heap.size) h.b0.size (fun k hk => Nat.le_trans h.hb (hR.lt k hk).1)
  refine ⟨⟨R', ?_⟩, hout h.a (by decide), hout h.n (by decide), hout h.t (by decide), hout h.f (by decide), h.b0.trans hlow.1, h.hb, h.hB⟩
  rw [kindN_snoc l (d : Int) e hnd h1 h0, entsN_snoc]
  exact ht
end
theorem go_nil (c : Int) (rec : Int → List Itm × Nat → Bool × (List Itm × Nat)) (d : Int) (s : List Itm × Nat) : fillGo c rec d [] s = (true, s) := rfl
theorem go_no {c : Int} {rec : Int → List Itm × Nat → Bool × (List Itm × Nat)} {d : Int} {e : Ent} {es : List Ent} {l : List Itm} {f : Nat} (h : ¬ Fits l c d e) : fillGo c rec d (e :: es) (l, f) = (false, (l, f)) := by
  rw [fillGo]
  exact if_neg h
theorem go_file {c : Int} {rec : Int → List Itm × Nat → Bool × (List Itm × Nat)} {d : Int} {e : Ent} {es : List Ent} {l : List Itm} {f : Nat} (h : Fits l c d e) (he : e.dir = false) : fillGo c rec d (e :: es) (l, f) = fillGo c rec d es (l ++ [⟨d, e⟩], f) := by
  rw [fillGo, if_pos h, if_neg (by rw [he]; decide)]
theorem go_bad {c : Int} {rec : Int → List Itm × Nat → Bool × (List Itm × Nat)} {d : Int} {e : Ent} {es : List Ent} {l : List Itm} {f : Nat} (h : Fits l c d e) (he : e.dir = true) (hr : (rec e.node (l ++ [⟨d, e⟩], f)).1 = false) : (fillGo c rec d (e :: es) (l, f)).1 = false := by
  rw [fillGo, if_pos h, if_pos he, if_neg (by show ¬ (rec e.node (l ++ [⟨d, e⟩], f)).1 = true; rw [hr]; decide)]
theorem go_dir {c : Int} {rec : Int → List Itm × Nat → Bool × (List Itm × Nat)} {d : Int} {e : Ent} {es : List Ent} {l : List Itm} {f : Nat} (h : Fits l c d e) (he : e.dir = true) (hr : (rec e.node (l ++ [⟨d, e⟩], f)).1 = true) : fillGo c rec d (e :: es) (l, f) = fillGo c rec d es (rec e.node (l ++ [⟨d, e⟩], f)).2 := by
  rw [fillGo, if_pos h, if_pos he, if_pos (by exact hr)]
/-- What the map gives is small. -/
structure SmallG (G : DirsG) : Prop where
  len : ∀ q es, G q = some es → es.length ≤ 100000
  name : ∀ q es, G q = some es → ∀ e ∈ es, e.name.size ≤ 9223372036854775807
def FillPost (w0 : World) (b mb A B C D : Nat) (c : Int) (r : Bool × (List Itm × Nat)) (e : Ending) (w' : World) : Prop :=
  e = .returned (.bool r.1) ∧ Below w0.heap.size w0 w' ∧ (r.1 = true → FillW w0 b mb A B C D c r.2.1 r.2.2 w')
set_option maxHeartbeats 8000000 in
set_option maxRecDepth 100000 in
theorem fill_c (w0 : World) (b mb n A B C D : Nat) (F : Int → Option Value) (G : DirsG) (c : Int) (hm : DirsAt w0 mb n F G) (hsm : SmallG G) : ∀ (k : Nat) (d : Nat) (l : List Itm) (f : Nat) (W : World), d ≤ 200 → GoodT l c → kindI l (d : Int) = 2 → 201 ≤ l.length + k → f ≤ l.length → FillW w0 b mb A B C D c l f W →
    Calls Tryz.prog 49 #[.int .i64 (d : Int), ptrV A, ptrV B, ptrV C, ptrV D] W (FillPost w0 b mb A B C D c (fillI G c k (d : Int) (l, f)))
  | 0, d, l, f, W, hd, hg, hk2, hfu, hf, hw => by
    have := hg.len
    omega
  | k + 1, d, l, f, W, hd, hg, hk2, hfu, hf, hw => by
    have IH := fun d l f W h1 h2 h3 h4 h5 h6 => fill_c w0 b mb n A B C D F G c hm hsm k d l f W h1 h2 h3 h4 h5 h6
    unfold FillPost at IH ⊢
    have HM := Lib.hid hm
    have HSM := Lib.hid hsm
    have HD := Lib.hid hd
    have HG := Lib.hid hg
    have HK2 := Lib.hid hk2
    have HFU := Lib.hid hfu
    have HF := Lib.hid hf
    have HW := Lib.hid hw
    have hll := hg.len
    have c0 : W.cell? ⟨A, 0, none⟩ = some (.map (some mb)) := Lib.cell_of_heap hw.a 0
    have hdi : inI64 (d : Int) := ⟨by omega, by omega⟩
    obtain ⟨v, es, he, hes, hlook, _⟩ := hm.look hw.b0 hdi
    obtain ⟨RR, hRR⟩ : ∃ RR, fillI G c (k + 1) (d : Int) (l, f) = RR := ⟨_, rfl⟩
    have hRR2 := hRR
    unfold fillI at hRR2
    rw [hRR]
    clear hRR hw hm hsm hg hk2 hfu
    cases hG : G (d : Int) with
    | none =>
      rw [hG] at hlook hRR2
      simp only at hRR2
      subst hRR2
      clear hG he hes
      go_enter Tryz.func49, Tryz.ntmps49
      go_wp2
      go_ret
      exact ⟨rfl, HW.out.b0, fun h => by cases h⟩
    | some es2 =>
      rw [hG] at hlook hRR2 hes
      simp only [Option.getD_some] at hes
      subst hes
      simp only at hRR2
      have HRR := Lib.hid hRR2
      have HES := Lib.hid he
      have hle := HSM.out.len _ _ hG
      have HNM := Lib.hid (HSM.out.name _ _ hG)
      obtain ⟨av, cap, rfl⟩ := he.len
      obtain ⟨m, hm⟩ : ∃ m, es2.length = m := ⟨_, rfl⟩
      have HMM := Lib.hid hm
      rw [hm] at hle hlook he
      rw [hm] at HES
      have c1 : W.cell? ⟨B, 0, none⟩ = some (.int .i64 (f : Int)) := Lib.cell_of_heap HW.out.n 0
      have c2 : W.frozen? ⟨B, 0, none⟩ = false := Lib.frozen_of_heap HW.out.n 0
      have hwf : IntKind.i64.wrap ((f : Int) + 1) = ((f + 1 : Nat) : Int) := by rw [IntKind.wrap_i64]; omega
      clear hRR2 hG hm he
      go_enter Tryz.func49, Tryz.ntmps49
      go_upto_region 5 with fail
      have HW1 : Hid (FillW w0 b mb A B C D c l (f + 1) (W.setCell ⟨B, 0, none⟩ (.int .i64 ((f : Int) + 1)))) := Lib.hid (HW.out.count (f + 1))
      generalize (W.setCell ⟨B, 0, none⟩ (.int .i64 ((f : Int) + 1))) = W1 at *
      clear c0 c1 c2 hlook hwf
      go_wp2
      go_loopw [23] (fun iv wr => ∃ (i : Nat) (l1 : List Itm) (f1 : Nat), i ≤ m ∧ iv = .int .i64 i ∧ FillW w0 b mb A B C D c l1 f1 wr ∧ GoodT l1 c ∧ kindI l1 (d : Int) = 2 ∧ 200 ≤ l1.length + k ∧ f1 ≤ l1.length + 1 ∧ fillGo c (fillI G c k) (d : Int) (es2.drop i) (l1, f1) = RR) (fun iv _ => m - (intOf iv).toNat)
      case atStart => exact ⟨0, l, f + 1, by omega, rfl, HW1.out, HG.out, HK2.out, by have := HFU.out; omega, by omega, by rw [List.drop_zero]; exact HRR.out⟩
      case round =>
        clear HW1 HRR HW HFU HG HK2
        obtain ⟨i, l1, f1, hi, rfl, hw1, hg1, hd1, hf1, hc1, hgo⟩ := hrel
        have HGO := Lib.hid hgo
        have HW1 := Lib.hid hw1
        have HG1 := Lib.hid hg1
        have HD1 := Lib.hid hd1
        have HF1 := Lib.hid hf1
        have HC1 := Lib.hid hc1
        have hll1 := hg1.len
        clear hgo hw1 hg1 hd1 hf1 hc1
        by_cases him : i < m
        · have hiz : (i : Int) < (m : Int) := by omega
          obtain ⟨x, hx⟩ : ∃ x, es2[i]? = some x := ⟨_, List.getElem?_eq_getElem (by rw [HMM.out]; omega)⟩
          obtain ⟨g, off, rfl, hg, hrr⟩ := HES.out.at hx
          obtain ⟨d0, d1, d2, d3, d4⟩ := ent_at (rangeAt_below hrr hg HW1.out.b0)
          have hdrop := drop_eq_cons hx
          have HGO2 : Hid (fillGo c (fillI G c k) (d : Int) (x :: es2.drop (i + 1)) (l1, f1) = RR) := Lib.hid (by rw [← hdrop]; exact HGO.out)
          have hnm := HNM.out x (List.mem_of_getElem? hx)
          clear hdrop HGO hrr hg hx
          obtain ⟨R, htm⟩ := HW1.out.tm
          have HTM := Lib.hid htm
          have hbw : Below wr.heap.size wr (wr.alloc (.cells #[.string x.name, .int .i64 x.node, .bool x.dir, .int .i64 x.cookie, .int .i64 x.short] 84)) := (Below.refl _ _).alloc (Nat.le_refl _) _
          have HW2 := Lib.hid (HW1.out.below hbw)
          have HTM2 := Lib.hid (htm.below hbw)
          have HNF : Hid (¬ Foot b R (.slice none 0 0) wr.heap.size) := Lib.hid (fun hk => by have := (htm.lt _ hk).2; omega)
          have HQ2 : Hid ((wr.alloc (.cells #[.string x.name, .int .i64 x.node, .bool x.dir, .int .i64 x.cookie, .int .i64 x.short] 84)).heap[wr.heap.size]? = some (.cells #[.string x.name, .int .i64 x.node, .bool x.dir, .int .i64 x.cookie, .int .i64 x.short] 84 (0, 0))) := Lib.hid (heap_alloc_new _ _)
          clear hbw htm HTM
          go_upto_region 8 with fail
          generalize (wr.alloc (.cells #[.string x.name, .int .i64 x.node, .bool x.dir, .int .i64 x.cookie, .int .i64 x.short] 84)) = W2 at *
          generalize wr.heap.size = q at *
          clear d0 d1 d2 d3 d4
          have e1 : W2.cell? ⟨C, 0, none⟩ = some (ptrV b) := Lib.cell_of_heap HW2.out.t 0
          obtain ⟨⟨p0, p1, p2, p3, p4⟩, _⟩ := five_cells HQ2.out
          by_cases hfit : Fits l1 c (d : Int) x
          · have cFi := fits_c HTM2.out HD.out (fun n hn => Nat.le_trans (HG1.out.elen n) (by omega)) x hnm true (by rw [fits_iff HG1.out HD.out]; exact ⟨fun _ => hfit, fun _ => rfl⟩)
            unfold entV at cFi
            go_upto_region 10 with (go_at_call 50; refine cFi.mono ?_; rintro e w3 ⟨rfl, hb3⟩; have HB3 := Lib.hid hb3; clear hb3)
            have HW3 := Lib.hid (HW2.out.below HB3.out)
            have HTM3 := Lib.hid (HTM2.out.below HB3.out)
            have HQ3 := Lib.hid ((HB3.out.block _ (lt_of_get HQ2.out)).trans HQ2.out)
            clear e1 p0 p1 p2 p3 p4 cFi HW2 HTM2 HQ2 HB3
            have e1 : w3.cell? ⟨C, 0, none⟩ = some (ptrV b) := Lib.cell_of_heap HW3.out.t 0
            obtain ⟨⟨p0, p1, p2, p3, p4⟩, _⟩ := five_cells HQ3.out
            obtain ⟨nd, hnd⟩ : ∃ nd : Nat, x.node = nd := ⟨x.node.toNat, by have := hfit.1; omega⟩
            have hnd1 : 1 ≤ nd ∧ nd ≤ 200 := by have := hfit.1; omega
            have h0 : kindN l1 nd = 0 := by show kindI l1 (nd : Int) = 0; rw [← hnd]; exact hfit.2.1
            have cPu := put_c HTM3.out HD.out (Nat.le_trans (HG1.out.elen d) (by omega)) x hnd hnd1.2 (by have := badE_size hfit.2.2.1; omega)
            unfold PutPost entV at cPu
            have HND := Lib.hid hnd
            have HN1 := Lib.hid hnd1
            have HH0 := Lib.hid h0
            have HFIT := Lib.hid hfit
            clear hnd hnd1 h0 hfit
            go_upto_region 11 with (go_at_call 51; refine cPu.mono ?_; rintro e w4 ⟨R4, rfl, ht4, htr4⟩; have HT4 := Lib.hid ht4; have HTR4 := Lib.hid htr4; clear ht4 htr4)
            have HW4 := Lib.hid (HW3.out.put HTM3.out HND.out HN1.out.1 HH0.out HT4.out HTR4.out)
            have HQ4 := Lib.hid ((HTR4.out.rest q (lt_of_get HQ3.out) HNF.out).trans HQ3.out)
            clear e1 p0 p1 p2 p3 p4 cPu HW3 HTM3 HQ3 HT4 HTR4
            obtain ⟨⟨p0, p1, p2, p3, p4⟩, _⟩ := five_cells HQ4.out
            have HG4 := Lib.hid (good_snoc HG1.out HD1.out HFIT.out)
            cases hdir : x.dir with
            | false =>
              rw [hdir] at p2
              have HGO3 := Lib.hid (HGO2.out.symm.trans (go_file HFIT.out hdir))
              have HD4 : Hid (kindI (l1 ++ [⟨(d : Int), x⟩]) (d : Int) = 2) := Lib.hid (by rw [kind_app (by have := HD1.out; omega)]; exact HD1.out)
              clear hdir
              go_wp2
              go_roundw
              case rel => exact ⟨i + 1, _, f1, by omega, by first | rfl | go_num, HW4.out, HG4.out, HD4.out, by have := HF1.out; simp; omega, by have := HC1.out; simp; omega, HGO3.out.symm⟩
              case measure => simp [intOf]; omega
            | true =>
              rw [hdir] at p2
              have e2 : w4.cell? ⟨D, 0, none⟩ = some (.func (.func 49) #[] #[ptrV A, ptrV B, ptrV C, ptrV D]) := Lib.cell_of_heap HW4.out.f 0
              have hk4 : kindI (l1 ++ [⟨(d : Int), x⟩]) (nd : Int) = 2 := by rw [← HND.out, kind_put HFIT.out.2.1, if_pos hdir]
              have hlen4 : (l1 ++ [(⟨(d : Int), x⟩ : Itm)]).length = l1.length + 1 := by simp
              have cI := IH nd _ f1 w4 HN1.out.2 HG4.out hk4 (by have := HF1.out; omega) (by have := HC1.out; omega) HW4.out
              rw [← HND.out] at cI
              cases hr : (fillI G c k x.node (l1 ++ [⟨(d : Int), x⟩], f1)).1 with
              | false =>
                have HGO3 : Hid (RR.1 = false) := Lib.hid (by rw [← HGO2.out]; exact go_bad HFIT.out hdir hr)
                rw [hr] at cI
                clear hr hdir hk4 hlen4
                go_wp2_with (go_at_call 49; refine cI.mono ?_; rintro e w5 ⟨rfl, hb5, _⟩; have HB5 := Lib.hid hb5; clear hb5)
                go_ret
                exact ⟨by rw [HGO3.out]; rfl, HB5.out, fun h => by rw [HGO3.out] at h; cases h⟩
              | true =>
                have HGO3 : Hid (fillGo c (fillI G c k) (d : Int) (es2.drop (i + 1)) (fillI G c k x.node (l1 ++ [⟨(d : Int), x⟩], f1)).2 = RR) := Lib.hid (by rw [← HGO2.out]; exact (go_dir HFIT.out hdir hr).symm)
                obtain ⟨s1, s2, s3, s4⟩ := fill_step HG1.out HD1.out HFIT.out hdir hr (by have := HC1.out; omega)
                have S1 := Lib.hid s1
                have S2 := Lib.hid s2
                have S3 := Lib.hid s3
                have S4 := Lib.hid s4
                rw [hr] at cI
                clear hr hdir hk4 hlen4 s1 s2 s3 s4
                generalize fillI G c k x.node (l1 ++ [⟨(d : Int), x⟩], f1) = Z at *
                go_wp2_with (go_at_call 49; refine cI.mono ?_; rintro e w5 ⟨rfl, hb5, hw5⟩; have HW5 := Lib.hid (hw5 rfl); clear hb5 hw5)
                go_roundw
                case rel => exact ⟨i + 1, Z.2.1, Z.2.2, by omega, by first | rfl | go_num, HW5.out, S1.out, S2.out, by have := HF1.out; have := S3.out; omega, S4.out, HGO3.out⟩
                case measure => simp [intOf]; omega
          · have cFi := fits_c HTM2.out HD.out (fun n hn => Nat.le_trans (HG1.out.elen n) (by omega)) x hnm false (by rw [fits_iff HG1.out HD.out]; exact ⟨fun h => (by cases h), fun h => absurd h hfit⟩)
            have HGO3 := Lib.hid (HGO2.out.symm.trans (go_no hfit))
            unfold entV at cFi
            clear hfit
            go_wp2_with (go_at_call 50; refine cFi.mono ?_; rintro e w3 ⟨rfl, hb3⟩; have HB3 := Lib.hid hb3; clear hb3)
            go_ret
            refine ⟨by rw [HGO3.out]; rfl, (HW2.out.below HB3.out).b0, fun h => by rw [HGO3.out] at h; cases h⟩
        · have hiz : ¬ (i : Int) < (m : Int) := by omega
          have HGO2 : Hid (RR = (true, (l1, f1))) := Lib.hid (by
            rw [← HGO.out, List.drop_of_length_le (by rw [HMM.out]; omega)]
            rfl)
          go_wp2
          go_ret
          rw [HGO2.out]
          exact ⟨rfl, HW1.out.b0, fun _ => HW1.out⟩
end Go.Proofs.YtddobjhahohhhaaGreat
