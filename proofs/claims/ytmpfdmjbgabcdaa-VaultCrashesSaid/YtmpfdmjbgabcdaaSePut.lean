/-
  A device (stage 6): Put.
-/
import Derived.Test.YtmpfdmjbgabcdaaSeNew
import Derived.Great.BuildSlice
import Derived.Deep.WholeRow
import Derived.Deep.CutRange
import Derived.OwnWalk
namespace Go.Proofs.Ytmpfdmjbgabcdaa
open Go.RowKit Go.Sort
set_option linter.unusedVariables false

/-! A load, a store, a literal whose run is known. -/
section
variable {P : Program} {ops : Array Oper} {rest : List Oper} {d : Option Tmp} {T : TypeId} {pos : String} {af : Array Edge} {a : Act} {w w' : World} {Q : Exit → Act → World → Prop}
theorem wpL_load (ty : TypeId) (x : Operand) (px v : Value) (hx : a.eval x = px) (hr : (Instr.loadAt ty px).run P w = .ok v w) (h : wpList P ops Q rest (a.put d v) w) :
    wpList P ops Q ({ dst := d, op := .load ty x, type := T, pos := pos, after := af, guard := none } :: rest) a w :=
  wpList_plain rfl fun _ hK => by
    unfold Oper.wp execOp
    simp only [hx, Sem.run_bind, hr, Result.andThen_ok]
    exact hK _ _ h
theorem wpL_store (ty : TypeId) (x y : Operand) (px vy : Value) (hx : a.eval x = px) (hy : a.eval y = vy) (hr : (Instr.storeAt ty px vy).run P w = .ok () w') (h : wpList P ops Q rest (a.put d undef) w') :
    wpList P ops Q ({ dst := d, op := .store ty x y, type := T, pos := pos, after := af, guard := none } :: rest) a w :=
  wpList_plain rfl fun _ hK => by
    unfold Oper.wp execOp
    simp only [hx, hy, Sem.run_bind, hr, Result.andThen_ok]
    exact hK _ _ h
theorem wpL_build (ty : TypeId) (parts : Array (Nat × Operand)) (vs : Array (Nat × Value)) (v : Value) (hv : (parts.toList.map fun (i, x) => (i, a.eval x)) = vs.toList) (hr : (Instr.build ty vs).run P w = .ok v w) (h : wpList P ops Q rest (a.put d v) w) :
    wpList P ops Q ({ dst := d, op := .build ty parts, type := T, pos := pos, after := af, guard := none } :: rest) a w :=
  wpList_plain rfl fun _ hK => by
    unfold Oper.wp execOp
    have hv' : (parts.map fun (i, x) => (i, a.eval x)) = vs := by
      apply Array.ext'
      rw [Array.toList_map]
      exact hv
    simp only [hv', Sem.run_bind, hr, Result.andThen_ok]
    exact hK _ _ h
end
theorem wpO_buildSlice {P : Program} {o : Oper} {a : Act} {w w' : World} {K : Act → World → Prop} {Q : Exit → Act → World → Prop} (ty : TypeId) (n : Nat) (parts : Array (Nat × Operand)) (ho : o.op = .buildSlice ty n parts) (vs : Array (Nat × Value)) (v : Value) (hv : (parts.toList.map fun (i, x) => (i, a.eval x)) = vs.toList) (hr : (Instr.buildSlice ty n vs).run P w = .ok v w')
    (h : K (a.put o.dst v) w') : o.wp P a w K Q := by
  unfold Oper.wp execOp
  have hv' : (parts.map fun (i, x) => (i, a.eval x)) = vs := by
    apply Array.ext'
    rw [Array.toList_map]
    exact hv
  simp only [ho, hv', Sem.run_bind, hr, Result.andThen_ok]
  exact h
theorem step_of {o : Oper} {ys : Nat → Option Bool} {X Y : Prop} (hgd : o.guard = none) (h : X) : if Region.wanted o ys = true then X else Y := by
  have hw : Region.wanted o ys = true := by simp [Region.wanted, hgd]
  rw [if_pos hw]
  exact h
theorem wpO_load {P : Program} {o : Oper} {a : Act} {w : World} {K : Act → World → Prop} {Q : Exit → Act → World → Prop} (ty : TypeId) (x : Operand) (ho : o.op = .load ty x) (px v : Value) (hx : a.eval x = px) (hr : (Instr.loadAt ty px).run P w = .ok v w) (h : K (a.put o.dst v) w) : o.wp P a w K Q := by
  unfold Oper.wp execOp
  simp only [ho, hx, Sem.run_bind, hr, Result.andThen_ok]
  exact h
theorem wpO_store {P : Program} {o : Oper} {a : Act} {w w' : World} {K : Act → World → Prop} {Q : Exit → Act → World → Prop} (ty : TypeId) (x y : Operand) (ho : o.op = .store ty x y) (px vy : Value) (hx : a.eval x = px) (hy : a.eval y = vy) (hr : (Instr.storeAt ty px vy).run P w = .ok () w') (h : K (a.put o.dst undef) w') : o.wp P a w K Q := by
  unfold Oper.wp execOp
  simp only [ho, hx, hy, Sem.run_bind, hr, Result.andThen_ok]
  exact h
theorem load_pend (b : Nat) (v : Value) (W : World) (h : W.cell? ⟨b, 2, none⟩ = some v) : (Instr.loadAt 61 (.pointer (some ⟨b, 2, none⟩))).run Try.prog W = .ok v W := by go_simp
theorem store_pend (b : Nat) (ad : Option Addr) (m cap : Nat) (u : Value) (W : World) (h : W.cell? ⟨b, 2, none⟩ = some u) (hf : W.frozen? ⟨b, 2, none⟩ = false) : (Instr.storeAt 61 (.pointer (some ⟨b, 2, none⟩)) (.slice ad m cap)).run Try.prog W = .ok () (W.setCell ⟨b, 2, none⟩ (.slice ad m cap)) := by
  go_simp
/-! Runs on whole rows: rules for the walk. -/
def z65 : Array Value := #[.int .i64 0] ++ Array.replicate 64 (.int .u8 0)
theorem z65_size : z65.size = 65 := rfl
theorem Try.infoWrZ : (Try.prog.info? 81).map (fun i => (i.zero, i.size, i.bytes)) = some (some (.agg z65), 65, 72) := by kernel_rfl
theorem Try.infoSecS : (Try.prog.info? 79).map (·.size) = some 64 := by kernel_rfl
theorem Try.infoWrS : (Try.prog.info? 81).map (·.size) = some 65 := by kernel_rfl
theorem zero_wr (W : World) : (zeroValue 81).run Try.prog W = .ok (.agg z65) W :=
  (zero_of_info (P := Try.prog) (t := 81) (v := .agg z65) (n := 65) (by kernel_rfl)).1 W
theorem array_at (a : Addr) (cap : Nat) (W : World) : (Instr.arrayAt 79 (.slice (some a) 64 cap)).run Try.prog W = .ok (.pointer (some a)) W := by
  simp [Instr.arrayAt, run_underlying Try.underlying79]
theorem built_wr (parts : List (Nat × Value)) : Try.prog.built 81 parts = Instr.fill ((#[(0, 1), (1, 64)] : Array (Nat × Nat))[·]?) z65 parts := by kernel_rfl
theorem fill_wr (k : Nat) (s : ByteArray) (hs : s.size = 64) : Instr.fill ((#[(0, 1), (1, 64)] : Array (Nat × Nat))[·]?) z65 [(0, .int .i64 k), (1, .agg (sec s).toArray)] = some (wrc (k, s)).toArray := by
  have hl : (sec s).length = 64 := by rw [sec_length, hs]
  have h1 : (Value.int .i64 (k : Int)).cells = #[.int .i64 (k : Int)] := rfl
  have h2 : (Value.agg (sec s).toArray).cells = (sec s).toArray := rfl
  have hz : (z65.setIfInBounds 0 (.int .i64 (k : Int))).size = 65 := by simp [z65_size]
  obtain ⟨g1, g2⟩ := Go.Great.foldl_set 1 (sec s) 0 (z65.setIfInBounds 0 (.int .i64 (k : Int)))
  unfold Instr.fill
  simp only [List.getElem?_toArray, List.getElem?_cons_zero, h1]
  rw [if_neg (by simp [z65_size])]
  unfold Instr.fill
  simp only [List.getElem?_cons_succ, List.getElem?_cons_zero, h2]
  rw [if_neg (by simp [z65_size, hl])]
  unfold Instr.fill
  congr 1
  rw [← Array.foldl_toList, Array.toList_zipIdx, List.toList_toArray]
  have h0 : ((#[Value.int .i64 (k : Int)] : Array Value).zipIdx.foldl (fun cs (x : Value × Nat) => cs.setIfInBounds (0 + x.2) x.1) z65) = z65.setIfInBounds 0 (.int .i64 (k : Int)) := rfl
  have h0' : (Array.foldl (fun cs (x : Value × Nat) => match x with | (c, j) => cs.setIfInBounds (0 + j) c) z65 (#[Value.int .i64 (k : Int)] : Array Value).zipIdx) = z65.setIfInBounds 0 (.int .i64 (k : Int)) := rfl
  apply Array.ext_getElem?
  intro j
  refine Eq.trans (g2 j) ?_
  rw [hl, hz]
  by_cases hj : 1 + 0 ≤ j ∧ j < 1 + 0 + 64 ∧ j < 65
  · rw [if_pos hj]
    obtain ⟨m, rfl⟩ : ∃ m, j = m + 1 := ⟨j - 1, by omega⟩
    rw [List.getElem?_toArray, wrc, List.getElem?_cons_succ, show m + 1 - (1 + 0) = m by omega]
  · rw [if_neg hj]
    by_cases hj0 : j = 0
    · subst hj0
      exact (Array.getElem?_setIfInBounds_self_of_lt (by rw [z65_size]; decide)).trans rfl
    · rw [Array.getElem?_eq_none (by rw [hz]; omega), Array.getElem?_eq_none (by rw [List.size_toArray, wrc_length (p := (k, s)) hs]; omega)]
theorem build_wr (k : Nat) (s : ByteArray) (hs : s.size = 64) (W : World) : (Instr.build 81 #[(0, .int .i64 k), (1, .agg (sec s).toArray)]).run Try.prog W = .ok (.agg (wrc (k, s)).toArray) W :=
  run_build W _ _ _ (by rw [built_wr]; exact fill_wr k s hs)
theorem buildSlice_wr (k : Nat) (s : ByteArray) (hs : s.size = 64) (W : World) : (Instr.buildSlice 61 1 #[(0, .agg (wrc (k, s)).toArray)]).run Try.prog W = .ok (.slice (some ⟨W.heap.size, 0, none⟩) 1 1) (W.alloc (.cells (wrc (k, s)).toArray 81)) := by
  obtain ⟨i0, hi0, hz0, hz1, hz2⟩ := info_parts Try.infoWrZ
  refine run_buildSlice (P := Try.prog) W _ _ 1 _ (wrc (k, s)).toArray i0 (.agg z65) Try.underlying61 hi0 hz0 (by rw [hz1]; decide) (by rw [hz1]; decide) ?_
  rw [hz1]
  have := Go.Great.fill_whole (s := 65) (by decide) [.agg (wrc (k, s)).toArray] ((Array.range (1 * 65)).map ((Value.agg z65).cells[· % (Value.agg z65).cells.size]!)) (fun v hv => by
    rw [List.mem_singleton.1 hv]
    show (wrc (k, s)).toArray.size = 65
    rw [List.size_toArray, wrc_length (p := (k, s)) hs]) (by simp)
  refine Eq.trans ?_ (this.trans ?_)
  · rfl
  · simp [Value.cells]
set_option maxHeartbeats 1000000 in
theorem spend_c (b : Nat) (lim : Bool) (left : Int) (w : World) (h3 : w.cell? ⟨b, 3, none⟩ = some (.bool lim)) (h4 : w.cell? ⟨b, 4, none⟩ = some (.int .i64 left)) (hf : w.frozen? ⟨b, 4, none⟩ = false) (hl : lim = true → 0 < left ∧ left ≤ 9223372036854775807) :
    Calls Try.prog 51 #[.pointer (some ⟨b, 3, none⟩)] w fun e w' => e = .returned (.tuple #[]) ∧ w' = if lim then w.setCell ⟨b, 4, none⟩ (.int .i64 (left - 1)) else w := by
  cases lim
  · clear hl
    go_enter Try.func51, Try.ntmps51
    go_wp2
    go_end0
    exact ⟨rfl, rfl⟩
  · obtain ⟨h0, h1⟩ := hl rfl
    have hw : IntKind.i64.wrap (left - 1) = left - 1 := by rw [IntKind.wrap_i64]; omega
    go_enter Try.func51, Try.ntmps51
    go_wp2
    go_end0
    exact ⟨rfl, rfl⟩
def putSt (st : St) (k : Nat) (s : ByteArray) : St := { st with now := st.now.set k s, pend := st.pend ++ [(k, s)], left := if st.lim then st.left - 1 else st.left }
def putI (st : St) (i : Int) (s : ByteArray) : Int := if askI st.now.length st.lim st.left i = 0 then (if s.size = 64 then 0 else 1) else askI st.now.length st.lim st.left i
def PutPost (B b : Nat) (st : St) (i : Int) (s : ByteArray) (w : World) (e : Ending) (w' : World) : Prop := e = .returned (.int .i64 (putI st i s)) ∧ Dev B w' b (if putI st i s = 0 then putSt st i.toNat s else st) ∧ Below B w w' ∧ Off devTs w w'

theorem block_ne {w : World} {a b : Nat} {C D : Array Value} {T U : TypeId} {x y : Nat × Nat} (h : w.heap[a]? = some (.cells C T x)) (h' : w.heap[b]? = some (.cells D U y)) (hn : T ≠ U) : a ≠ b := fun e => by
  subst e
  rw [h] at h'
  injection h' with h'
  injection h' with _ h2 _
  exact hn h2
theorem heap_flat_set {W : World} {g k : Nat} {l : List ByteArray} {s : ByteArray} (hb : W.heap[g]? = some (.cells (flat l).toArray 79 (0, 0))) (hl : ∀ x ∈ l, x.size = 64) (hk : k < l.length) (hs : s.size = 64) : (W.setCells g (k * 64) (sec s)).heap[g]? = some (.cells (flat (l.set k s)).toArray 79 (0, 0)) := by
  have h1 : ∀ x ∈ l, (sec x).length = 64 := fun x hx => by rw [sec_length]; exact hl x hx
  have h2 : (sec s).length = 64 := by rw [sec_length, hs]
  have hle : k * 64 + 64 ≤ (flat l).length := by
    rw [flat, flat_len sec 64 _ h1]
    have : (k + 1) * 64 ≤ l.length * 64 := Nat.mul_le_mul_right _ hk
    omega
  rw [heap_setCells_at g _ (sec s) (k * 64) W _ hb (by rw [h2]; exact hle), h2]
  unfold flat
  rw [flat_set sec 64 l k s h1 hk h2]
theorem DevAt.wnow {B : Nat} {W : World} {b gn gs : Nat} {vp : Value} {st : St} (h : DevAt B W b gn gs vp st) {k : Nat} {s : ByteArray} (hl : ∀ x ∈ st.now, x.size = 64) (hk : k < st.now.length) (hs : s.size = 64) : DevAt B (W.setCells gn (k * 64) (sec s)) b gn gs vp { st with now := st.now.set k s } := by
  have ho : Off [79] W (W.setCells gn (k * 64) (sec s)) := (Off.refl _ W).setCells h.nw (by simp) _
  refine ⟨h.hb, h.hgn, h.hgs, h.ne, ?_, heap_flat_set h.nw hl hk hs, ?_, own_off h.pd (by decide) ho⟩
  · rw [List.length_set]
    exact ho _ (by decide) _ _ _ h.hd
  · rw [heap_setCells_far gn _ _ _ _ (Ne.symm h.ne)]
    exact h.sf
theorem DevAt.wsafe {B : Nat} {W : World} {b gn gs : Nat} {vp : Value} {st : St} (h : DevAt B W b gn gs vp st) {k : Nat} {s : ByteArray} (hl : ∀ x ∈ st.safe, x.size = 64) (hk : k < st.safe.length) (hs : s.size = 64) : DevAt B (W.setCells gs (k * 64) (sec s)) b gn gs vp { st with safe := st.safe.set k s } := by
  have ho : Off [79] W (W.setCells gs (k * 64) (sec s)) := (Off.refl _ W).setCells h.sf (by simp) _
  refine ⟨h.hb, h.hgn, h.hgs, h.ne, ho _ (by decide) _ _ _ h.hd, ?_, heap_flat_set h.sf hl hk hs, own_off h.pd (by decide) ho⟩
  rw [heap_setCells_far gs _ _ _ _ h.ne]
  exact h.nw
theorem DevAt.newPend {B : Nat} {W W' : World} {b gn gs : Nat} {vp v' : Value} {st : St} {ps : List (Nat × ByteArray)} (h : DevAt B W b gn gs vp st) (hb : W'.heap[b]? = W.heap[b]?) (hn : W'.heap[gn]? = W.heap[gn]?) (hs : W'.heap[gs]? = W.heap[gs]?) (hown : W'.ownsRow B 81 65 v' ps.length (pcells ps)) : DevAt B (W'.setCell ⟨b, 2, none⟩ v') b gn gs v' { st with pend := ps } := by
  have hbb := hb.trans h.hd
  have ho : Off [65] W' (W'.setCell ⟨b, 2, none⟩ v') := (Off.refl _ W').setCell hbb (by simp) _
  refine ⟨h.hb, h.hgn, h.hgs, h.ne, ?_, ho _ (by decide) _ _ _ (hn.trans h.nw), ho _ (by decide) _ _ _ (hs.trans h.sf), own_off hown (by decide) ho⟩
  rw [heap_setCell_same W' b 2 _ _ v' hbb]
  rfl
theorem DevAt.wleft {B : Nat} {W : World} {b gn gs : Nat} {vp : Value} {st : St} (h : DevAt B W b gn gs vp st) (x : Int) : DevAt B (W.setCell ⟨b, 4, none⟩ (.int .i64 x)) b gn gs vp { st with left := x } := by
  have ho : Off [65] W (W.setCell ⟨b, 4, none⟩ (.int .i64 x)) := (Off.refl _ W).setCell h.hd (by simp) _
  refine ⟨h.hb, h.hgn, h.hgs, h.ne, ?_, ho _ (by decide) _ _ _ h.nw, ho _ (by decide) _ _ _ h.sf, own_off h.pd (by decide) ho⟩
  rw [heap_setCell_same W b 4 _ _ _ h.hd]
  rfl
theorem own_ne {B : Nat} {w : World} {T U : TypeId} {n s k : Nat} {v : Value} {xs : List Value} {C : Array Value} {fr : Nat × Nat} (h : w.ownsRow B T s v n xs) (hk : w.heap[k]? = some (.cells C U fr)) (hn : U ≠ T) : v.ownBlock ≠ some k := fun e => by
  rcases h.2 with ⟨hv, _⟩ | ⟨g, cap, cur, hv, _, hb, _⟩
  · rw [hv] at e; cases e
  · rw [hv] at e
    have hg : g = k := by simpa [Value.ownBlock] using e
    subst hg
    rw [hb] at hk
    injection hk with hk
    injection hk with _ h2 _
    exact hn h2.symm
theorem own_type {B : Nat} {w : World} {T : TypeId} {n s : Nat} {v : Value} {xs : List Value} {ex : List TypeId} (h : w.ownsRow B T s v n xs) {j : Nat} (hj : v.ownBlock = some j) (hT : T ∈ ex) : ∃ cs U fr, w.heap[j]? = some (.cells cs U fr) ∧ U ∈ ex := by
  rcases h.2 with ⟨hv, _⟩ | ⟨g, cap, cur, hv, _, hb, _⟩
  · rw [hv] at hj; cases hj
  · rw [hv] at hj
    have hg : g = j := by simpa [Value.ownBlock] using hj
    subst hg
    exact ⟨_, _, _, hb, hT⟩
theorem putEnd {B b gn gs k : Nat} {w W : World} {v : Value} {st : St} {s : ByteArray} (h : DevAt B W b gn gs v { st with now := st.now.set k s, pend := st.pend ++ [(k, s)] }) (hb : Below B w W) (ho : Off devTs w W) :
    Dev B (if st.lim = true then W.setCell ⟨b, 4, none⟩ (.int .i64 (st.left - 1)) else W) b (putSt st k s) ∧ Below B w (if st.lim = true then W.setCell ⟨b, 4, none⟩ (.int .i64 (st.left - 1)) else W) ∧ Off devTs w (if st.lim = true then W.setCell ⟨b, 4, none⟩ (.int .i64 (st.left - 1)) else W) := by
  unfold putSt
  cases hl : st.lim
  · simp only [Bool.false_eq_true, if_false]
    refine ⟨⟨gn, gs, v, ?_⟩, hb, ho⟩
    simpa [hl] using h
  · simp only [if_true]
    refine ⟨⟨gn, gs, v, ?_⟩, hb.setCell (p := ⟨b, 4, none⟩) h.hb _, ho.setCell h.hd (by simp) _⟩
    have := h.wleft (st.left - 1)
    simpa [hl] using this
set_option maxHeartbeats 4000000 in
set_option maxRecDepth 100000 in
theorem put_ok (B b k : Nat) (st : St) (s : ByteArray) (w : World) (h : Dev B w b st) (hg : Good st) (hp : st.pend.length ≤ 1000) (ha : askI st.now.length st.lim st.left k = 0) (hk : k < st.now.length) (hs : s.size = 64) (hB : B ≤ w.heap.size) :
    Calls Try.prog 26 #[.pointer (some ⟨b, 0, none⟩), .int .i64 k, .string s] w (fun e w' => e = .returned (.int .i64 0) ∧ Dev B w' b (putSt st k s) ∧ Below B w w' ∧ Off devTs w w') := by
  obtain ⟨gn, gs, vp, h⟩ := h
  obtain ⟨c0, c1, c2, c3, c4⟩ := h.cells
  have cA := ask_c b _ _ _ _ _ k w c0 c3 c4
  rw [ha] at cA
  obtain ⟨cap, BR, FR, kc, hBR⟩ : ∃ cap BR FR, (convert 9 86 (.string s)).run Try.prog w = .ok (.slice (some ⟨w.heap.size, 0, none⟩) 64 cap) (w.drew.alloc (.cells BR 5 FR)) ∧ ∀ (j : Nat) (v : Value), (sec s)[j]? = some v → BR[j]? = some v := by
    have := run_bytes_of_string (P := Try.prog) w 9 86 5 s Try.underlying9 Try.underlying86 Try.underlying5
    rw [hs] at this
    refine ⟨_, _, _, this, fun j v hv => ?_⟩
    have hj : j < s.data.size := by
      have := (List.getElem?_eq_some_iff.1 hv).1
      rw [sec_length] at this
      exact this
    rw [bytesRow_at s _ j hj, ← hv]
    unfold sec
    rw [List.getElem?_map, Array.getElem?_toList, Array.getElem?_eq_getElem hj]
    rfl
  have HD := Lib.hid h
  have hkz : (k : Int) < (st.now.length : Int) := by omega
  have HG := Lib.hid hg
  have HSL : Hid ((sec s).length = 64) := Lib.hid (by rw [sec_length, hs])
  have hap := array_at
  have hzw := zero_wr
  have HBW := Lib.hid (build_wr k s hs)
  have hbs := buildSlice_wr k s hs
  have HL1 : Hid ((Instr.loadAt 79 (.pointer (some ⟨w.heap.size, 0, none⟩))).run Try.prog (w.alloc (.cells BR 5 FR)).drew = .ok (.agg (sec s).toArray) (w.alloc (.cells BR 5 FR)).drew) :=
    Lib.hid (run_loadAt_mid (P := Try.prog) _ _ 0 _ (sec s) _ (fun j v hv => by
      rw [Nat.zero_add]
      show (w.alloc _).cell? _ = _
      rw [cell_of_row _ _ _ _ _ _ (heap_alloc_new _ _)]
      exact hBR j v hv) Try.underlying79 rfl (by rw [HSL.out]; exact Try.infoSecS))
  have HWL : Hid ((wrc (k, s)).length = 65) := Lib.hid (wrc_length (p := (k, s)) hs)
  have hS1 : (storeCells ⟨w.heap.size + 1, 0, none⟩ (wrc (k, s))).run Try.prog ((w.alloc (.cells BR 5 FR)).alloc (.cells z65 81)).drew = .ok () ((w.alloc (.cells BR 5 FR)).alloc (.cells (wrc (k, s)).toArray 81)).drew := by
    have := run_storeCells_new (P := Try.prog) (w.alloc (.cells BR 5 FR)).drew 81 z65 (wrc (k, s)).toArray (by rw [List.size_toArray, HWL.out]; exact Try.infoWrS) ((show z65.size = 65 from rfl).trans (by rw [List.size_toArray, HWL.out])) (all_oneCell_toArray (wrc_one _))
    rw [show (w.alloc (.cells BR 5 FR)).drew.heap.size = w.heap.size + 1 by show (w.heap.push _).size = _; simp, List.toList_toArray] at this
    exact this
  have s1 : (w.alloc (.cells BR 5 FR)).heap.size = w.heap.size + 1 := by simp
  have HB3 : Hid (Below w.heap.size w ((w.alloc (.cells BR 5 FR)).alloc (.cells (wrc (k, s)).toArray 81)).drew) := Lib.hid ((((Below.refl _ w).alloc (Nat.le_refl _) _).alloc (by rw [s1]; omega) _).drew)
  have HO3 : Hid (Off [] w ((w.alloc (.cells BR 5 FR)).alloc (.cells (wrc (k, s)).toArray 81)).drew) := Lib.hid ((((Off.refl [] w).alloc _).alloc _).drew)
  have HT3 : Hid (((w.alloc (.cells BR 5 FR)).alloc (.cells (wrc (k, s)).toArray 81)).drew.heap[w.heap.size + 1]? = some (.cells (wrc (k, s)).toArray 81 (0, 0))) := Lib.hid (by
    rw [← s1]
    exact heap_alloc_new _ _)
  have HD3 := Lib.hid (h.off HO3.out (by simp) (by simp) (by simp))
  have hu61 := Try.underlying79
  have hi61 : (Try.prog.info? 79).map (·.size) = some (sec s).length := by rw [HSL.out]; exact Try.infoSecS
  have hone : ∀ v ∈ sec s, v.oneCell' = true := sec_one s
  have hsl : (sec s).length = 64 := HSL.out
  have HVT : Hid (∀ j, vp.ownBlock = some j → j < w.heap.size + 1) := Lib.hid (fun j hj => by have := (h.pd.lt j hj).2; omega)
  have HL : Hid (st.lim = true → 0 < st.left ∧ st.left ≤ 9223372036854775807) := Lib.hid (fun e => by
    have h1 := hg.left0 e
    have h2 := hg.leftI.2
    refine ⟨?_, h2⟩
    rcases Int.lt_or_eq_of_le h1 with h3 | h3
    · exact h3
    · unfold askI at ha
      rw [e, ← h3] at ha
      simp at ha)
  generalize hn : st.now.length = n at *
  clear h hg ha hBR
  go_enter Try.func26, Try.ntmps26
  go_wp2_with fail
  refine cA.mono ?_
  rintro e w2 ⟨rfl, rfl⟩
  go_upto_region 7 with (first
    | ((with_reducible refine wpL_load 79 _ (.pointer (some ⟨w.heap.size, 0, none⟩)) (.agg (sec s).toArray) ?_ ?_ ?_); exact rfl; exact HL1.out)
    | ((with_reducible refine wpL_build 81 _ #[(0, .int .i64 k), (1, .agg (sec s).toArray)] (.agg (wrc (k, s)).toArray) ?_ ?_ ?_); exact rfl; exact HBW.out _))
  generalize ht : w.heap.size + 1 = t at *
  generalize ((w.alloc (.cells BR 5 FR)).alloc (.cells (wrc (k, s)).toArray 81)).drew = W3 at *
  have HTT := Lib.hid ht
  clear hS1 HL1 kc s1 ht c0 c1 c2 c3 c4 cA
  obtain ⟨c0, c1, c2, c3, c4⟩ := HD3.out.cells
  rw [hn] at c0 c1
  have r3 : W3.rangeAt t 1 (sec s) := fun j v hv => by
    rw [cell_of_row W3 t _ _ _ _ HT3.out, List.getElem?_toArray, wrc, Nat.add_comm, List.getElem?_cons_succ]
    exact hv
  have t3 : W3.there gn (k * 64) 64 := there_of_block HD3.out.nw _ _ (by
    rw [List.size_toArray, flat, flat_len sec 64 _ (fun x hx => by rw [sec_length]; exact HG.out.szn x hx), hn]
    have : (k + 1) * 64 ≤ n * 64 := Nat.mul_le_mul_right _ hk
    omega)
  have hbg : b ≠ gn := block_ne HD3.out.hd HD3.out.nw (by decide)
  have htg : t ≠ gn := block_ne HT3.out HD3.out.nw (by decide)
  have HK : Hid (∀ W : World, (W.cell? ⟨b, 0, none⟩ = some (.slice (some ⟨gn, 0, none⟩) n n) ∧ W.rangeAt t 1 (sec s) ∧ W.there gn (k * 64) 64) → ((W.setCells gn (k * 64) (sec s)).cell? ⟨b, 0, none⟩ = some (.slice (some ⟨gn, 0, none⟩) n n) ∧ (W.setCells gn (k * 64) (sec s)).rangeAt t 1 (sec s) ∧ (W.setCells gn (k * 64) (sec s)).there gn (k * 64) 64)) := Lib.hid (fun W hW =>
    ⟨by rw [World.cell?_setCells_out gn _ _ _ _ (fun e => absurd e hbg)]; exact hW.1, World.rangeAt_setCells_apart hW.2.1 _ _ _ (Or.inl htg), World.there_setCells hW.2.2 _ _ _⟩)
  go_region_held3 (fun w' => w'.cell? ⟨b, 0, none⟩ = some (.slice (some ⟨gn, 0, none⟩) n n) ∧ w'.rangeAt t 1 (sec s) ∧ w'.there gn (k * 64) 64) (first | assumption | exact HK.out _ (by assumption) | go_keep_ranges) (fail)
  have HD4 : Hid (DevAt B (W3.drew.setCells gn (k * 64) (sec s)) b gn gs vp { st with now := st.now.set k s }) := Lib.hid ((HD3.out.off (w' := W3.drew) (Off.refl [] W3) (by simp) (by simp) (by simp)).wnow HG.out.szn (by rw [hn]; exact hk) hs)
  have HT4 : Hid ((W3.drew.setCells gn (k * 64) (sec s)).heap[t]? = some (.cells (wrc (k, s)).toArray 81 (0, 0))) := Lib.hid (by rw [heap_setCells_far gn _ _ _ _ htg]; exact HT3.out)
  have HB4 : Hid (Below B w (W3.drew.setCells gn (k * 64) (sec s))) := Lib.hid (Below.setCells ((HB3.out.mono hB).drew) HD3.out.hgn _ _)
  have HO4 : Hid (Off devTs w (W3.drew.setCells gn (k * 64) (sec s))) := Lib.hid (Off.setCells ((HO3.out.mono (ex' := devTs) (by simp)).drew) (b := gn) (C := (flat st.now).toArray) HD3.out.nw (by simp) _)
  clear HD3 HT3 HK HB3 HO3 r3 t3 c0 c1 c2 c3 c4
  rename_i hHeld
  clear hHeld
  generalize W3.drew.setCells gn (k * 64) (sec s) = W4 at *
  obtain ⟨c0, c1, c2, c3, c4⟩ := HD4.out.cells
  have f2 := HD4.out.frozen 2
  have r4 : W4.rangeAt t 0 (wrc (k, s)) := fun j v hv => by
    rw [cell_of_row W4 t _ _ _ _ HT4.out, List.getElem?_toArray, Nat.zero_add]
    exact hv
  have hu63 := Try.underlying81
  have hwl : (wrc (k, s)).length = 65 := HWL.out
  have hi63 : (Try.prog.info? 81).map (·.size) = some (wrc (k, s)).length := by rw [HWL.out]; exact Try.infoWrS
  go_upto_region 8 with fail
  have HLD : Hid (∀ W : World, W.cell? ⟨b, 2, none⟩ = some vp → (Instr.loadAt 61 (.pointer (some ⟨b, 2, none⟩))).run Try.prog W = .ok vp W) := Lib.hid (fun W h => load_pend b vp W h)
  have HBS : Hid (∀ W : World, _) := Lib.hid hbs
  clear hbs
  have HR5 : Hid ((W4.drew.alloc (.cells (wrc (k, s)).toArray 81)).rangeAt t 0 (wrc (k, s))) := Lib.hid (World.rangeAt_alloc (w := W4.drew) r4 _)
  have HC5 : Hid ((W4.drew.alloc (.cells (wrc (k, s)).toArray 81)).cell? ⟨b, 2, none⟩ = some vp) := Lib.hid (by rw [World.cell?_alloc_lt _ _ _ (lt_of_get HD4.out.hd)]; exact c2)
  obtain ⟨i0, hi0, hz0, hz1, hz2⟩ := info_parts Try.infoWrZ
  have HP5 : Hid ((W4.drew.alloc (.cells (wrc (k, s)).toArray 81)).ownsRow B 81 65 vp st.pend.length (pcells st.pend)) := Lib.hid (own_off (ex := []) HD4.out.pd (by simp) ((Off.refl [] W4.drew).alloc _))
  have HN5 : Hid (∀ j u, (wrc (k, s))[j]? = some u → (W4.drew.alloc (.cells (wrc (k, s)).toArray 81)).cell? ((⟨W4.heap.size, 0, none⟩ : Addr).add j) = some u) := Lib.hid (fun j u hu => World.news_of_block (heap_alloc_new W4.drew _) j u (by rw [List.toList_toArray]; exact hu))
  have HB5 : Hid (Below B w (W4.drew.alloc (.cells (wrc (k, s)).toArray 81))) := Lib.hid ((HB4.out.drew).alloc (by show B ≤ W4.heap.size; have := HB4.out.size; omega) _)
  have HO5 : Hid (Off devTs w (W4.drew.alloc (.cells (wrc (k, s)).toArray 81))) := Lib.hid ((HO4.out.drew).alloc _)
  have HS5 : Hid (B ≤ (W4.drew.alloc (.cells (wrc (k, s)).toArray 81)).heap.size) := Lib.hid (Nat.le_trans hB HB5.out.size)
  have H5 : Hid (∀ j (cs : Array Value) (T : TypeId) (fr : Nat × Nat), W4.heap[j]? = some (Obj.cells cs T fr) → (W4.drew.alloc (.cells (wrc (k, s)).toArray 81)).heap[j]? = some (Obj.cells cs T fr)) := Lib.hid (fun j cs T fr hj => by
    rw [Below.heap_alloc W4.drew _ _ (lt_of_get hj)]; exact hj)
  have HVB : Hid (vp.ownBlock ≠ some b ∧ vp.ownBlock ≠ some gn ∧ vp.ownBlock ≠ some gs ∧ vp.ownBlock ≠ some t) := Lib.hid ⟨own_ne HD4.out.pd HD4.out.hd (by decide), own_ne HD4.out.pd HD4.out.nw (by decide), own_ne HD4.out.pd HD4.out.sf (by decide), fun e => by have := HVT.out t e; omega⟩
  have HTB : Hid (t ≠ b) := Lib.hid (block_ne HT4.out HD4.out.hd (by decide))
  have HPC : Hid (pcells st.pend ++ wrc (k, s) = pcells (st.pend ++ [(k, s)])) := Lib.hid (by unfold pcells; rw [List.flatMap_append]; simp)
  have HPL : Hid (st.pend.length + 1 = (st.pend ++ [(k, s)]).length) := Lib.hid (by simp)
  refine wp_region_held_drew (S := fun w' => w'.rangeAt t 0 (wrc (k, s))) (by kernel_rfl) r4 (fun hHeld => ?_)
  refine wpAnyH_take (i := 0) (oi := { dst := some 32, op := .move (.tmp 0), type := _, pos := _, after := _, guard := none }) (v := .pointer (some ⟨b, 0, none⟩)) rfl (by kernel_rfl) (by kernel_rfl) (by kernel_rfl) (fun _ _ _ h => h) (Or.inl ⟨by rfl, by intro _ _; rfl⟩) (by assumption) ?_
  simp only [Act.put, List.setIfInBounds_toArray, List.set_cons_zero, List.set_cons_succ]
  refine wpAnyH_take (i := 1) (oi := { dst := some 33, op := .move (.tmp 0), type := _, pos := _, after := _, guard := none }) (v := .pointer (some ⟨b, 0, none⟩)) rfl (by kernel_rfl) (by kernel_rfl) (by kernel_rfl) (fun _ _ _ h => h) (Or.inl ⟨by rfl, by intro _ _; rfl⟩) (by assumption) ?_
  simp only [Act.put, List.setIfInBounds_toArray, List.set_cons_zero, List.set_cons_succ]
  refine wpAnyH_take (i := 2) (oi := { dst := some 34, op := .nilCheck (.tmp 33), type := _, pos := _, after := _, guard := none }) (v := .pointer (some ⟨b, 0, none⟩)) rfl (by kernel_rfl) (by kernel_rfl) (by kernel_rfl) (fun _ _ _ h => h) (Or.inl ⟨by rfl, by intro w _; rfl⟩) (by assumption) ?_
  simp only [Act.put, List.setIfInBounds_toArray, List.set_cons_zero, List.set_cons_succ]
  refine wpAnyH_take (i := 3) (oi := { dst := some 35, op := .fieldAddr 65 (.tmp 34) 2, type := _, pos := _, after := _, guard := none }) (v := .pointer (some ⟨b, 2, none⟩)) rfl (by kernel_rfl) (by kernel_rfl) (by kernel_rfl) (fun _ _ _ h => h) (Or.inl ⟨by rfl, by intro w _; go_simp⟩) (by assumption) ?_
  simp only [Act.put, List.setIfInBounds_toArray, List.set_cons_zero, List.set_cons_succ]
  refine wpAnyH_take (i := 5) (oi := { dst := some 37, op := .load 81 (.tmp 8), type := _, pos := _, after := _, guard := none }) (v := .agg (wrc (k, s)).toArray) rfl (by kernel_rfl) (by kernel_rfl) (by kernel_rfl) (fun _ _ _ h => h) (yieldsIf_load_mid (by rfl) _ _ rfl t 0 rfl (wrc (k, s)) _ (fun w hw => hw) hu63 rfl hi63) (by assumption) ?_
  simp only [Act.put, List.setIfInBounds_toArray, List.set_cons_zero, List.set_cons_succ]
  refine wpAnyH_ready (rs := [4, 6]) (by kernel_rfl) (by simp) (AllReadyH.cons (o := { dst := some 36, op := .load 61 (.tmp 35), type := _, pos := _, after := _, guard := none }) rfl (fun K hK => ?_) (AllReadyH.cons (o := { dst := some 38, op := .buildSlice 61 1 #[(0, .tmp 37)], type := _, pos := _, after := _, guard := none }) rfl (fun K hK => ?_) AllReadyH.nil))
  rotate_left
  · skip
    refine step_of rfl (wpO_buildSlice 61 1 _ rfl #[(0, .agg (wrc (k, s)).toArray)] (.slice (some ⟨W4.heap.size, 0, none⟩) 1 1) rfl (HBS.out W4.drew) ?_)
    refine hK.out _ _ HR5.out (fun hHeld3 => ?_)
    clear hK K hHeld
    simp only [Act.put, List.setIfInBounds_toArray, List.set_cons_zero, List.set_cons_succ]
    refine wpAnyH_ready (rs := [4]) (by kernel_rfl) (by simp) (AllReadyH.cons (o := { dst := some 36, op := .load 61 (.tmp 35), type := _, pos := _, after := _, guard := none }) rfl (fun K hK => ?_) AllReadyH.nil)
    refine step_of rfl (wpO_load 61 _ rfl (.pointer (some ⟨b, 2, none⟩)) vp rfl (HLD.out _ HC5.out) ?_)
    refine hK.out _ _ HR5.out (fun hHeld2 => ?_)
    clear hK K hHeld3
    simp only [Act.put, List.setIfInBounds_toArray, List.set_cons_zero, List.set_cons_succ]
    refine wpAnyH_ready (rs := [7]) (by kernel_rfl) (by simp) (AllReadyH.cons (o := { dst := some 39, op := .call { callee := .builtin .append, args := #[.tmp 36, .tmp 38], argTypes := #[61, 61] }, type := _, pos := _, after := _, guard := none }) rfl (fun K hK => ?_) AllReadyH.nil)
    refine step_append_lies (W4.drew.alloc (.cells (wrc (k, s)).toArray 81)) rfl _ _ 61 rfl B 81 i0 (.agg z65) 65 72 Try.underlying61 hi0 hz0 hz1 hz2 rfl (by decide) vp st.pend.length (pcells st.pend) rfl HP5.out ⟨W4.heap.size, 0, none⟩ 1 1 (wrc (k, s)) rfl HWL.out HN5.out (wrc_one _) (by decide) (by unfold maxLen; omega) (by omega) HS5.out _ rfl ?_
    intro g9 cap9 w9 hown9 hgrow9 hat9 hlt9
    have HF9 : Hid (∀ j (cs : Array Value) (T : TypeId) (fr : Nat × Nat), W4.heap[j]? = some (Obj.cells cs T fr) → vp.ownBlock ≠ some j → w9.heap[j]? = some (Obj.cells cs T fr)) := Lib.hid (fun j cs T fr hj hne => by
      have h9 := H5.out j cs T fr hj
      rw [hgrow9.block j (lt_of_get h9) (fun e => hne e.symm)]; exact h9)
    have ht9 := HF9.out t _ _ _ HT4.out HVB.out.2.2.2
    have hr9 : w9.rangeAt t 0 (wrc (k, s)) := fun j v hv => by
      rw [cell_of_row w9 t _ _ _ _ ht9, List.getElem?_toArray, Nat.zero_add]
      exact hv
    refine hK.out _ _ hr9 (fun hHeld4 => ?_)
    simp only [Act.put, List.setIfInBounds_toArray, List.set_cons_zero, List.set_cons_succ]
    clear hK K
    have hb9 := HF9.out b _ _ _ HD4.out.hd HVB.out.1
    have hc9 : w9.cell? ⟨b, 2, none⟩ = some vp := by rw [cell_of_row w9 b _ _ _ _ hb9]; rfl
    have hf9 : w9.frozen? ⟨b, 2, none⟩ = false := frozen_of_row w9 b _ _ _ hb9
    refine wpAnyH_take (i := 8) (oi := { dst := some 40, op := .nilCheck (.tmp 32), type := _, pos := _, after := _, guard := none }) (v := .pointer (some ⟨b, 0, none⟩)) rfl (by kernel_rfl) (by kernel_rfl) (by kernel_rfl) (fun _ _ _ h => h) (Or.inl ⟨by rfl, by intro w _; rfl⟩) (by assumption) ?_
    simp only [Act.put, List.setIfInBounds_toArray, List.set_cons_zero, List.set_cons_succ]
    refine wpAnyH_take (i := 9) (oi := { dst := some 41, op := .fieldAddr 65 (.tmp 40) 2, type := _, pos := _, after := _, guard := none }) (v := .pointer (some ⟨b, 2, none⟩)) rfl (by kernel_rfl) (by kernel_rfl) (by kernel_rfl) (fun _ _ _ h => h) (Or.inl ⟨by rfl, by intro w _; go_simp⟩) (by assumption) ?_
    simp only [Act.put, List.setIfInBounds_toArray, List.set_cons_zero, List.set_cons_succ]
    refine wpAnyH_ready (rs := [10]) (by kernel_rfl) (by simp) (AllReadyH.cons (o := { dst := none, op := .store 61 (.tmp 41) (.tmp 39), type := _, pos := _, after := _, guard := none }) rfl (fun K hK => ?_) AllReadyH.nil)
    refine step_of rfl (wpO_store 61 _ _ rfl (.pointer (some ⟨b, 2, none⟩)) (.slice (some ⟨g9, 0, none⟩) (st.pend.length + 1) cap9) rfl rfl (store_pend b _ _ _ vp w9 hc9 hf9) ?_)
    refine hK.out _ _ (fun j v hv => by rw [World.cell?_setCell_other _ _ _ _ (fun e => HTB.out (by injection e with e1 _ _; exact e1.symm))]; exact hr9 j v hv) (fun hHeld5 => ?_)
    clear hK K
    refine wpAnyH_done (by kernel_rfl) ?_ _
    have HD6 : Hid (DevAt B (w9.setCell ⟨b, 2, none⟩ (.slice (some ⟨g9, 0, none⟩) (st.pend.length + 1) cap9)) b gn gs (.slice (some ⟨g9, 0, none⟩) (st.pend.length + 1) cap9) { st with now := st.now.set k s, pend := st.pend ++ [(k, s)] }) := Lib.hid (HD4.out.newPend (hb9.trans HD4.out.hd.symm) ((HF9.out gn _ _ _ HD4.out.nw HVB.out.2.1).trans HD4.out.nw.symm) ((HF9.out gs _ _ _ HD4.out.sf HVB.out.2.2.1).trans HD4.out.sf.symm) (by rw [← HPC.out, ← HPL.out]; exact hown9))
    have HB6 : Hid (Below B w (w9.setCell ⟨b, 2, none⟩ (.slice (some ⟨g9, 0, none⟩) (st.pend.length + 1) cap9))) := Lib.hid ((HB5.out.grown hgrow9 HS5.out (fun j hj => (HP5.out.lt j hj).1)).setCell (p := ⟨b, 2, none⟩) HD4.out.hb _)
    have HO6 : Hid (Off devTs w (w9.setCell ⟨b, 2, none⟩ (.slice (some ⟨g9, 0, none⟩) (st.pend.length + 1) cap9))) := Lib.hid (Off.setCell (HO5.out.grown hgrow9 (fun j hj => own_type HP5.out hj (by simp))) hb9 (by simp) _)
    clear hown9 hgrow9 hat9 hlt9 HF9 ht9 hr9 hHeld4 hb9 hc9 hf9 hHeld5 c0 c1 c2 c3 c4 f2 r4
    obtain ⟨v6, hv6⟩ : ∃ v6, v6 = Value.slice (some ⟨g9, 0, none⟩) (st.pend.length + 1) cap9 := ⟨_, rfl⟩
    rw [← hv6] at HD6 HB6 HO6 ⊢
    generalize w9.setCell ⟨b, 2, none⟩ v6 = W6 at *
    obtain ⟨c0, c1, c2, c3, c4⟩ := HD6.out.cells
    have f4 := HD6.out.frozen 4
    have cS := spend_c b st.lim st.left W6 c3 c4 f4 HL.out
    clear c0 c1 c2 hv6
    go_wp2_with fail
    refine cS.mono ?_
    rintro e w7 ⟨rfl, hw7⟩
    have HW7 := Lib.hid hw7
    clear hw7 cS
    go_wp2
    go_ret
    refine ⟨rfl, ?_⟩
    have := putEnd HD6.out HB6.out HO6.out
    rw [← HW7.out] at this
    exact this
  · skip
    refine step_of rfl (wpO_load 61 _ rfl (.pointer (some ⟨b, 2, none⟩)) vp rfl (HLD.out _ c2) ?_)
    refine hK.out _ _ r4 (fun hHeld2 => ?_)
    clear hK K hHeld
    simp only [Act.put, List.setIfInBounds_toArray, List.set_cons_zero, List.set_cons_succ]
    refine wpAnyH_ready (rs := [6]) (by kernel_rfl) (by simp) (AllReadyH.cons (o := { dst := some 38, op := .buildSlice 61 1 #[(0, .tmp 37)], type := _, pos := _, after := _, guard := none }) rfl (fun K hK => ?_) AllReadyH.nil)
    refine step_of rfl (wpO_buildSlice 61 1 _ rfl #[(0, .agg (wrc (k, s)).toArray)] (.slice (some ⟨W4.heap.size, 0, none⟩) 1 1) rfl (HBS.out W4.drew) ?_)
    refine hK.out _ _ HR5.out (fun hHeld3 => ?_)
    clear hK K hHeld2
    simp only [Act.put, List.setIfInBounds_toArray, List.set_cons_zero, List.set_cons_succ]
    refine wpAnyH_ready (rs := [7]) (by kernel_rfl) (by simp) (AllReadyH.cons (o := { dst := some 39, op := .call { callee := .builtin .append, args := #[.tmp 36, .tmp 38], argTypes := #[61, 61] }, type := _, pos := _, after := _, guard := none }) rfl (fun K hK => ?_) AllReadyH.nil)
    refine step_append_lies (W4.drew.alloc (.cells (wrc (k, s)).toArray 81)) rfl _ _ 61 rfl B 81 i0 (.agg z65) 65 72 Try.underlying61 hi0 hz0 hz1 hz2 rfl (by decide) vp st.pend.length (pcells st.pend) rfl HP5.out ⟨W4.heap.size, 0, none⟩ 1 1 (wrc (k, s)) rfl HWL.out HN5.out (wrc_one _) (by decide) (by unfold maxLen; omega) (by omega) HS5.out _ rfl ?_
    intro g9 cap9 w9 hown9 hgrow9 hat9 hlt9
    have HF9 : Hid (∀ j (cs : Array Value) (T : TypeId) (fr : Nat × Nat), W4.heap[j]? = some (Obj.cells cs T fr) → vp.ownBlock ≠ some j → w9.heap[j]? = some (Obj.cells cs T fr)) := Lib.hid (fun j cs T fr hj hne => by
      have h9 := H5.out j cs T fr hj
      rw [hgrow9.block j (lt_of_get h9) (fun e => hne e.symm)]; exact h9)
    have ht9 := HF9.out t _ _ _ HT4.out HVB.out.2.2.2
    have hr9 : w9.rangeAt t 0 (wrc (k, s)) := fun j v hv => by
      rw [cell_of_row w9 t _ _ _ _ ht9, List.getElem?_toArray, Nat.zero_add]
      exact hv
    refine hK.out _ _ hr9 (fun hHeld4 => ?_)
    simp only [Act.put, List.setIfInBounds_toArray, List.set_cons_zero, List.set_cons_succ]
    clear hK K
    have hb9 := HF9.out b _ _ _ HD4.out.hd HVB.out.1
    have hc9 : w9.cell? ⟨b, 2, none⟩ = some vp := by rw [cell_of_row w9 b _ _ _ _ hb9]; rfl
    have hf9 : w9.frozen? ⟨b, 2, none⟩ = false := frozen_of_row w9 b _ _ _ hb9
    refine wpAnyH_take (i := 8) (oi := { dst := some 40, op := .nilCheck (.tmp 32), type := _, pos := _, after := _, guard := none }) (v := .pointer (some ⟨b, 0, none⟩)) rfl (by kernel_rfl) (by kernel_rfl) (by kernel_rfl) (fun _ _ _ h => h) (Or.inl ⟨by rfl, by intro w _; rfl⟩) (by assumption) ?_
    simp only [Act.put, List.setIfInBounds_toArray, List.set_cons_zero, List.set_cons_succ]
    refine wpAnyH_take (i := 9) (oi := { dst := some 41, op := .fieldAddr 65 (.tmp 40) 2, type := _, pos := _, after := _, guard := none }) (v := .pointer (some ⟨b, 2, none⟩)) rfl (by kernel_rfl) (by kernel_rfl) (by kernel_rfl) (fun _ _ _ h => h) (Or.inl ⟨by rfl, by intro w _; go_simp⟩) (by assumption) ?_
    simp only [Act.put, List.setIfInBounds_toArray, List.set_cons_zero, List.set_cons_succ]
    refine wpAnyH_ready (rs := [10]) (by kernel_rfl) (by simp) (AllReadyH.cons (o := { dst := none, op := .store 61 (.tmp 41) (.tmp 39), type := _, pos := _, after := _, guard := none }) rfl (fun K hK => ?_) AllReadyH.nil)
    refine step_of rfl (wpO_store 61 _ _ rfl (.pointer (some ⟨b, 2, none⟩)) (.slice (some ⟨g9, 0, none⟩) (st.pend.length + 1) cap9) rfl rfl (store_pend b _ _ _ vp w9 hc9 hf9) ?_)
    refine hK.out _ _ (fun j v hv => by rw [World.cell?_setCell_other _ _ _ _ (fun e => HTB.out (by injection e with e1 _ _; exact e1.symm))]; exact hr9 j v hv) (fun hHeld5 => ?_)
    clear hK K
    refine wpAnyH_done (by kernel_rfl) ?_ _
    have HD6 : Hid (DevAt B (w9.setCell ⟨b, 2, none⟩ (.slice (some ⟨g9, 0, none⟩) (st.pend.length + 1) cap9)) b gn gs (.slice (some ⟨g9, 0, none⟩) (st.pend.length + 1) cap9) { st with now := st.now.set k s, pend := st.pend ++ [(k, s)] }) := Lib.hid (HD4.out.newPend (hb9.trans HD4.out.hd.symm) ((HF9.out gn _ _ _ HD4.out.nw HVB.out.2.1).trans HD4.out.nw.symm) ((HF9.out gs _ _ _ HD4.out.sf HVB.out.2.2.1).trans HD4.out.sf.symm) (by rw [← HPC.out, ← HPL.out]; exact hown9))
    have HB6 : Hid (Below B w (w9.setCell ⟨b, 2, none⟩ (.slice (some ⟨g9, 0, none⟩) (st.pend.length + 1) cap9))) := Lib.hid ((HB5.out.grown hgrow9 HS5.out (fun j hj => (HP5.out.lt j hj).1)).setCell (p := ⟨b, 2, none⟩) HD4.out.hb _)
    have HO6 : Hid (Off devTs w (w9.setCell ⟨b, 2, none⟩ (.slice (some ⟨g9, 0, none⟩) (st.pend.length + 1) cap9))) := Lib.hid (Off.setCell (HO5.out.grown hgrow9 (fun j hj => own_type HP5.out hj (by simp))) hb9 (by simp) _)
    clear hown9 hgrow9 hat9 hlt9 HF9 ht9 hr9 hHeld4 hb9 hc9 hf9 hHeld5 c0 c1 c2 c3 c4 f2 r4
    obtain ⟨v6, hv6⟩ : ∃ v6, v6 = Value.slice (some ⟨g9, 0, none⟩) (st.pend.length + 1) cap9 := ⟨_, rfl⟩
    rw [← hv6] at HD6 HB6 HO6 ⊢
    generalize w9.setCell ⟨b, 2, none⟩ v6 = W6 at *
    obtain ⟨c0, c1, c2, c3, c4⟩ := HD6.out.cells
    have f4 := HD6.out.frozen 4
    have cS := spend_c b st.lim st.left W6 c3 c4 f4 HL.out
    clear c0 c1 c2 hv6
    go_wp2_with fail
    refine cS.mono ?_
    rintro e w7 ⟨rfl, hw7⟩
    have HW7 := Lib.hid hw7
    clear hw7 cS
    go_wp2
    go_ret
    refine ⟨rfl, ?_⟩
    have := putEnd HD6.out HB6.out HO6.out
    rw [← HW7.out] at this
    exact this
end Go.Proofs.Ytmpfdmjbgabcdaa
