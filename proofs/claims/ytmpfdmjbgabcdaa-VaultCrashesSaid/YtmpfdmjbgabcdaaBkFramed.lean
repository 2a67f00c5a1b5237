/-
  A bank (stage 7): a frame.
-/
import Derived.Test.YtmpfdmjbgabcdaaBkLeft
namespace Go.Proofs.Ytmpfdmjbgabcdaa
open Go.RowKit Go.Sort
set_option linter.unusedVariables false

def bcells (l : List UInt8) : List Value := l.map fun x => Value.int .u8 (x.toNat : Int)
theorem bcells_one (l : List UInt8) : ∀ v ∈ bcells l, v.oneCell' = true := fun v hv => by
  obtain ⟨x, _, rfl⟩ := List.mem_map.1 hv
  rfl
/-- 'copy(dst, s)', s a text of any length, dst within a block that is known. -/
theorem wpList_copy_str {P : Program} {w : World} {ops : Array Oper} {rest : List Oper} {o : Oper} {a : Act} {Q : Exit → Act → World → Prop} (hgd : o.guard = none) (d s : Operand) (dT sT : TypeId)
    (ho : o.op = .call { callee := .builtin .copy, args := #[d, s], argTypes := #[dT, sT] }) (elem : TypeId) (hu : P.underlying dT = some (.slice elem)) (hz : ∀ w, (Go.sizeOf elem).run P w = .ok 1 w)
    (b off dLen dCap n : Nat) (hd : a.eval d = .slice (some ⟨b, off, none⟩) dLen dCap) (t : ByteArray) (hx : a.eval s = .string t) (hn : Nat.min t.size dLen = n)
    (C D : List Value) (T : TypeId) (hb : w.heap[b]? = some (.cells C.toArray T (0, 0))) (hfit : off + n ≤ C.length) (hD : C.take off ++ bcells (t.data.toList.take n) ++ C.drop (off + n) = D)
    (h : ∀ w', w'.heap[b]? = some (.cells D.toArray T (0, 0)) → (∀ (B : Nat) (w0 : World), Below B w0 w → B ≤ b → Below B w0 w') → wpList P ops Q rest (a.put o.dst (goInt n)) w') : wpList P ops Q (o :: rest) a w := by
  refine wpList_plain hgd fun K hK => ?_
  have hl : (bcells (t.data.toList.take n)).length = n := by
    unfold bcells
    rw [List.length_map, List.length_take]
    have h1 : t.data.toList.length = t.size := Array.length_toList
    have h2 : n ≤ t.size := by rw [← hn]; exact Nat.min_le_left _ _
    omega
  have hth := there_of_block hb off n (by simpa using hfit)
  have hst := run_storeCells_cells (P := P) b off (bcells (t.data.toList.take n)) 0 w (by rw [hl]; exact fun j hj => by simpa using (hth j hj).1) (by rw [hl]; exact fun j hj => by simpa using (hth j hj).2) (bcells_one _)
  have hrun : (Builtin.copy_ #[dT, sT] o.type #[.slice (some ⟨b, off, none⟩) dLen dCap, .string t]).run P w = .ok (goInt n) (w.setCells b off (bcells (t.data.toList.take n))) := by
    simp [Builtin.copy_, run_underlying hu, Builtin.lenOf, Builtin.firstCells, hz, hn]
    rw [show (List.map (fun x => Value.int IntKind.u8 (x.toNat : Int)) t.data.toList).take n = bcells (t.data.toList.take n) by unfold bcells; rw [List.map_take]]
    rw [hst]
    rfl
  unfold Oper.wp
  simp [execOp, ho, resolve, invoke, builtin, hd, hx, hrun, Result.andThen]
  refine hK _ _ (h _ ?_ (fun B w0 hB hBb => Below.setCells hB hBb _ _))
  have h9 := heap_setCells_at b T (bcells (t.data.toList.take n)) off w C hb (by rw [hl]; exact hfit)
  rw [hl, hD] at h9
  exact h9
theorem wpL_copy {P : Program} {ops : Array Oper} {rest : List Oper} {dd : Option Tmp} {TT : TypeId} {pos : String} {af : Array Edge} {a : Act} {w : World} {Q : Exit → Act → World → Prop} {d s : Operand} {dT sT : TypeId} (elem : TypeId) (b off dLen dCap n : Nat) (t : ByteArray) (C D : List Value) (T : TypeId)
    (hd : a.eval d = .slice (some ⟨b, off, none⟩) dLen dCap) (hx : a.eval s = .string t) (hb : w.heap[b]? = some (.cells C.toArray T (0, 0)))
    (hu : P.underlying dT = some (.slice elem)) (hz : ∀ w, (Go.sizeOf elem).run P w = .ok 1 w) (hn : Nat.min t.size dLen = n) (hfit : off + n ≤ C.length) (hD : C.take off ++ bcells (t.data.toList.take n) ++ C.drop (off + n) = D)
    (h : ∀ w', w'.heap[b]? = some (.cells D.toArray T (0, 0)) → (∀ (B : Nat) (w0 : World), Below B w0 w → B ≤ b → Below B w0 w') → wpList P ops Q rest (a.put dd (goInt n)) w') :
    wpList P ops Q ({ dst := dd, op := .call { callee := .builtin .copy, args := #[d, s], argTypes := #[dT, sT] }, type := TT, pos := pos, after := af, guard := none } :: rest) a w :=
  wpList_copy_str rfl d s dT sT rfl elem hu hz b off dLen dCap n hd t hx hn C D T hb hfit hD h
theorem two_drop {α : Type} (x y z : α) (k n : Nat) : ([x, y] ++ List.replicate k z).drop (2 + n) = List.replicate (k - n) z := by
  rw [Nat.add_comm 2]
  show (List.replicate k z).drop n = _
  rw [List.drop_replicate]
theorem conv_arr {W : World} {g : Nat} {T : TypeId} {l : List UInt8} (hl : l.length = 64) (h : W.heap[g]? = some (.cells (bcells l).toArray T (0, 0))) : (convert 86 9 (.slice (some ⟨g, 0, none⟩) 64 64)).run Try.prog W = .ok (.string ⟨l.toArray⟩) W := by
  have h9 := run_convert_bytes_back (P := Try.prog) W 86 9 5 ⟨g, 0, none⟩ 64 l Try.underlying86 Try.underlying5 Try.underlying9 (fun j hj => by
    rw [Addr.add_mid, Nat.zero_add, cell_of_row _ _ _ _ _ _ h]
    unfold bcells
    simp [hj])
  rw [hl] at h9
  exact h9
set_option maxHeartbeats 4000000 in
set_option maxRecDepth 100000 in
theorem framed_c (s : ByteArray) (w : World) (hs : s.size ≤ 60000) : Calls Try.prog 71 #[.string s] w fun e w' => e = .returned (.string ⟨(frameB s.data.toList).toArray⟩) ∧ Below w.heap.size w w' := by
  obtain ⟨m, hm⟩ : ∃ m, s.size = m := ⟨_, rfl⟩
  have hml : s.data.toList.length = m := by rw [Array.length_toList]; exact hm
  have HD : Hid ([Value.int .u8 ((m : Int) / 256), Value.int .u8 ((m : Int) % 256)] ++ bcells (s.data.toList.take (min m 62)) ++ List.replicate (62 - min m 62) (Value.int .u8 0) = bcells (frameB s.data.toList)) := Lib.hid (by
    have h1 := frame_cells s.data.toList
    unfold bcells
    rw [h1, hml, UInt8.toNat_ofNat', UInt8.toNat_ofNat', Nat.mod_eq_of_lt (by omega), Nat.mod_eq_of_lt (by omega), List.length_take, hml]
    have h2 : s.data.toList.take (min m 62) = s.data.toList.take 62 := by
      by_cases h : m ≤ 62
      · rw [Nat.min_eq_left h, List.take_of_length_le (by omega), List.take_of_length_le (by omega)]
      · rw [Nat.min_eq_right (by omega)]
    rw [h2, Nat.min_comm]
    congr 2)
  have HFL : Hid ((frameB s.data.toList).length = 64) := Lib.hid (frameB_length _)
  generalize frameB s.data.toList = F at *
  have HM := Lib.hid hm
  rw [hm] at hs
  go_enter Try.func71, Try.ntmps71
  have HN : Hid (Nat.min s.size 62 = min m 62) := Lib.hid (by rw [HM.out])
  have HX : Hid (([Value.int .u8 ((m : Int) / 256), Value.int .u8 ((m : Int) % 256)] ++ List.replicate 62 (Value.int .u8 0)).take 2 ++ bcells (s.data.toList.take (min m 62)) ++ ([Value.int .u8 ((m : Int) / 256), Value.int .u8 ((m : Int) % 256)] ++ List.replicate 62 (Value.int .u8 0)).drop (2 + min m 62) = bcells F) := Lib.hid (by
    rw [← HD.out, two_drop]
    rfl)
  have HF2 : Hid (2 + min m 62 ≤ ([Value.int .u8 ((m : Int) / 256), Value.int .u8 ((m : Int) % 256)] ++ List.replicate 62 (Value.int .u8 0)).length) := Lib.hid (by simp; omega)
  go_wp2_with ((with_reducible refine wpL_copy 5 w.heap.size 2 62 62 (min m 62) s ([Value.int .u8 ((m : Int) / 256), Value.int .u8 ((m : Int) % 256)] ++ List.replicate 62 (Value.int .u8 0)) (bcells F) 78 ?_ ?_ ?_ ?_ ?_ ?_ ?_ ?_ ?_); exact rfl; exact rfl; exact heap_alloc_new _ _; exact Try.underlying86; exact sizeByte7; exact HN.out; exact HF2.out; exact HX.out)
  intro w2 hrow hbel
  have hcv := conv_arr HFL.out hrow
  have HB : Hid (Below w.heap.size w w2) := Lib.hid (hbel _ _ ((Below.refl _ _).alloc (Nat.le_refl _) _) (Nat.le_refl _))
  clear hbel hrow
  go_wp2
  go_ret
  exact ⟨rfl, HB.out⟩
end Go.Proofs.Ytmpfdmjbgabcdaa
