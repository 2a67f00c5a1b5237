/- Kit. -/
import Derived.Test.YtfioknaadbgjlaaGreatDoorProg
import Derived.Test.YtfioknaadbgjlaaGreatDoorEK1
import Derived.WalkKit
import Derived.WalkSpells
import Derived.Lib.Hide
import Derived.IntWalk
import Derived.Laws.IdiomStrings
import Derived.KernelRfl
import Derived.Shelf.Unicode.DecodeSlow
import Derived.Below
import Derived.PlainAid
import Derived.Handy
import Derived.Deep.RegionWith
import Derived.Deep.RegionHeld3
import Derived.Deep.QuietTactic
import Derived.BigQuiet
import Derived.LoopTactic
import Derived.Deep.LoopGhost
import Derived.Laws.NewBlocks
set_option maxRecDepth 100000
set_option linter.unusedVariables false
set_option linter.unusedSimpArgs false
namespace Go.Proofs.YtfioknaadbgjlaaGreatDoor.F
open Go.RowKit
end Go.Proofs.YtfioknaadbgjlaaGreatDoor.F
namespace Go.Proofs.YtfioknaadbgjlaaGreatDoor.F
open Go.RowKit
end Go.Proofs.YtfioknaadbgjlaaGreatDoor.F
namespace Go.Proofs.YtfioknaadbgjlaaGreatDoor.F
open Go.RowKit
/-- The character at a place, and how many bytes it has. -/
def nextG (b : ByteArray) (at' : Int) : Nat × Nat :=
  if at' < 0 ∨ (b.size : Int) ≤ at' then (0, 0) else if (Utf8.decode b at'.toNat).1 = 65533 ∧ (Utf8.decode b at'.toNat).2 = 1 then (0, 0) else Utf8.decode b at'.toNat
theorem nextG_out {b : ByteArray} {at' : Int} (h : at' < 0 ∨ (b.size : Int) ≤ at') : nextG b at' = (0, 0) := by unfold nextG; rw [if_pos h]
theorem nextG_bad {b : ByteArray} {at' : Int} (h : ¬ (at' < 0 ∨ (b.size : Int) ≤ at')) (h' : (Utf8.decode b at'.toNat).1 = 65533 ∧ (Utf8.decode b at'.toNat).2 = 1) : nextG b at' = (0, 0) := by unfold nextG; rw [if_neg h, if_pos h']
theorem nextG_good {b : ByteArray} {at' : Int} (h : ¬ (at' < 0 ∨ (b.size : Int) ≤ at')) (h' : ¬ ((Utf8.decode b at'.toNat).1 = 65533 ∧ (Utf8.decode b at'.toNat).2 = 1)) : nextG b at' = Utf8.decode b at'.toNat := by unfold nextG; rw [if_neg h, if_neg h']
theorem decodeGo_ext (s : ByteArray) (pos : Nat) (h : pos < s.size) : Lib.decodeGo (s.extract pos s.size) = Utf8.decode s pos := by
  unfold Lib.decodeGo
  have hz : (s.extract pos s.size).size ≠ 0 := by rw [ByteArray.size_extract]; omega
  rw [if_neg hz, ← Lib.decodeL_drop s pos]
  unfold Lib.decodeL
  congr 1
  apply ByteArray.ext
  rw [ByteArray.data_extract]
  apply Array.ext'
  rw [Array.toList_extract]
  simp only [List.extract_eq_take_drop]
  rw [List.take_of_length_le (by simp)]
theorem nextG_L {b : ByteArray} {k : Nat} (hk : k < b.size) : nextG b (k : Int) = nextL (b.data.toList.drop k) := by
  have hd := Lib.decodeL_drop b k
  have hne : b.data.toList.drop k ≠ [] := by
    intro h
    have := congrArg List.length h
    have hz : b.data.toList.length = b.size := by simp
    simp only [List.length_drop, List.length_nil] at this
    omega
  unfold nextG nextL
  rw [if_neg (by omega), if_neg hne, hd]
  have hn : ((k : Int)).toNat = k := by omega
  rw [hn]
theorem below_step {w wx w' : World} (h1 : Below w.heap.size w wx) (h2 : Below wx.heap.size wx w') : Below w.heap.size w w' := h1.trans (h2.mono h1.size)
theorem gB_bt (b : ByteArray) (k i : Nat) : (gB (b.data.toList.drop k) i : Int) = Go.PlainAid.bt b (k + i) := by
  unfold gB
  rw [List.getD_eq_getElem?_getD, List.getElem?_drop]
  by_cases h : k + i < b.size
  · have h' : k + i < b.data.toList.length := by simpa using h
    rw [List.getElem?_eq_getElem h', Option.getD_some, ← Go.PlainAid.get_bt b (k + i) h]
    rfl
  · have h' : b.data.toList.length ≤ k + i := by simpa using h
    rw [List.getElem?_eq_none h', Option.getD_none, Go.PlainAid.bt_end b (by omega)]
    rfl
end Go.Proofs.YtfioknaadbgjlaaGreatDoor.F
namespace Go.Proofs.YtfioknaadbgjlaaGreatDoor.F
open Go.RowKit
theorem rel_more {s : Nat} {l : List UInt8} (h : ∀ t, 1 ≤ t → t < s → ¬ Hit t l) (h' : ¬ Hit s l) : ∀ t, 1 ≤ t → t < s + 1 → ¬ Hit t l := by
  intro t h1 h2
  by_cases e : t = s
  · subst e; exact h'
  · exact h t h1 (by omega)
end Go.Proofs.YtfioknaadbgjlaaGreatDoor.F
namespace Go.Proofs.YtfioknaadbgjlaaGreatDoor.F
open Go.RowKit
theorem infoInt32 : (Tryz.prog.info? 21).map (fun i => (i.zero, i.size, i.bytes)) = some (some (.int .i32 0), 1, 4) := by kernel_rfl
theorem grown_of_below {w w' : World} (hb : Below w.heap.size w w') (row : Option Nat) : w.grownBy w' row := ⟨hb.os, hb.tape, hb.output, hb.size, fun k hk _ => hb.block k hk⟩
end Go.Proofs.YtfioknaadbgjlaaGreatDoor.F
namespace Go.Proofs.YtfioknaadbgjlaaGreatDoor.F
open Go.RowKit
def RelS (la lb : List Int) (w0 : World) (iv : Value) (wr : World) : Prop :=
  ∃ i : Nat, i ≤ la.length ∧ iv = .int .i64 i ∧ (∀ j, j < i → la.getD j 0 = lb.getD j 0) ∧ Below w0.heap.size w0 wr
end Go.Proofs.YtfioknaadbgjlaaGreatDoor.F
namespace Go.Proofs.YtfioknaadbgjlaaGreatDoor.F
open Go.RowKit
end Go.Proofs.YtfioknaadbgjlaaGreatDoor.F
namespace Go.Proofs.YtfioknaadbgjlaaGreatDoor.F
open Go.RowKit
end Go.Proofs.YtfioknaadbgjlaaGreatDoor.F
namespace Go.Proofs.YtfioknaadbgjlaaGreatDoor.F
open Go.RowKit
theorem ne_next {l : List Int} {a : Int} {i : Nat} (h : ∀ j, j < i → l.getD j 0 ≠ a) (h' : l.getD i 0 ≠ a) : ∀ j, j < i + 1 → l.getD j 0 ≠ a := by
  intro j hj
  by_cases e : j = i
  · subst e; exact h'
  · exact h j (by omega)
end Go.Proofs.YtfioknaadbgjlaaGreatDoor.F
namespace Go.Proofs.YtfioknaadbgjlaaGreatDoor.F
open Go.RowKit
def splitR (r : Int) : Int × Int × Bool := match splitI r with
  | some x => (x.1, x.2, true)
  | none => (0, 0, false)
theorem splitR_at {r : Int} {x : Int × Int} (h : splitT r = some x) : splitR r = (x.1, x.2, true) := by unfold splitR splitI; rw [h]
end Go.Proofs.YtfioknaadbgjlaaGreatDoor.F
