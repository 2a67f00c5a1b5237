/-
  What a method of the heap's is found at: the pointer's own, and those of what it points to.
-/
import Derived.Test.YtfmjhamnpgcdcaaGreatDoorHpKit
namespace Go.Proofs.YtfmjhamnpgcdcaaGreatDoor
open Go.RowKit Go.Sort
set_option linter.unusedVariables false
theorem run_numbers (w : World) (a : Addr) (v : Value) (h : w.cell? a = some v) : (loadVar 47 a).run Tryz.prog w = .ok v w := by
  have hagg : (isAgg 47).run Tryz.prog w = .ok false w := by kernel_rfl
  simp [loadVar, Sem.run_bind, hagg, h]
theorem run_receiver (w : World) (a : Addr) (v : Value) (name : String) (h : w.cell? a = some v) : (receiverAt 82 (.val (.pointer (some a))) false (some name)).run Tryz.prog w = .ok v w := by
  have hu : (underlying 82).run Tryz.prog w = .ok (.pointer 47) w := run_underlying Tryz.underlying82 w
  have hs : (Builtin.ssaWrapNilChk_ #[82] 82 #[.pointer (some a), strVal "", strVal name]).run Tryz.prog w = .ok (.pointer (some a)) w := rfl
  have hn := run_numbers w a v h
  simp only [receiverAt, Sem.run_bind, hu, Result.andThen_ok, Place.get, Sem.run_pure, hs, asAddr, hn]
theorem meth_val (name : String) (K : Nat) (hi : (Tryz.prog.info? 82).bind (fun i => (i.methods.find? (·.name == name)).map fun m => (m.path.toList, m.func)) = some ([], some (K, false))) (a : Addr) (v : Value) (w : World) (h : w.cell? a = some v) :
    (method 312 82 (.pointer (some a)) name).run Tryz.prog w = .ok (K, v) w := by
  obtain ⟨i, hi1, hi2⟩ := Option.bind_eq_some_iff.1 hi
  obtain ⟨m, hm1, hm2⟩ := Option.map_eq_some_iff.1 hi2
  simp only [Prod.mk.injEq] at hm2
  obtain ⟨hp, hf⟩ := hm2
  have hpe : m.path.isEmpty = true := by simpa using hp
  have hr := run_receiver w a v ((name.splitOn ".").getLastD name) h
  rw [method.eq_2]
  simp only [Sem.run_bind, typeInfo, run_program, Result.andThen_ok, hi1, Sem.run_pure, hm1, hp, follow, hf, hpe, if_true, hr]
theorem meth_less (a : Addr) (v : Value) (w : World) (h : w.cell? a = some v) : (method 312 82 (.pointer (some a)) "Less").run Tryz.prog w = .ok (184, v) w := meth_val "Less" _ (by kernel_rfl) a v w h
theorem meth_swap (a : Addr) (v : Value) (w : World) (h : w.cell? a = some v) : (method 312 82 (.pointer (some a)) "Swap").run Tryz.prog w = .ok (185, v) w := meth_val "Swap" _ (by kernel_rfl) a v w h
theorem meth_len (a : Addr) (v : Value) (w : World) (h : w.cell? a = some v) : (method 312 82 (.pointer (some a)) "Len").run Tryz.prog w = .ok (183, v) w := meth_val "Len" _ (by kernel_rfl) a v w h
theorem meth_push (a : Addr) (w : World) : (method 312 82 (.pointer (some a)) "Push").run Tryz.prog w = .ok (188, .pointer (some a)) w := by kernel_rfl
theorem meth_pop (a : Addr) (w : World) : (method 312 82 (.pointer (some a)) "Pop").run Tryz.prog w = .ok (187, .pointer (some a)) w := by kernel_rfl
theorem ahead_less (a : Addr) (w : World) : (nilAhead 312 82 (.pointer (some a)) "Less").run Tryz.prog w = .ok (some false) w := by kernel_rfl
theorem ahead_swap (a : Addr) (w : World) : (nilAhead 312 82 (.pointer (some a)) "Swap").run Tryz.prog w = .ok (some false) w := by kernel_rfl
theorem ahead_len (a : Addr) (w : World) : (nilAhead 312 82 (.pointer (some a)) "Len").run Tryz.prog w = .ok (some false) w := by kernel_rfl
end Go.Proofs.YtfmjhamnpgcdcaaGreatDoor
