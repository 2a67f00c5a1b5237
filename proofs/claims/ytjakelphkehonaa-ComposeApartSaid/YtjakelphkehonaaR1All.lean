/-
  The contract of the first reference's All: it reads all characters, or tells that something is none's.
-/
import Derived.Test.YtjakelphkehonaaR1Next
import Derived.Test.YtjakelphkehonaaList
import Derived.Test.YtjakelphkehonaaSliceIs
import Derived.Deep.LoopGhost
import Derived.KernelRfl
namespace Go.Proofs.Ytjakelphkehonaa
open Go.RowKit
set_option linter.unusedVariables false

def AllPost (o : Option (List Int)) (w0 : World) (e : Ending) (w' : World) : Prop :=
  ∃ v, e = .returned (.tuple #[v, .bool o.isSome]) ∧ SliceIs w' v (o.getD []) ∧ Below w0.heap.size w0 w'

theorem infoInt32 : (Try.prog.info? 21).map (fun i => (i.zero, i.size, i.bytes)) = some (some (.int .i32 0), 1, 4) := by kernel_rfl
theorem grown_of_below {w w' : World} (hb : Below w.heap.size w w') (row : Option Nat) : w.grownBy w' row := ⟨hb.os, hb.tape, hb.output, hb.size, fun k hk _ => hb.block k hk⟩

/-- What holds at the head of a round: 'done' was read, the rest from place k on is to be read. -/
def RelA (l : List UInt8) (w0 : World) (ov av : Value) (wr : World) : Prop :=
  ∃ (k : Nat) (done : List Int), k ≤ l.length ∧ av = .int .i64 k ∧ done.length ≤ k ∧ runesL l = (runesL (l.drop k)).map (done ++ ·) ∧
    wr.ownsRow w0.heap.size 21 1 ov done.length (done.map (Value.int .i32)) ∧ Below w0.heap.size w0 wr

set_option maxHeartbeats 2000000 in
theorem refAll_c (b : ByteArray) (hs : b.size ≤ 4000) (w : World) :
    Calls Try.prog 33 #[.string b] w (AllPost (runesL b.data.toList) w) := by
  obtain ⟨i0, hi, hz0, hz1, hz2⟩ := info_parts infoInt32
  have hsz : b.data.toList.length = b.size := by simp
  have HZ := Lib.hid hsz
  clear hsz
  go_enter Try.func33, Try.ntmps33
  go_wp2
  go_loopw [4, 5] (fun ov av wr => RelA b.data.toList w ov av wr) (fun _ av _ => b.size - (intOf av).toNat)
  case atStart => exact ⟨0, [], by omega, rfl, by simp, by simp, World.ownsRow_nil _ _ _ _, Below.refl _ _⟩
  case round =>
    obtain ⟨k, done, hk, rfl, hdk, hru, hown, hbel⟩ := hrel
    rw [HZ.out] at hk
    have HR := Lib.hid hru
    have HO := Lib.hid hown
    clear hru hown
    by_cases hlt : k < b.size
    · have hne : b.data.toList.drop k ≠ [] := by
        intro h
        have := congrArg List.length h
        rw [List.length_drop, HZ.out, List.length_nil] at this
        omega
      have hst := runesL_step hne
      have hfa := nextL_facts (b.data.toList.drop k)
      have cN := fun w => refNext_c b (k : Int) hs w
      rw [nextG_L hlt] at cN
      obtain ⟨R, hRR⟩ : ∃ R, (nextL (b.data.toList.drop k)).1 = R := ⟨_, rfl⟩
      obtain ⟨K, hKK⟩ : ∃ K, (nextL (b.data.toList.drop k)).2 = K := ⟨_, rfl⟩
      simp only [hRR, hKK] at cN
      rw [hRR, hKK] at hst
      have hK4 : K ≤ b.size - k := by
        rcases hfa with hz | ⟨_, _, _, _, _, hle, _⟩
        · rw [← hKK, hz]; omega
        · rw [hKK, List.length_drop, HZ.out] at hle; exact hle
      have hR0 : (R : Int) ≤ 1114111 := by
        rcases hfa with hz | ⟨_, _, hr, _, _, _, _⟩
        · rw [← hRR, hz]; decide
        · have := isR_is hr; rw [hRR] at this; omega
      clear hRR hKK hfa hne
      have hltz : (k : Int) < (b.size : Int) := by omega
      by_cases h0 : K = 0
      · subst h0
        rw [if_pos rfl] at hst
        have HN : Hid (runesL b.data.toList = none) := by rw [HR.out, hst]; rfl
        clear hst
        go_wp2_with fail
        refine (cN _).mono ?_
        rintro e w1 ⟨rfl, hb1⟩
        go_wp2
        go_ret2
        exact ⟨_, by rw [HN.out]; rfl, by rw [HN.out]; exact SliceIs.nil _, hbel.trans (hb1.mono hbel.size)⟩
      · rw [if_neg h0, List.drop_drop] at hst
        have h0z : ((K : Int) == 0) = false := by rw [beq_eq_false_iff_ne]; omega
        have HN : Hid (runesL b.data.toList = (runesL (b.data.toList.drop (k + K))).map ((done ++ [(R : Int)]) ++ ·)) := by
          rw [HR.out, hst, Option.map_map]
          congr 1
          funext x
          simp
        clear hst
        have hw0 : (0 : Int) ≤ (k : Int) + (K : Int) := by omega
        have hw1 : (k : Int) + (K : Int) ≤ 4000 := by omega
        go_wp2_with fail
        refine (cN _).mono ?_
        rintro e w1 ⟨rfl, hb1⟩
        have hown1 := HO.out.kept (grown_of_below hb1 none) (by cases h : u4.ownBlock with | none => exact Or.inl rfl | some x => exact Or.inr (by simp))
        go_wp2_with (at_builtin; refine wpList_append_own _ rfl _ _ 22 rfl w.heap.size 21 i0 (.int .i32 0) 1 4 Try.underlying22 hi hz0 hz1 hz2 rfl (by decide) _ _ _ rfl (hown1.alloc _) ⟨w1.heap.size, 0, none⟩ 1 1 [.int .i32 R] rfl rfl ?c1 ?c2 ?c3 ?c4 ?c5 ?_)
        case c1 =>
          intro j u hj
          match j, hj with
          | 0, hj => simp at hj; subst hj; simp [Addr.add]
        case c2 => intro u hu; simp at hu; subst hu; rfl
        case c3 => unfold maxLen; omega
        case c4 => omega
        case c5 => have h1 := hb1.size; have h2 := hbel.size; simp; omega
        intro v' w2 hown' hgrow _
        have HO2 := Lib.hid hown'
        have HG := Lib.hid hgrow
        clear hown' hgrow hown1
        go_wp2
        go_roundw
        case rel =>
          refine ⟨k + K, done ++ [(R : Int)], by rw [HZ.out]; omega, by go_num, by simp; omega, HN.out, by simpa using HO2.out, ?_⟩
          exact ((hbel.trans (hb1.mono hbel.size)).alloc (by have := hb1.size; have := hbel.size; omega) _).grown HG.out (by simp; have := hb1.size; have := hbel.size; omega) (fun j hj => (HO.out.lt j hj).1)
        case measure => simp [intOf]; omega
    · have hkn : k = b.size := by omega
      have HN := Lib.hid (show runesL b.data.toList = some done by
        rw [HR.out, List.drop_eq_nil_of_le (by rw [HZ.out]; omega), runesL_nil]
        simp)
      have hge : ¬ ((k : Int) < (b.size : Int)) := by omega
      clear hkn
      go_wp2
      go_ret2
      exact ⟨_, by rw [HN.out]; rfl, by rw [HN.out]; exact SliceIs.own HO.out, hbel⟩
end Go.Proofs.Ytjakelphkehonaa
