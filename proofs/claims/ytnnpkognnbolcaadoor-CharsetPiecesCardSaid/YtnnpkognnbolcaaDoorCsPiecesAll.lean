/-
  The law 'CharsetPieces', of all encodings and bytes.
-/
import Derived.Test.YtnnpkognnbolcaaDoorCsPiecesLaw
namespace Go.Proofs.YtnnpkognnbolcaaDoor
open Go.RowKit
set_option linter.unusedVariables false

set_option maxHeartbeats 1000000 in
theorem cspieces_walk (enc : Int) (b : ByteArray) (hs : b.size ≤ 9223372036854775807) (w : World) (hT : Tabs w) :
    Calls Tryd.prog 6 #[.int .i64 enc, .string b] w fun e w' => e = .returned (.bool true) ∧ Below w.heap.size w w' := by
  by_cases h100 : b.size ≤ 100
  · by_cases hin : 0 ≤ enc ∧ enc ≤ 8
    · exact cspieces_in enc hin.1 hin.2 b h100 w hT
    · have hz : (b.size : Int) ≤ 100 := by omega
      have cP := pieces_out enc hin b
      by_cases h0 : enc < 0
      · clear hin hT hs h100
        go_enter Tryd.func6, Tryd.ntmps6
        go_wp2_with fail
        refine (awake2_c _).mono ?_
        rintro e w1 ⟨rfl, hb1⟩
        go_wp2_with fail
        refine (cP _).mono ?_
        rintro e w2 ⟨rfl, rfl⟩
        go_wp2
        go_ret
        exact ⟨rfl, hb1⟩
      · have h8 : 8 < enc := by omega
        clear hin hT hs h100
        go_enter Tryd.func6, Tryd.ntmps6
        go_wp2_with fail
        refine (awake2_c _).mono ?_
        rintro e w1 ⟨rfl, hb1⟩
        go_wp2_with fail
        refine (cP _).mono ?_
        rintro e w2 ⟨rfl, rfl⟩
        go_wp2
        go_ret
        exact ⟨rfl, hb1⟩
  · have hz : (100 : Int) < (b.size : Int) := by omega
    clear h100 hT
    go_enter Tryd.func6, Tryd.ntmps6
    go_wp2_with fail
    refine (awake2_c _).mono ?_
    rintro e w1 ⟨rfl, hb1⟩
    go_wp2_with fail
    refine (awake2_c _).mono ?_
    rintro e w2 ⟨rfl, hb2⟩
    go_wp2
    go_ret
    exact ⟨rfl, below_step hb1 hb2⟩
end Go.Proofs.YtnnpkognnbolcaaDoor
