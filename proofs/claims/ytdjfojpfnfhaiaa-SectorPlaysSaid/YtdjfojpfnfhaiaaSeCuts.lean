/-
  The law SectorCuts of stage 6, walked: it answers true; what lay in memory stays.
-/
import Derived.Test.YtdjfojpfnfhaiaaSeGood
namespace Go.Proofs.Ytdjfojpfnfhaiaa
open Go.RowKit Go.Sort
set_option linter.unusedVariables false

theorem nums_nil (w : World) : NumsIs w (.slice none 0 0) [] := Or.inl ⟨rfl, none, 0, rfl⟩
/-- A device of one sector that is to be cut behind so many writes. -/
structure CutSt (st : St) (left : Nat) (few : Nat) : Prop where
  good : Good st
  one : st.now.length = 1
  lim : st.lim = true
  left : st.left = left
  pend : st.pend.length ≤ few
theorem cut_put {st : St} {left few : Nat} (h : CutSt st (left + 1) few) {s : ByteArray} (hs : s.size = 64) : putI st 0 s = 0 ∧ CutSt (putSt st 0 s) left (few + 1) := by
  have ha : askI st.now.length st.lim st.left (0 : Nat) = 0 := by
    unfold askI
    rw [h.one, h.lim, h.left]
    rw [if_neg (by simp; omega), if_neg (by omega)]
  refine ⟨?_, good_put h.good ha hs, by simp [putSt, h.one], by simp [putSt, h.lim], ?_, ?_⟩
  · unfold putI
    rw [if_pos (by exact ha), if_pos hs]
  · simp only [putSt, h.lim, if_true, h.left]; omega
  · simp only [putSt, List.length_append, List.length_singleton]; have := h.pend; omega
theorem cut_gone {st : St} {few : Nat} (h : CutSt st 0 few) (s : ByteArray) (i : Int) : askI st.now.length st.lim st.left i = 13 ∧ putI st i s = 13 ∧ goneB st = true := by
  have h1 : askI st.now.length st.lim st.left i = 13 := by
    unfold askI
    rw [h.lim, h.left]
    rfl
  refine ⟨h1, ?_, by unfold goneB; rw [h.lim, h.left]; rfl⟩
  unfold putI
  rw [h1, if_neg (by decide)]
set_option maxHeartbeats 8000000 in
set_option maxRecDepth 100000 in
theorem cuts6_walk (x y : Int) (hx0 : 0 ≤ x) (hx1 : x ≤ 255) (hy0 : 0 ≤ y) (hy1 : y ≤ 255) (w : World) :
    Calls Try.prog 5 #[.int .u8 x, .int .u8 y] w fun e w' => e = .returned (.bool true) ∧ Below w.heap.size w w' := by
  have cN := new_c 1 w
  unfold NewPost at cN
  rw [show sizeI 1 = 1 from rfl] at cN
  obtain ⟨N, hN⟩ : ∃ N : Nat, x % 60 = (N : Int) := ⟨(x % 60).toNat, by omega⟩
  obtain ⟨M, hM⟩ : ∃ M : Nat, y % 5 = (M : Int) := ⟨(y % 5).toNat, by omega⟩
  have hN60 : N < 60 := by omega
  have hM5 : M < 5 := by omega
  have hw1 : IntKind.i64.wrap (N : Int) = N := by rw [IntKind.wrap_i64]; omega
  have hw2 : IntKind.i64.wrap (M : Int) = M := by rw [IntKind.wrap_i64]; omega
  have hw3 : IntKind.i64.wrap ((N : Int) + 2) = (N : Int) + 2 := by rw [IntKind.wrap_i64]; omega
  have hw4 : IntKind.i64.wrap ((N : Int) + 2 + (M : Int)) = (N : Int) + 2 + (M : Int) := by rw [IntKind.wrap_i64]; omega
  go_enter Try.func5, Try.ntmps5
  go_wp2_with fail
  refine cN.mono ?_
  rintro e w1 ⟨b, rfl, hd, hb, ho⟩
  have HD1 := Lib.hid hd
  have HB1 := Lib.hid hb
  clear cN hd hb ho
  have cA := awake6_c w1
  go_wp2_with fail
  refine cA.mono ?_
  rintro e w2 ⟨rfl, hb2⟩
  have HD2 := Lib.hid (HD1.out.below hb2)
  have HB2 : Hid (Below w.heap.size w w2) := Lib.hid (HB1.out.trans (hb2.mono HB1.out.size))
  have cC := cut_c w.heap.size b (stNew 1) N w2 HD2.out
  clear cA hb2
  go_wp2_with fail
  refine cC.mono ?_
  rintro e w3 ⟨rfl, hd3, hb3, ho3⟩
  have HC3 : Hid (CutSt (cutSt (stNew 1) N) N 0) := Lib.hid ⟨good_cut (goodNew 1 (by decide)) (by omega) (by omega), rfl, by simp [cutSt, goneB, stNew], by simp [cutSt, goneB, stNew], by simp [cutSt, goneB, stNew]⟩
  have HD3 := Lib.hid hd3
  have HB3 := Lib.hid (HB2.out.trans hb3)
  clear cC hd3 hb3 ho3
  go_wp2_with fail
  go_loopw [7, 6] (fun iv dv wr => ∃ (i : Nat) (st : St), i ≤ N + 2 + M ∧ iv = .int .i64 i ∧ dv = .int .i64 ((min i N : Nat) : Int) ∧ Dev w.heap.size wr b st ∧ CutSt st (N - i) i ∧ Below w.heap.size w wr) (fun iv _ _ => N + 2 + M - (intOf iv).toNat)
  case atStart => exact ⟨0, _, by omega, rfl, by simp, HD3.out, HC3.out, HB3.out⟩
  case round =>
    obtain ⟨i, st, hi, rfl, rfl, hd, hc, hb⟩ := hrel
    have HDi := Lib.hid hd
    have HCi := Lib.hid hc
    have HBi := Lib.hid hb
    clear HD3 HC3 HB3 HD2 HB2 HD1 HB1 hd hc hb
    by_cases hin : i < N + 2 + M
    · have hiz : (i : Int) < (N : Int) + 2 + (M : Int) := by omega
      have cF := full_c y hy0 hy1 wr
      unfold FullPost at cF
      generalize hdn : ((min i N : Nat) : Int) = D
      have HDN := Lib.hid hdn
      have hD1 : IntKind.i64.wrap (D + 1) = D + 1 := by rw [IntKind.wrap_i64]; omega
      clear hdn
      go_wp2_with fail
      refine cF.mono ?_
      rintro e w4 ⟨rfl, hw4⟩
      have HB4 : Hid (Below wr.heap.size wr w4) := Lib.hid (by rw [hw4]; exact (Below.refl _ _).alloc (Nat.le_refl _) _)
      have HD4 := Lib.hid (HDi.out.below HB4.out)
      have cP := put_c w.heap.size b st 0 (fullB (UInt8.ofNat y.toNat)) w4 HD4.out HCi.out.good (by have := HCi.out.pend; omega) (Nat.le_trans HBi.out.size HB4.out.size)
      unfold PutPost at cP
      clear cF hw4
      by_cases hiN : i < N
      · obtain ⟨hq, hcs⟩ := cut_put (left := N - (i + 1)) (few := i) (by have := HCi.out; rwa [show N - i = N - (i + 1) + 1 by omega] at this) (fullB_size (UInt8.ofNat y.toNat))
        rw [hq, if_pos rfl] at cP
        have HCS := Lib.hid hcs
        clear hq hcs
        go_wp2_with fail
        refine cP.mono ?_
        rintro e w5 ⟨rfl, hd5, hb5, ho5⟩
        have HD5 := Lib.hid hd5
        have HB5 : Hid (Below w.heap.size w w5) := Lib.hid ((HBi.out.trans (HB4.out.mono HBi.out.size)).trans hb5)
        clear cP hd5 hb5 ho5
        go_wp2
        go_roundw
        case rel => exact ⟨i + 1, _, by omega, by first | rfl | go_num, by rw [← HDN.out, show min (i + 1) N = min i N + 1 by omega]; rfl, HD5.out, HCS.out, HB5.out⟩
        case measure => simp [intOf]; omega
      · obtain ⟨h1, h2, h3⟩ := cut_gone (by have := HCi.out; rwa [show N - i = 0 by omega] at this) (fullB (UInt8.ofNat y.toNat)) 0
        rw [h2, if_neg (by decide)] at cP
        clear h1 h2 h3
        go_wp2_with fail
        refine cP.mono ?_
        rintro e w5 ⟨rfl, hd5, hb5, ho5⟩
        have HD5 := Lib.hid hd5
        have HB5 : Hid (Below w.heap.size w w5) := Lib.hid ((HBi.out.trans (HB4.out.mono HBi.out.size)).trans hb5)
        clear cP hd5 hb5 ho5
        go_wp2
        go_roundw
        case rel => exact ⟨i + 1, _, by omega, by first | rfl | go_num, by rw [← HDN.out, show min (i + 1) N = min i N by omega], HD5.out, by have := HCi.out; rw [show N - i = N - (i + 1) by omega] at this; exact ⟨this.good, this.one, this.lim, this.left, Nat.le_trans this.pend (Nat.le_succ _)⟩, HB5.out⟩
        case measure => simp [intOf]; omega
    · have hge : ¬ ((i : Int) < (N : Int) + 2 + (M : Int)) := by omega
      have hmn : ((min i N : Nat) : Int) = (N : Int) := by omega
      rw [hmn]
      have HC0 : Hid (CutSt st 0 i) := Lib.hid (by have := HCi.out; rwa [show N - i = 0 by omega] at this)
      obtain ⟨h1, h2, h3⟩ := cut_gone HC0.out ⟨#[]⟩ 0
      have cC := cut_c w.heap.size b st 9 wr HDi.out
      rw [show cutSt st 9 = st by unfold cutSt; rw [h3]; rfl] at cC
      have HH1 := Lib.hid h1
      have HH3 := Lib.hid h3
      clear h1 h2 h3 hmn
      go_wp2_with fail
      refine cC.mono ?_
      rintro e w4 ⟨rfl, hd4, hb4, ho4⟩
      have HD4 := Lib.hid hd4
      have HB4 := Lib.hid (HBi.out.trans hb4)
      have cG := get_c w.heap.size b st 0 w4 hd4 HC0.out.good
      unfold GetPost at cG
      rw [HH1.out, if_neg (by decide)] at cG
      clear cC hd4 hb4 ho4
      go_wp2_with fail
      refine cG.mono ?_
      rintro e w5 ⟨hw5, rfl⟩
      subst hw5
      have cL := flush_c w.heap.size b st w4 HD4.out HC0.out.good (by have := HC0.out.pend; omega) HB4.out.size
      unfold FlushPost at cL
      rw [HH3.out, if_pos rfl, if_pos rfl] at cL
      clear cG
      go_wp2_with fail
      refine cL.mono ?_
      rintro e w5 ⟨rfl, hd5, hb5, ho5⟩
      have HD5 := Lib.hid hd5
      have HB5 := Lib.hid (HB4.out.trans hb5)
      have cR := restart_c w.heap.size b st (.slice none 0 0) [] w5 hd5 HC0.out.good (by have := HC0.out.pend; omega) (nums_nil w5) (by simp) HB5.out.size
      clear cL hd5 hb5 ho5
      go_wp2_with fail
      refine cR.mono ?_
      rintro e w6 ⟨rfl, hd6, hb6, ho6⟩
      have HD6 := Lib.hid hd6
      have HB6 := Lib.hid (HB5.out.trans hb6)
      have HG6 : Hid (Good (restartSt st [])) := Lib.hid (good_restart HC0.out.good [])
      have HN6 : Hid ((restartSt st []).now.length = 1) := Lib.hid (by rw [restart_length st HC0.out.good, HC0.out.one])
      have HA6 : Hid (askI (restartSt st []).now.length (restartSt st []).lim (restartSt st []).left 0 = 0) := Lib.hid (by rw [HN6.out]; rfl)
      have cG := get_c w.heap.size b _ 0 w6 hd6 HG6.out
      unfold GetPost at cG
      rw [HA6.out, if_pos rfl] at cG
      clear cR hd6 hb6 ho6
      go_wp2_with fail
      refine cG.mono ?_
      rintro e w7 ⟨hw7, rfl⟩
      subst hw7
      have cF := full_c 1 (by decide) (by decide) w6
      unfold FullPost at cF
      clear cG
      go_wp2_with fail
      refine cF.mono ?_
      rintro e w7 ⟨rfl, hw7⟩
      have HB7 : Hid (Below w6.heap.size w6 w7) := Lib.hid (by rw [hw7]; exact (Below.refl _ _).alloc (Nat.le_refl _) _)
      have HD7 := Lib.hid (HD6.out.below HB7.out)
      have cP := put_c w.heap.size b _ 0 (fullB (UInt8.ofNat (1 : Int).toNat)) w7 HD7.out HG6.out (by simp [restartSt]) (Nat.le_trans HB6.out.size HB7.out.size)
      unfold PutPost at cP
      rw [show putI (restartSt st []) 0 (fullB (UInt8.ofNat (1 : Int).toNat)) = 0 by unfold putI; rw [if_pos HA6.out, if_pos (fullB_size _)], if_pos rfl] at cP
      clear cF hw7
      go_wp2_with fail
      refine cP.mono ?_
      rintro e w8 ⟨rfl, hd8, hb8, ho8⟩
      have HB8 : Hid (Below w.heap.size w w8) := Lib.hid ((HB6.out.trans (HB7.out.mono HB6.out.size)).trans hb8)
      clear cP hd8 hb8 ho8
      go_wp2
      go_ret
      exact ⟨rfl, HB8.out⟩
end Go.Proofs.Ytdjfojpfnfhaiaa
