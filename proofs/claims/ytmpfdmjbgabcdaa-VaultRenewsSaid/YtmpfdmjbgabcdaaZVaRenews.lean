/-
  The law VaultRenews.
-/
import Derived.Test.YtmpfdmjbgabcdaaJ6
import Derived.Test.YtmpfdmjbgabcdaaJ4
import Derived.Test.YtmpfdmjbgabcdaaSePend
namespace Go.Proofs.Ytmpfdmjbgabcdaa
open Go.RowKit Go.Sort
set_option linter.unusedVariables false

theorem str_ne {s : ByteArray} (h : s.size ≠ 0) : s.toList.isEmpty = false := by
  rw [ByteArray.toList_eq]
  have h1 : s.data.toList.length = s.size := Array.length_toList
  cases h2 : s.data.toList with
  | nil => rw [h2] at h1; simp at h1; omega
  | cons a t => rfl
/-- Behind i appends. -/
def RnL (B b vb i : Nat) (W : World) : Prop := ∃ A rs r1 r2 st rv img, LiveR B b vb 80 40 false 1 A img rs r1 r2 false st rv W ∧ rs.length ≤ i
set_option maxHeartbeats 16000000 in
set_option maxRecDepth 100000 in
theorem renews_walk (s : ByteArray) (v : Value) (l : List OpV) (kv : Value) (kl : List Int) (hs : s.size ≤ 9223372036854775807) (w : World) (hv : OpsIs w v l) (hl : l.length ≤ 9223372036854775807) (hok : ∀ o ∈ l, OpOk o) (hk : NumsIs w kv kl) (hkl : kl.length ≤ 9223372036854775807) :
    Calls Try.prog 3 #[.string s, v, kv] w fun e w' => e = .returned (.bool true) ∧ Below w.heap.size w w' := by
  have cA := awake8_c w
  obtain ⟨av, cv, rfl⟩ := hv.len
  obtain ⟨ak, ck, rfl⟩ := hk.len
  obtain ⟨L, hL⟩ : ∃ L, l.length = L := ⟨_, rfl⟩
  obtain ⟨M, hM⟩ : ∃ M, kl.length = M := ⟨_, rfl⟩
  obtain ⟨z, hz⟩ : ∃ z, s.size = z := ⟨_, rfl⟩
  have HFW : Hid (∀ b W, (b = true ↔ Few l 20) → Below w.heap.size w W → Calls Try.prog 8 #[.slice av L cv, .int .i64 20] W fun e w' => e = .returned (.bool b) ∧ W = w') := Lib.hid (fun b W hb hW => by
    have h1 := few8_c (.slice av l.length cv) l 20 W (hv.kept hW) hl (by decide) b hb
    rw [hL] at h1
    exact h1)
  rw [hL] at hv ⊢
  rw [hM] at hk ⊢
  have HV := Lib.hid hv
  have HK := Lib.hid hk
  have HL := Lib.hid hL
  have HM := Lib.hid hM
  have HZ := Lib.hid hz
  have HKL := Lib.hid hkl
  have HOK := Lib.hid hok
  rw [hL] at hl
  rw [hM] at hkl
  clear hv hk hok
  by_cases hF : Few l 20
  · have HFEW := Lib.hid hF
    clear hF
    by_cases h3 : 300 < z
    · have h3z : (300 : Int) < (z : Int) := by omega
      go_enter Try.func3, Try.ntmps3
      go_wp2_with fail
      refine cA.mono ?_
      rintro e w1 ⟨rfl, hb1⟩
      have HB1 := Lib.hid hb1
      have cF := HFW.out true w1 ⟨fun _ => HFEW.out, fun _ => rfl⟩ hb1
      clear cA hb1
      go_wp2_with fail
      refine cF.mono ?_
      rintro e w2 ⟨rfl, hw2⟩
      subst hw2
      clear cF
      have cA2 := awake8_c w1
      go_wp2_with fail
      refine cA2.mono ?_
      rintro e w3 ⟨rfl, hb3⟩
      have HB3 := Lib.hid (HB1.out.trans (hb3.mono HB1.out.size))
      clear cA2 hb3
      go_wp2
      go_ret
      exact ⟨rfl, HB3.out⟩
    · have h3z : ¬ (300 : Int) < (z : Int) := by omega
      have h3d : decide ((300 : Int) < (z : Int)) = false := decide_eq_false h3z
      by_cases h6 : 60 < M
      · have h6z : (60 : Int) < (M : Int) := by omega
        go_enter Try.func3, Try.ntmps3
        go_wp2_with fail
        refine cA.mono ?_
        rintro e w1 ⟨rfl, hb1⟩
        have HB1 := Lib.hid hb1
        have cF := HFW.out true w1 ⟨fun _ => HFEW.out, fun _ => rfl⟩ hb1
        clear cA hb1
        go_wp2_with fail
        refine cF.mono ?_
        rintro e w2 ⟨rfl, hw2⟩
        subst hw2
        clear cF
        have cA2 := awake8_c w1
        go_wp2_with fail
        refine cA2.mono ?_
        rintro e w3 ⟨rfl, hb3⟩
        have HB3 := Lib.hid (HB1.out.trans (hb3.mono HB1.out.size))
        clear cA2 hb3
        go_wp2
        go_ret
        exact ⟨rfl, HB3.out⟩
      · have h6z : ¬ (60 : Int) < (M : Int) := by omega
        have h6d : decide ((60 : Int) < (M : Int)) = false := decide_eq_false h6z
        by_cases h0 : z = 0
        · have hs0 : s = ⟨#[]⟩ := by
            obtain ⟨⟨a⟩⟩ := s
            cases a with
            | nil => rfl
            | cons x y => have h9 : (x :: y).length = z := HZ.out; simp at h9; omega
          clear h6 h3
          subst hs0
          go_enter Try.func3, Try.ntmps3
          go_wp2_with fail
          refine cA.mono ?_
          rintro e w1 ⟨rfl, hb1⟩
          have HB1 := Lib.hid hb1
          have cF := HFW.out true w1 ⟨fun _ => HFEW.out, fun _ => rfl⟩ hb1
          clear cA hb1
          go_wp2_with fail
          refine cF.mono ?_
          rintro e w2 ⟨rfl, hw2⟩
          subst hw2
          clear cF
          have cA2 := awake8_c w1
          go_wp2_with fail
          refine cA2.mono ?_
          rintro e w3 ⟨rfl, hb3⟩
          have HB3 := Lib.hid (HB1.out.trans (hb3.mono HB1.out.size))
          clear cA2 hb3
          go_wp2
          go_ret
          exact ⟨rfl, HB3.out⟩
        · have hse := str_ne (s := s) (by rw [HZ.out]; exact h0)
          go_enter Try.func3, Try.ntmps3
          go_wp2_with fail
          refine cA.mono ?_
          rintro e w1 ⟨rfl, hb1⟩
          have HB1 := Lib.hid hb1
          have cF := HFW.out true w1 ⟨fun _ => HFEW.out, fun _ => rfl⟩ hb1
          clear cA hb1
          go_wp2_with fail
          refine cF.mono ?_
          rintro e w2 ⟨rfl, hw2⟩
          subst hw2
          clear cF
          have hN := new_c 80 w1
          unfold NewPost at hN
          rw [show sizeI 80 = 80 from rfl] at hN
          have HBE : Hid (∀ b W, Dev w.heap.size W b (stNew 80) → w.heap.size ≤ W.heap.size → Calls Try.prog 10 #[.pointer (some ⟨b, 0, none⟩), .string ⟨#[111, 108, 100]⟩] W fun e w' => ∃ vb, e = .returned (.pointer (some ⟨vb, 0, none⟩)) ∧ Below w.heap.size W w' ∧ RnL w.heap.size b vb 0 w') := Lib.hid (fun b W hd hB => by
            refine (begun_c (n := 80) (h := 40) ⟨#[111, 108, 100]⟩ hd rfl (by decide) (by decide) (by decide) (by decide) hB).mono ?_
            rintro e w' ⟨vb, rv, st', he, hb, hL, _⟩
            exact ⟨vb, he, hb, _, _, _, _, _, _, _, hL, Nat.le_refl _⟩)
          go_wp2_with fail
          refine hN.mono ?_
          rintro e w3 ⟨b, rfl, hd, hb3, ho3⟩
          have HB3 : Hid (Below w.heap.size w w3) := Lib.hid (HB1.out.trans (hb3.mono HB1.out.size))
          have HD3 := Lib.hid (hd.base HB1.out.size)
          clear hd hb3 ho3 hN
          go_wp2_with fail
          refine (HBE.out b w3 HD3.out HB3.out.size).mono ?_
          rintro e w4 ⟨vb, rfl, hb4, hr4⟩
          have HB4 : Hid (Below w.heap.size w w4) := Lib.hid (HB3.out.trans hb4)
          have HR4 := Lib.hid hr4
          clear hb4 hr4
          go_wp2
          go_loopw [9] (fun iv wr => ∃ i : Nat, i ≤ L ∧ iv = .int .i64 i ∧ RnL w.heap.size b vb i wr ∧ Below w.heap.size w wr) (fun iv _ => L - (intOf iv).toNat)
          case atStart => exact ⟨0, by omega, rfl, HR4.out, HB4.out⟩
          case round =>
            obtain ⟨i, hi, rfl, hr, hb⟩ := hrel
            have HR := Lib.hid hr
            have HB := Lib.hid hb
            clear hr hb
            have hL20 : L ≤ 20 := by have := HFEW.out.1; have := HL.out; omega
            by_cases hiL : i < L
            · have hiz : (i : Int) < (L : Int) := by omega
              obtain ⟨o, ho⟩ : ∃ o, l[i]? = some o := ⟨_, List.getElem?_eq_getElem (by rw [HL.out]; exact hiL)⟩
              obtain ⟨g, off, rfl, hg, hop⟩ := HV.out.at ho
              have HC : Hid (∀ W, Below w.heap.size w W → W.cell? ⟨g, off + i * 6 + 1, none⟩ = some (.string o.s)) := Lib.hid (fun W hW => by rw [hW.cell (p := ⟨g, _, none⟩) hg]; exact hop.c1)
              have c1 := HC.out wr HB.out
              have HAP : Hid (Calls Try.prog 11 #[.pointer (some ⟨vb, 0, none⟩), .string o.s] wr fun e w' => ∃ q : Int, e = .returned (.int .i64 q) ∧ Below w.heap.size wr w' ∧ RnL w.heap.size b vb (i + 1) w') := Lib.hid (by
                obtain ⟨A, rs, r1, r2, st, rv, img, hl1, hl2⟩ := HR.out
                have hos := (HFEW.out.2 o (List.mem_of_getElem? ho)).1
                refine (append_c o.s hl1 (by omega) (by omega) HB.out.size).mono ?_
                rintro e w' ⟨q, he, hb, _, ⟨_, _, st', rv', h5, _⟩ | ⟨_, h5, _⟩ | ⟨_, _, _, h5⟩⟩
                · exact ⟨q, he, hb, _, _, _, _, _, _, _, h5, by simp; omega⟩
                · cases h5
                · exact ⟨q, he, hb, _, _, _, _, _, _, _, h5, by omega⟩)
              clear ho hg hop
              obtain ⟨os, hos⟩ : ∃ os, o.s = os := ⟨_, rfl⟩
              rw [hos] at c1 HAP
              clear hos
              go_wp2_with fail
              refine HAP.out.mono ?_
              rintro e w5 ⟨q, rfl, hb5, hr5⟩
              have HB5 : Hid (Below w.heap.size w w5) := Lib.hid (HB.out.trans hb5)
              have HR5 := Lib.hid hr5
              clear hb5 hr5 c1
              go_wp2
              go_roundw
              case rel => exact ⟨i + 1, by omega, by first | rfl | go_num, HR5.out, HB5.out⟩
              case measure => simp [intOf]; omega
            · have hge : ¬ ((i : Int) < (L : Int)) := by omega
              have HRE : Hid (Calls Try.prog 12 #[.pointer (some ⟨vb, 0, none⟩), .string s] wr fun e w' => e = .returned (.int .i64 0) ∧ Below w.heap.size wr w' ∧ ∃ A st rv, LiveR w.heap.size b vb 80 40 true 2 A s [] [s] [] false st rv w' ∧ st.pend = []) := Lib.hid (by
                obtain ⟨A, rs, r1, r2, st, rv, img, hl1, hl2⟩ := HR.out
                have hzz := HZ.out
                have hf : fitsI 40 1 s = 0 := fits_small (by omega) (by omega) (by decide)
                refine (renew_c s hl1 (by omega) (by decide) HB.out.size).mono ?_
                rintro e w' ⟨q, he, ⟨rfl, _, hb, _, st', rv', h5, h6, _⟩ | ⟨_, _, ⟨_, h5, _⟩ | ⟨h5, _, h6, _⟩⟩⟩
                · exact ⟨he, hb, _, st', rv', h5, h6⟩
                · cases h5
                · rw [hf] at h6; exact absurd h6.symm h5)
              go_wp2_with fail
              refine HRE.out.mono ?_
              rintro e w5 ⟨rfl, hb5, A5, st5, rv5, hl5, hp5⟩
              have HB5 : Hid (Below w.heap.size w w5) := Lib.hid (HB.out.trans hb5)
              have HL5 := Lib.hid hl5
              obtain ⟨pa, pc, hpc⟩ := hl5.dev.pendCell
              rw [hp5] at hpc
              have cP := pending_c b 0 pc pa w5 hpc
              clear hb5 hpc hl5 hp5
              go_wp2_with fail
              refine cP.mono ?_
              rintro e w6 ⟨rfl, rfl⟩
              clear cP
              have HA5 : Hid (Calls Try.prog 11 #[.pointer (some ⟨vb, 0, none⟩), .string ⟨#[98, 101, 104, 105, 110, 100]⟩] w5 fun e w' => ∃ q : Int, e = .returned (.int .i64 q) ∧ Below w.heap.size w5 w' ∧ ∃ st r2, Dev w.heap.size w' b st ∧ DeadS 80 40 true 2 [s] r2 ⟨#[]⟩ st ∧ r2.length ≤ 1 ∧ (∀ x ∈ [s] ++ r2, 1 ≤ x.size ∧ x.size ≤ 60000)) := Lib.hid (by
                refine (append_c ⟨#[98, 101, 104, 105, 110, 100]⟩ HL5.out (by decide) (by simp) HB5.out.size).mono ?_
                rintro e w' ⟨q, he, hb, _, ⟨_, _, st', rv', h5, _⟩ | ⟨_, h5, _⟩ | ⟨_, _, _, h5⟩⟩
                · have hd := h5.live.dead [] ⟨#[]⟩
                  rw [List.append_nil] at hd
                  exact ⟨q, he, hb, st', _, h5.dev, hd, by simp, by rw [← h5.live.all]; exact h5.live.sizes⟩
                · cases h5
                · have hd := h5.live.dead [] ⟨#[]⟩
                  rw [List.append_nil] at hd
                  exact ⟨q, he, hb, _, _, h5.dev, hd, by simp, by rw [← h5.live.all]; exact h5.live.sizes⟩)
              go_wp2_with fail
              refine HA5.out.mono ?_
              rintro e w6 ⟨q6, rfl, hb6, st6, r26, hd6, hD6, hr6, hs6⟩
              have HB6 : Hid (Below w.heap.size w w6) := Lib.hid (HB5.out.trans hb6)
              have HD6 := Lib.hid hd6
              have HDS := Lib.hid hD6
              have HR6 := Lib.hid hr6
              have HS6 := Lib.hid hs6
              have cRS := restart_c w.heap.size b st6 (.slice ak M ck) kl w6 hd6 hD6.good (by have := hD6.pnd; omega) (HK.out.kept HB6.out) HKL.out HB6.out.size
              clear hb6 hd6 hD6 hr6 hs6
              go_wp2_with fail
              refine cRS.mono ?_
              rintro e w7 ⟨rfl, hd7, hb7, ho7⟩
              have HB7 : Hid (Below w.heap.size w w7) := Lib.hid (HB6.out.trans hb7)
              have HOP : Hid (Calls Try.prog 15 #[.pointer (some ⟨b, 0, none⟩)] w7 fun e w' => ∃ vb F S A E rv op rs, e = .returned (.tuple #[.pointer (some ⟨vb, 0, none⟩), .int .i64 0]) ∧ Below w.heap.size w7 w' ∧ VaultAt w' vb b F S A E s rv op ∧ RowAt w.heap.size w' rv rs ∧ rs.length ≤ 1) := Lib.hid (by
                obtain ⟨k', E', img', rs', hK, hE', hcase⟩ := HDS.out.kn kl rfl (by decide) (by decide) HS6.out (by simp)
                refine (reopen_c hd7 hK HB7.out.size).mono ?_
                rintro e w' ⟨vb, rv, st', he, hb, _, _, hrow, hL, _⟩
                rcases hcase with ⟨y, hy, hl⟩ | ⟨hf, _⟩
                · injection hl with e1 e2
                  subst e1 e2
                  refine ⟨vb, _, _, _, _, rv, _, rs', he, hb, hL.vlt, hL.row, ?_⟩
                  have := hy.length_le
                  have h6 := HR6.out
                  exact Nat.le_trans this h6
                · exact absurd rfl hf)
              clear cRS hd7 hb7 ho7
              go_wp2_with fail
              refine HOP.out.mono ?_
              rintro e w8 ⟨vb8, F8, S8, A8, E8, rv8, op8, rs8, rfl, hb8, hv8, hrow8, hr8⟩
              have HB8 : Hid (Below w.heap.size w w8) := Lib.hid (HB7.out.trans hb8)
              have cI := image_c hv8
              have cRC := records_c hv8 hrow8 (by omega)
              have HR8 := Lib.hid hr8
              clear hb8 hv8 hrow8 hr8
              go_wp2_with fail
              refine cI.mono ?_
              rintro e w9 ⟨rfl, rfl⟩
              clear cI
              go_wp2_with fail
              refine cRC.mono ?_
              rintro e w9 ⟨v9, rfl, hown9, hb9⟩
              have HB9 : Hid (Below w.heap.size w w9) := Lib.hid (HB8.out.trans (hb9.mono HB8.out.size))
              obtain ⟨a9, c9, hv9⟩ := (strs_owned hown9 : StrsIs w9 v9 rs8).len
              subst hv9
              have hr1 : ((rs8.length : Nat) : Int) ≤ 1 := by have := HR8.out; omega
              clear hown9 hb9 cRC
              go_wp2
              go_ret
              exact ⟨rfl, HB9.out⟩
  · have HNF := Lib.hid hF
    clear hF
    go_enter Try.func3, Try.ntmps3
    go_wp2_with fail
    refine cA.mono ?_
    rintro e w1 ⟨rfl, hb1⟩
    have HB1 := Lib.hid hb1
    have cF := HFW.out false w1 ⟨fun h => (by cases h), fun h => absurd h HNF.out⟩ hb1
    clear cA hb1
    go_wp2_with fail
    refine cF.mono ?_
    rintro e w2 ⟨rfl, hw2⟩
    subst hw2
    clear cF
    have cA2 := awake8_c w1
    go_wp2_with fail
    refine cA2.mono ?_
    rintro e w3 ⟨rfl, hb3⟩
    have HB3 := Lib.hid (HB1.out.trans (hb3.mono HB1.out.size))
    clear cA2 hb3
    go_wp2
    go_ret
    exact ⟨rfl, HB3.out⟩
end Go.Proofs.Ytmpfdmjbgabcdaa
