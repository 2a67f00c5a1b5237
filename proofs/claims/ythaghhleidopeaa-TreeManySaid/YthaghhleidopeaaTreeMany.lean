/-
  The law TreeMany, on any TreeC.
-/
import Derived.Test.YthaghhleidopeaaTreeC
namespace Go.Proofs.Ythaghhleidopeaa
open Go.RowKit Go.Sort
set_option linter.unusedVariables false

theorem two_bytes (W : World) (x y : Nat) (hx : x < 256) (hy : y < 256) (s : ByteArray) (hs : s = ⟨[UInt8.ofNat x, UInt8.ofNat y].toArray⟩) (d : Nat) : (convert 54 9 (.slice (some ⟨W.heap.size, 0, none⟩) 2 2)).run Try.prog ((W.alloc (.cells #[.int .u8 (x : Int), .int .u8 (y : Int)] 5)).drewN d) = .ok (.string s) ((W.alloc (.cells #[.int .u8 (x : Int), .int .u8 (y : Int)] 5)).drewN d) := by
  rw [hs]
  have hh : ((W.alloc (.cells #[.int .u8 (x : Int), .int .u8 (y : Int)] 5)).drewN d).heap[W.heap.size]? = some (.cells #[.int .u8 (x : Int), .int .u8 (y : Int)] 5 (0, 0)) := by
    have h0 : (W.alloc (.cells #[.int .u8 (x : Int), .int .u8 (y : Int)] 5)).heap[W.heap.size]? = some (.cells #[.int .u8 (x : Int), .int .u8 (y : Int)] 5 (0, 0)) := heap_alloc_new _ _
    exact ((below_drewN1 (Below.refl _ _) d).block _ (lt_of_get h0)).trans h0
  exact run_convert_bytes_back (P := Try.prog) _ 54 9 5 ⟨W.heap.size, 0, none⟩ 2 [UInt8.ofNat x, UInt8.ofNat y] Try.underlying54 Try.underlying5 Try.underlying9 (fun j hj => by
    rw [Addr.add_mid, Nat.zero_add, Lib.cell_of_heap hh]
    have : j = 0 ∨ j = 1 := by simp at hj; omega
    rcases this with rfl | rfl
    · simp [Nat.mod_eq_of_lt hx]
    · simp [Nat.mod_eq_of_lt hy])
set_option maxHeartbeats 16000000 in
set_option maxRecDepth 100000 in
theorem treeMany_c (T : TreeC) (a : Option Addr) (n cap : Nat) (bs : List Int) (dirs : Bool) (w : World) (hbs : bs.length = n) (hbb : ∀ x ∈ bs, 0 ≤ x ∧ x ≤ 255) (hc : n = 0 ∨ ∃ g off, a = some ⟨g, off, none⟩ ∧ g < w.heap.size ∧ ∀ j, j < n → w.cell? ⟨g, off + j, none⟩ = some (.int .u8 (bs.getD j 0))) (hn : n ≤ 9223372036854775807) :
    Calls Try.prog 5 #[.slice a n cap, .bool dirs] w fun e w' => e = .returned (.bool true) ∧ Below w.heap.size w w' := by
  have cA := awake10_c T
  have cN := new10_c
  unfold treeV at cN
  have HC := Lib.hid hc
  have HBS := Lib.hid hbs
  have HBY := Lib.hid hbb
  clear hc hbs hbb
  go_enter Try.func5, Try.ntmps5
  by_cases h20 : 20 < n
  · have h20z : (20 : Int) < (n : Int) := by omega
    have HEA := Lib.hid (fun W (hW : Below w.heap.size w W) => (cA W).mono (R' := fun e w' => e = .returned (.bool true) ∧ Below w.heap.size w w') fun e w' ⟨h1, h2⟩ => ⟨h1, hW.trans (h2.mono hW.size)⟩)
    go_wp2_with (first
      | (go_at_call 8; with_reducible refine (HEA.out w (Below.refl _ _)).mono ?_; rintro e w1 ⟨rfl, hb1⟩)
      | (go_at_call 8; refine (HEA.out _ hb1).mono ?_; rintro e w3 ⟨rfl, hb3⟩))
    go_ret
    exact ⟨rfl, hb3⟩
  · have h20z : ¬ (20 : Int) < (n : Int) := by omega
    go_upto_region 4 with (first
      | (go_at_call 8; refine (cA _).mono ?_; rintro e w1 ⟨rfl, hb1⟩)
      | (go_at_call 10; refine (T.new _).mono ?_; rintro e w2 ⟨b, S, rfl, hi2, hs2, hb2⟩)
      | (go_at_call 19; refine (cN _).mono ?_; rintro e w3 ⟨rfl, hb3⟩))
    have hx3 : Below w.heap.size w w3 := hb1.trans ((hb2.mono hb1.size).trans (hb3.mono (Nat.le_trans hb1.size hb2.size)))
    have HX : Hid (Below w.heap.size w (w3.alloc (.cells #[.slice none 0 0, .int .i64 1] 48))) := Lib.hid (hx3.alloc hx3.size _)
    have HT0 : Hid (T.Is (w3.alloc (.cells #[.slice none 0 0, .int .i64 1] 48)) b [] 1 S) := Lib.hid (T.below (T.below hi2 hb3) ((Below.refl _ w3).alloc (Nat.le_refl _) _))
    have HR0 : Hid ((w3.alloc (.cells #[.slice none 0 0, .int .i64 1] 48)).heap[w3.heap.size]? = some (.cells #[.slice none 0 0, .int .i64 1] 48 (0, 0))) := Lib.hid (heap_alloc_new _ _)
    have HS0 : Hid (∀ k, S k → w.heap.size ≤ k) := Lib.hid (fun k hk => Nat.le_trans hb1.size (hs2 k hk))
    generalize (w3.alloc (.cells #[.slice none 0 0, .int .i64 1] 48)) = W4 at *
    have hrw : w.heap.size ≤ w3.heap.size := hx3.size
    generalize w3.heap.size = r at *
    clear hx3 hb1 hb2 hb3 hi2 hs2 cA cN
    go_wp2
    go_loopw [7] (fun iv wr => ∃ (i : Nat) (L : List Itm) (nx : Int) (S : Nat → Prop) (vr : Value), i ≤ 250 ∧ iv = .int .i64 i ∧ T.Is wr b L nx S ∧ wr.heap[r]? = some (.cells #[vr, .int .i64 nx] 48 (0, 0)) ∧ ItmsT wr vr L ∧ (∀ k, S k → w.heap.size ≤ k) ∧ nx ≤ 1 + i ∧ Below w.heap.size w wr) (fun iv _ => 250 - (intOf iv).toNat)
    case atStart => exact ⟨0, [], 1, S, _, by omega, rfl, HT0.out, HR0.out, ItmsT.nil _, HS0.out, by omega, HX.out⟩
    case round =>
      clear HT0 HR0 HS0 HX
      obtain ⟨i, L, nx, S, vr, hi, rfl, his, hr, hvr, hS, hnx, hb⟩ := hrel
      have hLl := T.len his
      have hn1 := T.next his
      by_cases him : i < 250
      · have hiz : (i : Int) < 250 := by omega
        obtain ⟨x, hx⟩ : ∃ x, 97 + i % 26 = x := ⟨_, rfl⟩
        obtain ⟨y, hy⟩ : ∃ y, 97 + i / 26 = y := ⟨_, rfl⟩
        have hx2 : x < 256 := by omega
        have hy2 : y < 256 := by omega
        have ex : (97 : Int) + (i : Int) % 26 = (x : Int) := by omega
        have ex2 : (97 : Int) + (i : Int).tmod 26 = (x : Int) := by rw [Int.tmod_eq_emod_of_nonneg (by omega)]; omega
        have ey : (97 : Int) + (i : Int) / 26 = (y : Int) := by omega
        have ey2 : (97 : Int) + (i : Int).tdiv 26 = (y : Int) := by rw [Int.tdiv_eq_ediv_of_nonneg (by omega)]; omega
        have wx : IntKind.u8.wrap (x : Int) = x := by rw [IntKind.wrap_u8]; omega
        have wy : IntKind.u8.wrap (y : Int) = y := by rw [IntKind.wrap_u8]; omega
        obtain ⟨s, hs⟩ : ∃ s : ByteArray, s = ⟨[UInt8.ofNat x, UInt8.ofNat y].toArray⟩ := ⟨_, rfl⟩
        have hcv0 := two_bytes wr x y hx2 hy2 s hs 0
        have hs2 : s.size = 2 := by rw [hs]; rfl
        have HS2 := Lib.hid hs2
        have hba : Below wr.heap.size wr (wr.alloc (.cells #[.int .u8 (x : Int), .int .u8 (y : Int)] 5)) := (Below.refl _ _).alloc (Nat.le_refl _) _
        have HI := Lib.hid (T.below his hba)
        have HRa := Lib.hid ((hba.block r (lt_of_get hr)).trans hr)
        have HVa := Lib.hid (hvr.kept hba)
        have HBa := Lib.hid (hb.trans (hba.mono hb.size))
        have HSS := Lib.hid hS
        clear his hr hvr hb hS hba hs hx hy hs2
        have hcv1 : (convert 54 9 (.slice (some ⟨wr.heap.size, 0, none⟩) 2 2)).run Try.prog (wr.alloc (.cells #[.int .u8 (x : Int), .int .u8 (y : Int)] 5)) = .ok (.string s) (wr.alloc (.cells #[.int .u8 (x : Int), .int .u8 (y : Int)] 5)) := hcv0
        clear hcv0
        obtain ⟨ar, cr, rfl⟩ := HVa.out.1.len
        go_upto_region 8 with fail
        clear hcv1 ex ex2 ey ey2 wx wy
        generalize (wr.alloc (.cells #[.int .u8 (x : Int), .int .u8 (y : Int)] 5)) = Wa at *
        have cK := T.link (0 : Int) s dirs (0 : Int) HI.out (by have := HS2.out; omega) (by omega)
        have cR5' := fun W (h : ItmsT W (.slice ar L.length cr) L) => link10_c (.slice ar L.length cr) L nx (0 : Int) s dirs (0 : Int) W h (by omega) (by have := HS2.out; omega) (by omega) (by omega)
        have hqn := linkI_next L nx (0 : Int) s dirs (0 : Int)
        obtain ⟨⟨⟨L1, nx1⟩, n1, f1⟩, hQ⟩ : ∃ Q, linkI L nx (0 : Int) s dirs (0 : Int) = Q := ⟨_, rfl⟩
        rw [hQ] at cK hqn
        simp only [hQ] at cR5'
        unfold LinkPost treeV at cR5'
        simp only at cK hqn cR5'
        clear hQ
        go_upto_region 9 with (go_at_call 13; refine cK.mono ?_; rintro e w5 ⟨S5, rfl, hi5, ht5⟩)
        have HR5 := Lib.hid (T.block HI.out ht5 HRa.out (by simp))
        have HV5 := Lib.hid (T.items HI.out ht5 HVa.out)
        have hlow := ht5.low HBa.out.size HSS.out
        have HBB5 := Lib.hid (HBa.out.trans hlow.1)
        have HS5 := Lib.hid hlow.2
        have HT5 := Lib.hid hi5
        have cR5 := cR5' w5 HV5.out
        clear hi5 ht5 hlow cK cR5' HI HRa HVa HBa HSS
        obtain ⟨⟨r0, r1⟩, ⟨y0, y1⟩⟩ := two_cells HR5.out
        go_upto_region 10 with (go_at_call 24; refine cR5.mono ?_; rintro e w7 ⟨v7, rfl, hi7, hb7⟩; obtain ⟨a7, c7, hv7⟩ := hi7.1.len; have HI7 := Lib.hid hi7; have HB7 := Lib.hid hb7; clear hi7 hb7; subst hv7)
        clear r0 r1 y0 y1 cR5
        have hq7 : (w7.alloc (.cells #[.slice a7 (L1).length c7, .int .i64 nx1] 48)).heap[w7.heap.size]? = some (.cells #[.slice a7 (L1).length c7, .int .i64 nx1] 48 (0, 0)) := heap_alloc_new _ _
        have HB8 : Hid (Below (w5).heap.size (w5) (w7.alloc (.cells #[.slice a7 (L1).length c7, .int .i64 nx1] 48))) := Lib.hid (HB7.out.alloc HB7.out.size _)
        have HI8 : Hid (ItmsT (w7.alloc (.cells #[.slice a7 (L1).length c7, .int .i64 nx1] 48)) (.slice a7 (L1).length c7) (L1)) := Lib.hid (HI7.out.kept ((Below.refl _ _).alloc (Nat.le_refl _) _))
        generalize (w7.alloc (.cells #[.slice a7 (L1).length c7, .int .i64 nx1] 48)) = W8 at *
        generalize w7.heap.size = q7 at *
        have hr8 := (HB8.out.block r (lt_of_get HR5.out)).trans HR5.out
        have HI9 : Hid (T.Is ((W8.setCell ⟨r, 0, none⟩ (.slice a7 (L1).length c7)).setCell ⟨r, 1, none⟩ (.int .i64 nx1)) b (L1) nx1 S5) := Lib.hid (T.set2 (T.below HT5.out HB8.out) hr8 _ _)
        have HR9 := Lib.hid (put_tree2 hr8 HI8.out (nx8 := nx1)).1
        have HV9 := Lib.hid (put_tree2 hr8 HI8.out (nx8 := nx1)).2
        have HB9 : Hid (Below w.heap.size w ((W8.setCell ⟨r, 0, none⟩ (.slice a7 (L1).length c7)).setCell ⟨r, 1, none⟩ (.int .i64 nx1))) := Lib.hid (below_two (HBB5.out.trans (HB8.out.mono HBB5.out.size)) hrw)
        obtain ⟨⟨r0, r1⟩, ⟨y0, y1⟩⟩ := two_cells hr8
        obtain ⟨⟨q0, q1⟩, _⟩ := two_cells hq7
        clear hr8 hq7
        go_upto_region 11 with fail
        generalize (W8.setCell ⟨r, 0, none⟩ (.slice a7 (L1).length c7)).setCell ⟨r, 1, none⟩ (.int .i64 nx1) = W9 at *
        clear r0 r1 y0 y1 q0 q1
        go_wp2
        go_roundw
        case rel => exact ⟨i + 1, L1, nx1, S5, _, by omega, by first | rfl | go_num, HI9.out, HR9.out, HV9.out, HS5.out, by omega, HB9.out⟩
        case measure => simp [intOf]; omega
      · have hiz : ¬ (i : Int) < 250 := by omega
        obtain rfl : i = 250 := by omega
        have HI0 := Lib.hid his
        have HR0 := Lib.hid hr
        have HV0 := Lib.hid hvr
        have HS0 := Lib.hid hS
        have HB0 := Lib.hid hb
        have hnx0 : nx ≤ 251 := by omega
        clear his hr hvr hS hb hnx hLl hn1
        obtain ⟨W0, hW0⟩ : ∃ W, W = wr := ⟨_, rfl⟩
        subst hW0
        go_wp2
        go_loopw [14] (fun iv wr => ∃ (i : Nat) (L : List Itm) (nx : Int) (S : Nat → Prop) (vr : Value), i ≤ n ∧ iv = .int .i64 i ∧ T.Is wr b L nx S ∧ wr.heap[r]? = some (.cells #[vr, .int .i64 nx] 48 (0, 0)) ∧ ItmsT wr vr L ∧ (∀ k, S k → w.heap.size ≤ k) ∧ nx ≤ 251 + 2 * i ∧ Below w.heap.size w wr) (fun iv _ => n - (intOf iv).toNat)
        case atStart => exact ⟨0, L, nx, S, vr, by omega, rfl, HI0.out, HR0.out, HV0.out, HS0.out, by omega, HB0.out⟩
        case round =>
          clear HI0 HR0 HV0 HS0 HB0 hnx0
          obtain ⟨i, L, nx, S, vr, hi, rfl, his, hr, hvr, hS, hnx, hb⟩ := hrel
          have hLl := T.len his
          have hn1 := T.next his
          by_cases him : i < n
          · have hiz : (i : Int) < (n : Int) := by omega
            obtain ⟨g, off, ha, hg, hcell⟩ := HC.out.resolve_left (by omega)
            subst ha
            have hc0 := hcell i him
            have hmm : bs.getD i 0 ∈ bs := by rw [List.getD_eq_getElem?_getD, List.getElem?_eq_getElem (by rw [HBS.out]; omega)]; exact List.getElem_mem _
            obtain ⟨c, hc⟩ : ∃ c : Nat, bs.getD i 0 = (c : Int) := ⟨(bs.getD i 0).toNat, by have := HBY.out _ hmm; omega⟩
            have hc255 : c ≤ 255 := by have := HBY.out _ hmm; omega
            rw [hc] at hc0
            obtain ⟨x, hx⟩ : ∃ x, 97 + c % 26 = x := ⟨_, rfl⟩
            obtain ⟨y, hy⟩ : ∃ y, 97 + c / 26 = y := ⟨_, rfl⟩
            have hx2 : x < 256 := by omega
            have hy2 : y < 256 := by omega
            have ex : (97 : Int) + (c : Int) % 26 = (x : Int) := by omega
            have ex2 : (97 : Int) + (c : Int).tmod 26 = (x : Int) := by rw [Int.tmod_eq_emod_of_nonneg (by omega)]; omega
            have ey : (97 : Int) + (c : Int) / 26 = (y : Int) := by omega
            have ey2 : (97 : Int) + (c : Int).tdiv 26 = (y : Int) := by rw [Int.tdiv_eq_ediv_of_nonneg (by omega)]; omega
            have wx : IntKind.u8.wrap (x : Int) = x := by rw [IntKind.wrap_u8]; omega
            have wy : IntKind.u8.wrap (y : Int) = y := by rw [IntKind.wrap_u8]; omega
            have wcx : IntKind.u8.wrap ((c : Int).tmod 26) = (c : Int).tmod 26 := by rw [Int.tmod_eq_emod_of_nonneg (by omega), IntKind.wrap_u8]; omega
            have wcy : IntKind.u8.wrap ((c : Int).tdiv 26) = (c : Int).tdiv 26 := by rw [Int.tdiv_eq_ediv_of_nonneg (by omega), IntKind.wrap_u8]; omega
            obtain ⟨s, hs⟩ : ∃ s : ByteArray, s = ⟨[UInt8.ofNat x, UInt8.ofNat y].toArray⟩ := ⟨_, rfl⟩
            have hs2 : s.size = 2 := by rw [hs]; rfl
            have hcvA : (convert 54 9 (.slice (some ⟨wr.heap.size, 0, none⟩) 2 2)).run Try.prog (wr.alloc (.cells #[.int .u8 (x : Int), .int .u8 (y : Int)] 5)).drew = .ok (.string s) (wr.alloc (.cells #[.int .u8 (x : Int), .int .u8 (y : Int)] 5)).drew := two_bytes wr x y hx2 hy2 s hs 1
            have hcvB : (convert 54 9 (.slice (some ⟨wr.heap.size, 0, none⟩) 2 2)).run Try.prog (wr.drew.alloc (.cells #[.int .u8 (x : Int), .int .u8 (y : Int)] 5)) = .ok (.string s) (wr.drew.alloc (.cells #[.int .u8 (x : Int), .int .u8 (y : Int)] 5)) := two_bytes wr.drew x y hx2 hy2 s hs 0
            have c0 : wr.cell? ⟨g, off + i, none⟩ = some (.int .u8 (c : Int)) := (hb.cell (p := ⟨g, off + i, none⟩) hg).trans hc0
            have c1 : wr.drew.cell? ⟨g, off + i, none⟩ = some (.int .u8 (c : Int)) := c0
            have HHS : Hid (s.size = 2) := Lib.hid hs2
            have HI := Lib.hid his
            have HRa := Lib.hid hr
            have HVa := Lib.hid hvr
            have HBa := Lib.hid hb
            have HSS := Lib.hid hS
            clear his hr hvr hb hS hs hx hy hs2 hc hmm hcell hc0 hg c0
            go_upto_region 16 with fail
            go_cut [15] from 71 to 90 (fun v15 wx => v15 = .string s ∧ Below wr.heap.size wr wx)
            case first =>
              go_big_region
              all_goals
                (try go_wp2)
                go_meet
                first
                  | exact ⟨rfl, ((Below.refl _ _).alloc (Nat.le_refl _) _).drew⟩
                  | exact ⟨rfl, (Below.refl _ _).drew.alloc (Nat.le_refl _) _⟩
            case rest =>
              obtain ⟨h15, hba⟩ := hcut
              subst h15
              obtain ⟨ar, cr, rfl⟩ := HVa.out.1.len
              have HT4 := Lib.hid (T.below HI.out hba)
              have HR4 := Lib.hid ((hba.block r (lt_of_get HRa.out)).trans HRa.out)
              have HV4 := Lib.hid (HVa.out.kept hba)
              have HBB4 := Lib.hid (HBa.out.trans (hba.mono HBa.out.size))
              clear hba HI HRa HVa HBa
              have cR4 := unlink10_c (.slice ar L.length cr) L nx (0 : Int) s dirs wc HV4.out (by omega)
              have cU' := fun W S (h : T.Is W b L nx S) => T.unlink (0 : Int) s dirs h
              have hqn := unlinkI_next L nx (0 : Int) s dirs
              obtain ⟨⟨⟨L1, nx1⟩, f1⟩, hQ⟩ : ∃ Q, unlinkI L nx (0 : Int) s dirs = Q := ⟨_, rfl⟩
              rw [hQ] at cR4 hqn
              simp only [hQ] at cU'
              unfold UnPost treeV at cR4
              simp only at cR4 hqn cU'
              clear hQ
              obtain ⟨⟨r0, r1⟩, ⟨y0, y1⟩⟩ := two_cells HR4.out
              go_upto_region 18 with (go_at_call 25; refine cR4.mono ?_; rintro e w7 ⟨v7, rfl, hi7, hb7⟩; obtain ⟨a7, c7, hv7⟩ := hi7.1.len; have HI7 := Lib.hid hi7; have HB7 := Lib.hid hb7; clear hi7 hb7; subst hv7)
              clear r0 r1 y0 y1 cR4
              have hq7 : (w7.alloc (.cells #[.slice a7 (L1).length c7, .int .i64 nx1] 48)).heap[w7.heap.size]? = some (.cells #[.slice a7 (L1).length c7, .int .i64 nx1] 48 (0, 0)) := heap_alloc_new _ _
              have HB8 : Hid (Below (wc).heap.size (wc) (w7.alloc (.cells #[.slice a7 (L1).length c7, .int .i64 nx1] 48))) := Lib.hid (HB7.out.alloc HB7.out.size _)
              have HI8 : Hid (ItmsT (w7.alloc (.cells #[.slice a7 (L1).length c7, .int .i64 nx1] 48)) (.slice a7 (L1).length c7) (L1)) := Lib.hid (HI7.out.kept ((Below.refl _ _).alloc (Nat.le_refl _) _))
              generalize (w7.alloc (.cells #[.slice a7 (L1).length c7, .int .i64 nx1] 48)) = W8 at *
              generalize w7.heap.size = q7 at *
              have hr8 := (HB8.out.block r (lt_of_get HR4.out)).trans HR4.out
              have HI9 : Hid (T.Is ((W8.setCell ⟨r, 0, none⟩ (.slice a7 (L1).length c7)).setCell ⟨r, 1, none⟩ (.int .i64 nx1)) b (L) nx S) := Lib.hid (T.set2 (T.below HT4.out HB8.out) hr8 _ _)
              have HR9 := Lib.hid (put_tree2 hr8 HI8.out (nx8 := nx1)).1
              have HV9 := Lib.hid (put_tree2 hr8 HI8.out (nx8 := nx1)).2
              have HB9 : Hid (Below w.heap.size w ((W8.setCell ⟨r, 0, none⟩ (.slice a7 (L1).length c7)).setCell ⟨r, 1, none⟩ (.int .i64 nx1))) := Lib.hid (below_two (HBB4.out.trans (HB8.out.mono HBB4.out.size)) hrw)
              obtain ⟨⟨r0, r1⟩, ⟨y0, y1⟩⟩ := two_cells hr8
              obtain ⟨⟨q0, q1⟩, _⟩ := two_cells hq7
              clear hr8 hq7
              go_upto_region 19 with fail
              generalize (W8.setCell ⟨r, 0, none⟩ (.slice a7 (L1).length c7)).setCell ⟨r, 1, none⟩ (.int .i64 nx1) = W9 at *
              clear r0 r1 y0 y1 q0 q1
              have cU := cU' W9 S HI9.out
              clear cU'
              go_upto_region 21 with (go_at_call 14; refine cU.mono ?_; rintro e w6 ⟨S6, rfl, hi6, ht6⟩)
              have HRa := Lib.hid (T.block HI9.out ht6 HR9.out (by simp))
              have HVa := Lib.hid (T.items HI9.out ht6 HV9.out)
              have hlow := ht6.low HB9.out.size HSS.out
              have HBa := Lib.hid (HB9.out.trans hlow.1)
              have HSa := Lib.hid hlow.2
              have HIa := Lib.hid hi6
              clear hi6 ht6 hlow cU HI9 HR9 HV9 HB9 HT4 HR4 HV4 HBB4 HI7 HB7 HB8 HI8
              obtain ⟨s2, hs2⟩ : ∃ t, s ++ (⟨#[120]⟩ : ByteArray) = t := ⟨_, rfl⟩
              have HS3 : Hid (s2.size = 3) := Lib.hid (by rw [← hs2, ByteArray.size_append, HHS.out]; rfl)
              have hadd : ¬ (9223372036854775807 < s.size + 1) := by have := HHS.out; omega
              have hL1 := T.len HIa.out
              have hn2 := T.next HIa.out
              have cK := T.link (0 : Int) s2 dirs (0 : Int) HIa.out (by have := HS3.out; omega) (by omega)
              have cR5' := fun W (h : ItmsT W (.slice a7 L1.length c7) L1) => link10_c (.slice a7 L1.length c7) L1 nx1 (0 : Int) s2 dirs (0 : Int) W h (by omega) (by have := HS3.out; omega) (by omega) (by omega)
              have hqn2 := linkI_next L1 nx1 (0 : Int) s2 dirs (0 : Int)
              obtain ⟨⟨⟨L2, nx2⟩, n2, f2⟩, hQ⟩ : ∃ Q, linkI L1 nx1 (0 : Int) s2 dirs (0 : Int) = Q := ⟨_, rfl⟩
              rw [hQ] at cK hqn2
              simp only [hQ] at cR5'
              unfold LinkPost treeV at cR5'
              simp only at cK hqn2 cR5'
              clear hQ
              go_upto_region 22 with (go_at_call 13; refine cK.mono ?_; rintro e w5 ⟨S5, rfl, hi5, ht5⟩)
              have HR5 := Lib.hid (T.block HIa.out ht5 HRa.out (by simp))
              have HV5 := Lib.hid (T.items HIa.out ht5 HVa.out)
              have hlow := ht5.low HBa.out.size HSa.out
              have HBB5 := Lib.hid (HBa.out.trans hlow.1)
              have HS5 := Lib.hid hlow.2
              have HT5 := Lib.hid hi5
              have cR5 := cR5' w5 HV5.out
              clear hi5 ht5 hlow cK cR5' HIa HRa HVa HBa HSS HSa
              obtain ⟨⟨r0, r1⟩, ⟨y0, y1⟩⟩ := two_cells HR5.out
              go_upto_region 23 with (go_at_call 24; refine cR5.mono ?_; rintro e w7 ⟨v7, rfl, hi7, hb7⟩; obtain ⟨a17, c17, hv7⟩ := hi7.1.len; have HI7 := Lib.hid hi7; have HB7 := Lib.hid hb7; clear hi7 hb7; subst hv7)
              clear r0 r1 y0 y1 cR5
              have hq17 : (w7.alloc (.cells #[.slice a17 (L2).length c17, .int .i64 nx2] 48)).heap[w7.heap.size]? = some (.cells #[.slice a17 (L2).length c17, .int .i64 nx2] 48 (0, 0)) := heap_alloc_new _ _
              have HB8 : Hid (Below (w5).heap.size (w5) (w7.alloc (.cells #[.slice a17 (L2).length c17, .int .i64 nx2] 48))) := Lib.hid (HB7.out.alloc HB7.out.size _)
              have HI8 : Hid (ItmsT (w7.alloc (.cells #[.slice a17 (L2).length c17, .int .i64 nx2] 48)) (.slice a17 (L2).length c17) (L2)) := Lib.hid (HI7.out.kept ((Below.refl _ _).alloc (Nat.le_refl _) _))
              generalize (w7.alloc (.cells #[.slice a17 (L2).length c17, .int .i64 nx2] 48)) = W18 at *
              generalize w7.heap.size = q17 at *
              have hr8 := (HB8.out.block r (lt_of_get HR5.out)).trans HR5.out
              have HI9 : Hid (T.Is ((W18.setCell ⟨r, 0, none⟩ (.slice a17 (L2).length c17)).setCell ⟨r, 1, none⟩ (.int .i64 nx2)) b (L2) nx2 S5) := Lib.hid (T.set2 (T.below HT5.out HB8.out) hr8 _ _)
              have HR9 := Lib.hid (put_tree2 hr8 HI8.out (nx8 := nx2)).1
              have HV9 := Lib.hid (put_tree2 hr8 HI8.out (nx8 := nx2)).2
              have HB9 : Hid (Below w.heap.size w ((W18.setCell ⟨r, 0, none⟩ (.slice a17 (L2).length c17)).setCell ⟨r, 1, none⟩ (.int .i64 nx2))) := Lib.hid (below_two (HBB5.out.trans (HB8.out.mono HBB5.out.size)) hrw)
              obtain ⟨⟨r0, r1⟩, ⟨y0, y1⟩⟩ := two_cells hr8
              obtain ⟨⟨q0, q1⟩, _⟩ := two_cells hq17
              clear hr8 hq17
              go_upto_region 24 with fail
              generalize (W18.setCell ⟨r, 0, none⟩ (.slice a17 (L2).length c17)).setCell ⟨r, 1, none⟩ (.int .i64 nx2) = W19 at *
              clear r0 r1 y0 y1 q0 q1
              go_wp2
              go_roundw
              case rel => exact ⟨i + 1, L2, nx2, S5, _, by omega, by first | rfl | go_num, HI9.out, HR9.out, HV9.out, HS5.out, by omega, HB9.out⟩
              case measure => simp [intOf]; omega
          · have hiz : ¬ (i : Int) < (n : Int) := by omega
            obtain ⟨ar, cr, rfl⟩ := hvr.1.len
            have cE := alike10_c T (.slice ar L.length cr) his hvr
            unfold treeV at cE
            obtain ⟨⟨r0, r1⟩, _⟩ := two_cells hr
            have HBQ := Lib.hid hb
            go_wp2_with (go_at_call 23; refine cE.mono ?_; rintro e w9 ⟨rfl, hb9⟩)
            go_ret
            exact ⟨rfl, HBQ.out.trans (hb9.mono HBQ.out.size)⟩
end Go.Proofs.Ythaghhleidopeaa
