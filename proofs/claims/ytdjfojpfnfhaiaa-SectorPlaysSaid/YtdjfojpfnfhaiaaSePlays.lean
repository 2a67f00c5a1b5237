/-
  The law SectorPlays of stage 6, walked: it answers true; what lay in memory stays.
-/
import Derived.Test.YtdjfojpfnfhaiaaSeOps
namespace Go.Proofs.Ytdjfojpfnfhaiaa
open Go.RowKit Go.Sort
set_option linter.unusedVariables false

theorem Ref.base {B B' : Nat} {w : World} {r : Nat} {st : St} (h : Ref B w r st) (hB : B' ≤ B) : Ref B' w r st := by
  obtain ⟨vs, ve, va, vd, h⟩ := h
  exact ⟨vs, ve, va, vd, Nat.le_trans hB h.hB, h.hd, own_base h.sf hB, own_base h.sn hB, own_base h.ta hB, own_base h.td hB, h.d1, h.d2, h.d3, h.nnil⟩
theorem Ref.offDev {B : Nat} {w w' : World} {r : Nat} {st : St} (h : Ref B w r st) (ho : Off devTs w w') : Ref B w' r st := h.off ho (by decide) (by decide) (by decide)
theorem Dev.offRef {B : Nat} {w w' : World} {b : Nat} {st : St} (h : Dev B w b st) (ho : Off refTs w w') : Dev B w' b st := h.off ho (by decide) (by decide) (by decide)
/-- What both devices hold alike. -/
structure Both (B : Nat) (w0 w : World) (b r n few : Nat) (st : St) : Prop where
  dev : Dev B w b st
  ref : Ref B w r st
  good : Good st
  len : st.now.length = n
  pend : st.pend.length ≤ few
  below : Below B w0 w
theorem put_same {st : St} (hg : Good st) {n few : Nat} (hl : st.now.length = n) (hp : st.pend.length ≤ few) (I : Int) (s : ByteArray) : Good (if putI st I s = 0 then putSt st I.toNat s else st) ∧ (if putI st I s = 0 then putSt st I.toNat s else st).now.length = n ∧ (if putI st I s = 0 then putSt st I.toNat s else st).pend.length ≤ few + 1 := by
  by_cases h : putI st I s = 0
  · rw [if_pos h]
    have h1 : askI st.now.length st.lim st.left I = 0 := by
      unfold putI at h
      split at h
      · assumption
      · exact absurd h ‹_›
    have h2 : s.size = 64 := by
      unfold putI at h
      rw [if_pos h1] at h
      split at h
      · assumption
      · cases h
    obtain ⟨k, rfl, hk⟩ := ask_zero h1
    rw [Int.toNat_natCast]
    exact ⟨good_put hg h1 h2, by simp [putSt, hl], by simp [putSt]; omega⟩
  · rw [if_neg h]
    exact ⟨hg, hl, by omega⟩
theorem cut_same (st : St) (N : Int) : (cutSt st N).now.length = st.now.length ∧ (cutSt st N).pend = st.pend := by
  unfold cutSt
  split <;> exact ⟨rfl, rfl⟩
theorem nums_nil6 (w : World) : NumsIs w (.slice none 0 0) [] := Or.inl ⟨rfl, none, 0, rfl⟩
theorem ask_ok6 {st : St} {n k : Nat} (hl : st.now.length = n) (h : st.lim = false) (hk : k < n) : askI st.now.length st.lim st.left k = 0 := by
  unfold askI
  rw [hl, h, if_neg (by simp), if_neg (by omega)]
theorem size_few {x : Int} (h1 : x ≤ 30) : sizeI x = x.toNat := by unfold sizeI; omega
set_option maxHeartbeats 16000000 in
set_option maxRecDepth 100000 in
theorem plays6_walk (x : Int) (hx0 : -128 ≤ x) (hx1 : x ≤ 127) (v : Value) (l : List OpV) (w : World) (hv : OpsIs w v l) (hok : ∀ o ∈ l, OpOk o) (hlm : l.length ≤ 9223372036854775807) :
    Calls Try.prog 3 #[.int .i8 x, v] w fun e w' => e = .returned (.bool true) ∧ Below w.heap.size w w' := by
  have cA := awake6_c w
  obtain ⟨a, cap, rfl⟩ := hv.len
  obtain ⟨L, hL⟩ : ∃ L, l.length = L := ⟨_, rfl⟩
  have HV := Lib.hid hv
  have HL := Lib.hid hL
  have HOK := Lib.hid hok
  have HFW : Hid (∀ (b : Bool) (W : World), (b = true ↔ Few l) → Below w.heap.size w W → Calls Try.prog 7 #[.slice a l.length cap] W (fun e w' => e = .returned (.bool b) ∧ W = w')) := Lib.hid (fun b W hb hW => few_c _ l W (HV.out.kept hW) (by rw [HL.out] at *; omega) b hb)
  rw [hL] at hlm ⊢
  rw [HL.out] at HFW
  clear hv hL hok
  have hxw : IntKind.i64.wrap x = x := by rw [IntKind.wrap_i64]; omega
  by_cases hF : Few l
  · have HFEW := Lib.hid hF
    clear hF
    by_cases hx30 : x ≤ 30
    · skip
      have HX := Lib.hid hx30
      have hxn : ¬ ((30 : Int) < x) := by omega
      go_enter Try.func3, Try.ntmps3
      go_wp2_with fail
      refine cA.mono ?_
      rintro e w1 ⟨rfl, hb1⟩
      have HB1 := Lib.hid hb1
      have cF := HFW.out true w1 ⟨fun _ => HFEW.out, fun _ => rfl⟩ hb1
      clear cA hb1
      go_wp2_with fail
      refine cF.mono ?_
      rintro e w2 ⟨rfl, hw2⟩
      subst hw2
      clear cF
      have cN := new_c x w1
      unfold NewPost at cN
      rw [size_few HX.out] at cN
      go_wp2_with fail
      refine cN.mono ?_
      rintro e w2 ⟨b, rfl, hd2, hb2, ho2⟩
      have HD2 := Lib.hid (hd2.base HB1.out.size)
      have HB2 := Lib.hid (HB1.out.trans (hb2.mono HB1.out.size))
      clear cN hd2 hb2 ho2
      have cN := rnew_c x x.toNat rfl (by have := HX.out; omega) w2
      unfold RNewPost at cN
      go_wp2_with fail
      refine cN.mono ?_
      rintro e w3 ⟨r, rfl, hr3, hb3⟩
      obtain ⟨n, hn⟩ : ∃ n, x.toNat = n := ⟨_, rfl⟩
      have HNN : Hid (n ≤ 30) := Lib.hid (by have := HX.out; omega)
      have HB3 : Hid (Both w.heap.size w w3 b r n 0 (stNew n)) := Lib.hid ⟨by rw [← hn]; exact HD2.out.below hb3, by rw [← hn]; exact hr3.base HB2.out.size, goodNew n (by have := HNN.out; omega), by simp [stNew], Nat.le_refl _, HB2.out.trans (hb3.mono HB2.out.size)⟩
      clear cN hr3 hb3 hn HD2 HB2 HB1
      go_wp2_with fail
      go_loopw [7] (fun iv wr => ∃ (i : Nat) (st : St), i ≤ L ∧ iv = .int .i64 i ∧ Both w.heap.size w wr b r n i st) (fun iv _ => L - (intOf iv).toNat)
      case atStart => exact ⟨0, _, by omega, rfl, HB3.out⟩
      case round =>
        obtain ⟨i, st, hi, rfl, hbo⟩ := hrel
        have HBO := Lib.hid hbo
        clear HB3 hbo
        by_cases hin : i < L
        · have hiz : (i : Int) < (L : Int) := by omega
          have hi150 : i < 150 := by have := HFEW.out.1; have := HL.out; omega
          obtain ⟨o, ho⟩ : ∃ o, l[i]? = some o := ⟨_, List.getElem?_eq_getElem (by rw [HL.out]; exact hin)⟩
          have HMO : Hid (o ∈ l) := Lib.hid (List.mem_of_getElem? ho)
          have hvr := HV.out.kept HBO.out.below
          rw [HL.out] at hvr
          obtain ⟨g, off, rfl, hg, hop⟩ := hvr.at ho
          have HOO := HOK.out o HMO.out
          have HFO := HFEW.out.2 o HMO.out
          have hnk : NumsIs w o.kv o.l := by
            obtain ⟨g', off', _, _, hop'⟩ := (by have := HV.out; rw [HL.out] at this; exact this : OpsIs w (.slice (some ⟨g, off, none⟩) L cap) l).at ho
            exact hop'.nums
          clear ho hvr hg
          rcases o with ⟨X, I, N, s, kv, kl⟩
          obtain ⟨ak, ck, hkv⟩ := hnk.len
          simp only at hkv
          obtain ⟨kn, hkn⟩ : ∃ kn, kl.length = kn := ⟨_, rfl⟩
          rw [hkn] at hkv
          subst hkv
          clear hkn
          obtain ⟨c0, c1, c2, c3, c4, _⟩ := hop
          simp only at c0 c1 c2 c3 c4
          obtain ⟨hX0, hX1, hN0, hN1⟩ := HOO
          simp only at hX0 hX1 hN0 hN1
          have HNK : Hid (NumsIs w (.slice ak kn ck) kl) := Lib.hid hnk
          have HKL : Hid (kl.length ≤ 100) := Lib.hid HFO.2
          have HXX : Hid (0 ≤ X ∧ X ≤ 255 ∧ -9223372036854775808 ≤ N ∧ N ≤ 9223372036854775807) := Lib.hid ⟨hX0, hX1, hN0, hN1⟩
          have HB4 : Hid (Both w.heap.size w (wr.alloc (.cells #[.int .u8 X, .int .i64 I, .int .i64 N, .string s, .slice ak kn ck] 32)) b r n i st) := Lib.hid ⟨HBO.out.dev.off (ex := []) ((Off.refl _ wr).alloc _) (by simp) (by simp) (by simp), HBO.out.ref.off (ex := []) ((Off.refl _ wr).alloc _) (by simp) (by simp) (by simp), HBO.out.good, HBO.out.len, HBO.out.pend, HBO.out.below.alloc HBO.out.below.size _⟩
          have HT4 : Hid ((wr.alloc (.cells #[.int .u8 X, .int .i64 I, .int .i64 N, .string s, .slice ak kn ck] 32)).heap[wr.heap.size]? = some (.cells #[.int .u8 X, .int .i64 I, .int .i64 N, .string s, .slice ak kn ck] 32 (0, 0))) := Lib.hid (heap_alloc_new _ _)
          clear HFO hnk hN0 hN1 HMO
          go_upto_region 9 with fail
          clear c0 c1 c2 c3 c4
          generalize wr.heap.size = ob at *
          generalize wr.alloc (.cells #[.int .u8 X, .int .i64 I, .int .i64 N, .string s, .slice ak kn ck] 32) = w4 at *
          clear HBO
          have HQ : Hid (∀ W : World, W.heap[ob]? = some (.cells #[.int .u8 X, .int .i64 I, .int .i64 N, .string s, .slice ak kn ck] 32 (0, 0)) → W.cell? ⟨ob, 0, none⟩ = some (.int .u8 X) ∧ W.cell? ⟨ob, 1, none⟩ = some (.int .i64 I) ∧ W.cell? ⟨ob, 2, none⟩ = some (.int .i64 N) ∧ W.cell? ⟨ob, 3, none⟩ = some (.string s) ∧ W.cell? ⟨ob, 4, none⟩ = some (.slice ak kn ck)) := Lib.hid (fun W h => by refine ⟨?_, ?_, ?_, ?_, ?_⟩ <;> (rw [cell_of_row W ob _ _ _ _ h]; rfl))
          obtain ⟨q0, q1, q2, q3, q4⟩ := HQ.out w4 HT4.out
          obtain ⟨κ, hκ, hκ5⟩ : ∃ κ : Int, X % 5 = κ ∧ (κ = 0 ∨ κ = 1 ∨ κ = 2 ∨ κ = 3 ∨ κ = 4) := ⟨X % 5, rfl, by omega⟩
          rcases hκ5 with rfl | rfl | rfl | rfl | rfl
          · have hXT : X.tmod 5 = 0 := by rw [Int.tmod_eq_emod_of_nonneg HXX.out.1]; exact hκ
            have cP := put_c w.heap.size b st I s w4 HB4.out.dev HB4.out.good (by have := HB4.out.pend; omega) HB4.out.below.size
            unfold PutPost at cP
            have cD9 : Hid (∀ W : World, Ref w.heap.size W r st → w.heap.size ≤ W.heap.size → _) := Lib.hid (fun W hW hs => do0_c (X := X) (I := I) (N := N) (s := s) (kv := .slice ak kn ck) hW HB4.out.good hs HXX.out.1 hκ (by have := HB4.out.pend; omega))
            obtain ⟨g2, l2, p2⟩ := put_same HB4.out.good HB4.out.len HB4.out.pend I s
            generalize (if putI st I s = 0 then putSt st I.toNat s else st) = st2 at *
            generalize putI st I s = code at *
            have HG2 := Lib.hid g2
            have HL2 := Lib.hid l2
            have HP2 := Lib.hid p2
            clear g2 l2 p2
            go_wp2_with fail
            refine cP.mono ?_
            rintro e w5 ⟨rfl, hd5, hb5, ho5⟩
            have HT5 : Hid (w5.heap[ob]? = some (.cells #[.int .u8 X, .int .i64 I, .int .i64 N, .string s, .slice ak kn ck] 32 (0, 0))) := Lib.hid (ho5 _ (by decide) _ _ _ HT4.out)
            have HD5 := Lib.hid hd5
            have HB5 := Lib.hid (HB4.out.below.trans hb5)
            have HR5 := Lib.hid (HB4.out.ref.offDev ho5)
            clear cP hd5 hb5 ho5
            obtain ⟨p0, p1, p2, p3, p4⟩ := HQ.out w5 HT5.out
            have cD := cD9.out w5 HR5.out HB5.out.size
            unfold DoPost at cD
            clear q0 q1 q2 q3 q4
            go_wp2_with fail
            refine cD.mono ?_
            rintro e w6 ⟨rfl, hr6, hb6, ho6⟩
            have HB6 : Hid (Both w.heap.size w w6 b r n (i + 1) st2) := Lib.hid ⟨HD5.out.offRef ho6, hr6, HG2.out, HL2.out, HP2.out, HB5.out.trans hb6⟩
            clear cD hr6 hb6 ho6 p0 p1 p2 p3 p4
            obtain ⟨vs, ve, va, vd, hrl⟩ := HB6.out.ref
            obtain ⟨t0, t1, t2, t3, t4⟩ := hrl.cells
            obtain ⟨aa, capa, hva, _⟩ := own_form hrl.ta
            rw [ats_len] at hva
            obtain ⟨ge, cape, hve⟩ := hrl.nnil
            rw [HB6.out.len] at hve
            subst hva hve
            obtain ⟨m, hm⟩ : ∃ m, st2.pend.length = m := ⟨_, rfl⟩
            rw [hm] at t2
            have u2 : w6.drew.cell? ⟨r, 2, none⟩ = some (.slice aa m capa) := t2
            have u1 : w6.drew.cell? ⟨r, 1, none⟩ = some (.slice (some ⟨ge, 0, none⟩) n cape) := t1
            have HPN : Hid (∀ q, Calls Try.prog 16 #[.pointer (some ⟨b, 0, none⟩)] (w6.drewN q) fun e w' => e = .returned (.int .i64 m) ∧ w6.drewN q = w') := Lib.hid (fun q => by
              obtain ⟨a9, c9, h9⟩ := (HB6.out.dev.off (ex := []) ((Off.refl [] w6).drewN q) (by simp) (by simp) (by simp)).pendCell
              rw [hm] at h9
              exact pending_c b m c9 a9 _ h9)
            have HSZ : Hid (∀ q, Calls Try.prog 17 #[.pointer (some ⟨b, 0, none⟩)] (w6.drewN q) fun e w' => e = .returned (.int .i64 n) ∧ w6.drewN q = w') := Lib.hid (fun q => by
              obtain ⟨a9, c9, h9⟩ := (HB6.out.dev.off (ex := []) ((Off.refl [] w6).drewN q) (by simp) (by simp) (by simp)).nowCell
              rw [HB6.out.len] at h9
              exact size_c b n c9 a9 _ h9)
            clear hrl hm t0 t3 t4
            go_upto_region 22 with fail
            go_quiet ((first | (go_at_call 16; exact Calls.quiet_of_same ((HPN.out _).mono fun _ _ h => ⟨h.1, h.2.symm⟩)) | (go_at_call 17; exact Calls.quiet_of_same ((HSZ.out _).mono fun _ _ h => ⟨h.1, h.2.symm⟩))))
            go_wp2
            go_roundw
            case rel => exact ⟨i + 1, st2, by omega, by first | rfl | go_num, HB6.out.dev.off (ex := []) ((Off.refl [] w6).drewN _) (by simp) (by simp) (by simp), HB6.out.ref.off (ex := []) ((Off.refl [] w6).drewN _) (by simp) (by simp) (by simp), HB6.out.good, HB6.out.len, HB6.out.pend, Below.drewM HB6.out.below _⟩
            case measure => simp [intOf]; omega
          · have hXT : X.tmod 5 = 1 := by rw [Int.tmod_eq_emod_of_nonneg HXX.out.1]; exact hκ
            have cP := get_c w.heap.size b st I w4 HB4.out.dev HB4.out.good
            unfold GetPost at cP
            have cD9 : Hid (∀ W : World, Ref w.heap.size W r st → w.heap.size ≤ W.heap.size → _) := Lib.hid (fun W hW hs => do1_c (X := X) (I := I) (N := N) (s := s) (kv := .slice ak kn ck) hW HB4.out.good hs HXX.out.1 hκ)
            generalize (if askI st.now.length st.lim st.left I = 0 then st.now.getD I.toNat ⟨#[]⟩ else ⟨#[]⟩) = got at *
            generalize askI st.now.length st.lim st.left I = code at *
            obtain ⟨st2, hst2⟩ : ∃ st2, st = st2 := ⟨_, rfl⟩
            rw [hst2] at cD9
            have HG2 : Hid (Good st2) := Lib.hid (by rw [← hst2]; exact HB4.out.good)
            have HL2 : Hid (st2.now.length = n) := Lib.hid (by rw [← hst2]; exact HB4.out.len)
            have HP2 : Hid (st2.pend.length ≤ i + 1) := Lib.hid (by rw [← hst2]; have := HB4.out.pend; omega)
            go_wp2_with fail
            refine cP.mono ?_
            rintro e w5 ⟨hw5, rfl⟩
            subst hw5
            obtain ⟨w5, hw5⟩ : ∃ w5, w5 = w4 := ⟨_, rfl⟩
            have HT5 : Hid (w5.heap[ob]? = some (.cells #[.int .u8 X, .int .i64 I, .int .i64 N, .string s, .slice ak kn ck] 32 (0, 0))) := Lib.hid (by rw [hw5]; exact HT4.out)
            have HD5 : Hid (Dev w.heap.size w5 b st2) := Lib.hid (by rw [hw5, ← hst2]; exact HB4.out.dev)
            have HB5 : Hid (Below w.heap.size w w5) := Lib.hid (by rw [hw5]; exact HB4.out.below)
            have HR5 : Hid (Ref w.heap.size w5 r st2) := Lib.hid (by rw [hw5, ← hst2]; exact HB4.out.ref)
            rw [← hw5]
            clear cP hw5 hst2
            obtain ⟨p0, p1, p2, p3, p4⟩ := HQ.out w5 HT5.out
            have cD := cD9.out w5 HR5.out HB5.out.size
            unfold DoPost at cD
            clear q0 q1 q2 q3 q4
            go_wp2_with fail
            refine cD.mono ?_
            rintro e w6 ⟨rfl, hr6, hb6, ho6⟩
            have HB6 : Hid (Both w.heap.size w w6 b r n (i + 1) st2) := Lib.hid ⟨HD5.out.offRef ho6, hr6, HG2.out, HL2.out, HP2.out, HB5.out.trans hb6⟩
            clear cD hr6 hb6 ho6 p0 p1 p2 p3 p4
            obtain ⟨vs, ve, va, vd, hrl⟩ := HB6.out.ref
            obtain ⟨t0, t1, t2, t3, t4⟩ := hrl.cells
            obtain ⟨aa, capa, hva, _⟩ := own_form hrl.ta
            rw [ats_len] at hva
            obtain ⟨ge, cape, hve⟩ := hrl.nnil
            rw [HB6.out.len] at hve
            subst hva hve
            obtain ⟨m, hm⟩ : ∃ m, st2.pend.length = m := ⟨_, rfl⟩
            rw [hm] at t2
            have u2 : w6.drew.cell? ⟨r, 2, none⟩ = some (.slice aa m capa) := t2
            have u1 : w6.drew.cell? ⟨r, 1, none⟩ = some (.slice (some ⟨ge, 0, none⟩) n cape) := t1
            have HPN : Hid (∀ q, Calls Try.prog 16 #[.pointer (some ⟨b, 0, none⟩)] (w6.drewN q) fun e w' => e = .returned (.int .i64 m) ∧ w6.drewN q = w') := Lib.hid (fun q => by
              obtain ⟨a9, c9, h9⟩ := (HB6.out.dev.off (ex := []) ((Off.refl [] w6).drewN q) (by simp) (by simp) (by simp)).pendCell
              rw [hm] at h9
              exact pending_c b m c9 a9 _ h9)
            have HSZ : Hid (∀ q, Calls Try.prog 17 #[.pointer (some ⟨b, 0, none⟩)] (w6.drewN q) fun e w' => e = .returned (.int .i64 n) ∧ w6.drewN q = w') := Lib.hid (fun q => by
              obtain ⟨a9, c9, h9⟩ := (HB6.out.dev.off (ex := []) ((Off.refl [] w6).drewN q) (by simp) (by simp) (by simp)).nowCell
              rw [HB6.out.len] at h9
              exact size_c b n c9 a9 _ h9)
            clear hrl hm t0 t3 t4
            go_upto_region 22 with fail
            go_quiet ((first | (go_at_call 16; exact Calls.quiet_of_same ((HPN.out _).mono fun _ _ h => ⟨h.1, h.2.symm⟩)) | (go_at_call 17; exact Calls.quiet_of_same ((HSZ.out _).mono fun _ _ h => ⟨h.1, h.2.symm⟩))))
            go_wp2
            go_roundw
            case rel => exact ⟨i + 1, st2, by omega, by first | rfl | go_num, HB6.out.dev.off (ex := []) ((Off.refl [] w6).drewN _) (by simp) (by simp) (by simp), HB6.out.ref.off (ex := []) ((Off.refl [] w6).drewN _) (by simp) (by simp) (by simp), HB6.out.good, HB6.out.len, HB6.out.pend, Below.drewM HB6.out.below _⟩
            case measure => simp [intOf]; omega
          · have hXT : X.tmod 5 = 2 := by rw [Int.tmod_eq_emod_of_nonneg HXX.out.1]; exact hκ
            have cP := flush_c w.heap.size b st w4 HB4.out.dev HB4.out.good (by have := HB4.out.pend; omega) HB4.out.below.size
            unfold FlushPost at cP
            have cD9 : Hid (∀ W : World, Ref w.heap.size W r st → w.heap.size ≤ W.heap.size → _) := Lib.hid (fun W hW hs => do2_c (X := X) (I := I) (N := N) (s := s) (kv := .slice ak kn ck) hW HB4.out.good hs HXX.out.1 hκ)
            have hs2 : Good (if goneB st = true then st else flushSt st) ∧ (if goneB st = true then st else flushSt st).now.length = n ∧ (if goneB st = true then st else flushSt st).pend.length ≤ i + 1 := by
              have h1 := HB4.out.pend
              split
              · exact ⟨HB4.out.good, HB4.out.len, by omega⟩
              · exact ⟨good_flush HB4.out.good, HB4.out.len, by simp [flushSt]⟩
            generalize (if goneB st = true then st else flushSt st) = st2 at *
            generalize (if goneB st = true then (13 : Int) else 0) = code at *
            have HG2 := Lib.hid hs2.1
            have HL2 := Lib.hid hs2.2.1
            have HP2 := Lib.hid hs2.2.2
            clear hs2
            go_wp2_with fail
            refine cP.mono ?_
            rintro e w5 ⟨rfl, hd5, hb5, ho5⟩
            have HT5 : Hid (w5.heap[ob]? = some (.cells #[.int .u8 X, .int .i64 I, .int .i64 N, .string s, .slice ak kn ck] 32 (0, 0))) := Lib.hid (ho5 _ (by decide) _ _ _ HT4.out)
            have HD5 := Lib.hid hd5
            have HB5 := Lib.hid (HB4.out.below.trans hb5)
            have HR5 := Lib.hid (HB4.out.ref.offDev ho5)
            clear cP hd5 hb5 ho5
            obtain ⟨p0, p1, p2, p3, p4⟩ := HQ.out w5 HT5.out
            have cD := cD9.out w5 HR5.out HB5.out.size
            unfold DoPost at cD
            clear q0 q1 q2 q3 q4
            go_wp2_with fail
            refine cD.mono ?_
            rintro e w6 ⟨rfl, hr6, hb6, ho6⟩
            have HB6 : Hid (Both w.heap.size w w6 b r n (i + 1) st2) := Lib.hid ⟨HD5.out.offRef ho6, hr6, HG2.out, HL2.out, HP2.out, HB5.out.trans hb6⟩
            clear cD hr6 hb6 ho6 p0 p1 p2 p3 p4
            obtain ⟨vs, ve, va, vd, hrl⟩ := HB6.out.ref
            obtain ⟨t0, t1, t2, t3, t4⟩ := hrl.cells
            obtain ⟨aa, capa, hva, _⟩ := own_form hrl.ta
            rw [ats_len] at hva
            obtain ⟨ge, cape, hve⟩ := hrl.nnil
            rw [HB6.out.len] at hve
            subst hva hve
            obtain ⟨m, hm⟩ : ∃ m, st2.pend.length = m := ⟨_, rfl⟩
            rw [hm] at t2
            have u2 : w6.drew.cell? ⟨r, 2, none⟩ = some (.slice aa m capa) := t2
            have u1 : w6.drew.cell? ⟨r, 1, none⟩ = some (.slice (some ⟨ge, 0, none⟩) n cape) := t1
            have HPN : Hid (∀ q, Calls Try.prog 16 #[.pointer (some ⟨b, 0, none⟩)] (w6.drewN q) fun e w' => e = .returned (.int .i64 m) ∧ w6.drewN q = w') := Lib.hid (fun q => by
              obtain ⟨a9, c9, h9⟩ := (HB6.out.dev.off (ex := []) ((Off.refl [] w6).drewN q) (by simp) (by simp) (by simp)).pendCell
              rw [hm] at h9
              exact pending_c b m c9 a9 _ h9)
            have HSZ : Hid (∀ q, Calls Try.prog 17 #[.pointer (some ⟨b, 0, none⟩)] (w6.drewN q) fun e w' => e = .returned (.int .i64 n) ∧ w6.drewN q = w') := Lib.hid (fun q => by
              obtain ⟨a9, c9, h9⟩ := (HB6.out.dev.off (ex := []) ((Off.refl [] w6).drewN q) (by simp) (by simp) (by simp)).nowCell
              rw [HB6.out.len] at h9
              exact size_c b n c9 a9 _ h9)
            clear hrl hm t0 t3 t4
            go_upto_region 22 with fail
            go_quiet ((first | (go_at_call 16; exact Calls.quiet_of_same ((HPN.out _).mono fun _ _ h => ⟨h.1, h.2.symm⟩)) | (go_at_call 17; exact Calls.quiet_of_same ((HSZ.out _).mono fun _ _ h => ⟨h.1, h.2.symm⟩))))
            go_wp2
            go_roundw
            case rel => exact ⟨i + 1, st2, by omega, by first | rfl | go_num, HB6.out.dev.off (ex := []) ((Off.refl [] w6).drewN _) (by simp) (by simp) (by simp), HB6.out.ref.off (ex := []) ((Off.refl [] w6).drewN _) (by simp) (by simp) (by simp), HB6.out.good, HB6.out.len, HB6.out.pend, Below.drewM HB6.out.below _⟩
            case measure => simp [intOf]; omega
          · have hXT : X.tmod 5 = 3 := by rw [Int.tmod_eq_emod_of_nonneg HXX.out.1]; exact hκ
            have cP := cut_c w.heap.size b st N w4 HB4.out.dev
            have cD9 : Hid (∀ W : World, Ref w.heap.size W r st → w.heap.size ≤ W.heap.size → _) := Lib.hid (fun W hW hs => do3_c (X := X) (I := I) (N := N) (s := s) (kv := .slice ak kn ck) hW HB4.out.good hs HXX.out.1 hκ)
            have HG2 : Hid (Good (cutSt st N)) := Lib.hid (good_cut HB4.out.good HXX.out.2.2.1 HXX.out.2.2.2)
            have HL2 : Hid ((cutSt st N).now.length = n) := Lib.hid ((cut_same st N).1.trans HB4.out.len)
            have HP2 : Hid ((cutSt st N).pend.length ≤ i + 1) := Lib.hid (by rw [(cut_same st N).2]; have := HB4.out.pend; omega)
            generalize cutSt st N = st2 at *
            go_wp2_with fail
            refine cP.mono ?_
            rintro e w5 ⟨rfl, hd5, hb5, ho5⟩
            have HT5 : Hid (w5.heap[ob]? = some (.cells #[.int .u8 X, .int .i64 I, .int .i64 N, .string s, .slice ak kn ck] 32 (0, 0))) := Lib.hid (ho5 _ (by decide) _ _ _ HT4.out)
            have HD5 := Lib.hid hd5
            have HB5 := Lib.hid (HB4.out.below.trans hb5)
            have HR5 := Lib.hid (HB4.out.ref.offDev ho5)
            clear cP hd5 hb5 ho5
            obtain ⟨p0, p1, p2, p3, p4⟩ := HQ.out w5 HT5.out
            have cD := cD9.out w5 HR5.out HB5.out.size
            unfold DoPost at cD
            clear q0 q1 q2 q3 q4
            go_wp2_with fail
            refine cD.mono ?_
            rintro e w6 ⟨rfl, hr6, hb6, ho6⟩
            have HB6 : Hid (Both w.heap.size w w6 b r n (i + 1) st2) := Lib.hid ⟨HD5.out.offRef ho6, hr6, HG2.out, HL2.out, HP2.out, HB5.out.trans hb6⟩
            clear cD hr6 hb6 ho6 p0 p1 p2 p3 p4
            obtain ⟨vs, ve, va, vd, hrl⟩ := HB6.out.ref
            obtain ⟨t0, t1, t2, t3, t4⟩ := hrl.cells
            obtain ⟨aa, capa, hva, _⟩ := own_form hrl.ta
            rw [ats_len] at hva
            obtain ⟨ge, cape, hve⟩ := hrl.nnil
            rw [HB6.out.len] at hve
            subst hva hve
            obtain ⟨m, hm⟩ : ∃ m, st2.pend.length = m := ⟨_, rfl⟩
            rw [hm] at t2
            have u2 : w6.drew.cell? ⟨r, 2, none⟩ = some (.slice aa m capa) := t2
            have u1 : w6.drew.cell? ⟨r, 1, none⟩ = some (.slice (some ⟨ge, 0, none⟩) n cape) := t1
            have HPN : Hid (∀ q, Calls Try.prog 16 #[.pointer (some ⟨b, 0, none⟩)] (w6.drewN q) fun e w' => e = .returned (.int .i64 m) ∧ w6.drewN q = w') := Lib.hid (fun q => by
              obtain ⟨a9, c9, h9⟩ := (HB6.out.dev.off (ex := []) ((Off.refl [] w6).drewN q) (by simp) (by simp) (by simp)).pendCell
              rw [hm] at h9
              exact pending_c b m c9 a9 _ h9)
            have HSZ : Hid (∀ q, Calls Try.prog 17 #[.pointer (some ⟨b, 0, none⟩)] (w6.drewN q) fun e w' => e = .returned (.int .i64 n) ∧ w6.drewN q = w') := Lib.hid (fun q => by
              obtain ⟨a9, c9, h9⟩ := (HB6.out.dev.off (ex := []) ((Off.refl [] w6).drewN q) (by simp) (by simp) (by simp)).nowCell
              rw [HB6.out.len] at h9
              exact size_c b n c9 a9 _ h9)
            clear hrl hm t0 t3 t4
            go_upto_region 22 with fail
            go_quiet ((first | (go_at_call 16; exact Calls.quiet_of_same ((HPN.out _).mono fun _ _ h => ⟨h.1, h.2.symm⟩)) | (go_at_call 17; exact Calls.quiet_of_same ((HSZ.out _).mono fun _ _ h => ⟨h.1, h.2.symm⟩))))
            go_wp2
            go_roundw
            case rel => exact ⟨i + 1, st2, by omega, by first | rfl | go_num, HB6.out.dev.off (ex := []) ((Off.refl [] w6).drewN _) (by simp) (by simp) (by simp), HB6.out.ref.off (ex := []) ((Off.refl [] w6).drewN _) (by simp) (by simp) (by simp), HB6.out.good, HB6.out.len, HB6.out.pend, Below.drewM HB6.out.below _⟩
            case measure => simp [intOf]; omega
          · have hXT : X.tmod 5 = 4 := by rw [Int.tmod_eq_emod_of_nonneg HXX.out.1]; exact hκ
            have cP := restart_c w.heap.size b st (.slice ak kn ck) kl w4 HB4.out.dev HB4.out.good (by have := HB4.out.pend; omega) (HNK.out.kept HB4.out.below) (by have := HKL.out; omega) HB4.out.below.size
            have cD9 : Hid (∀ W : World, Ref w.heap.size W r st → Below w.heap.size w W → _) := Lib.hid (fun W hW hb => do_restart w.heap.size r st X I N s (.slice ak kn ck) W hW HB4.out.good hb.size HXX.out.1 hκ w rfl hb kl HNK.out (by have := HKL.out; omega) (by have := HB4.out.pend; omega))
            have HG2 : Hid (Good (restartSt st kl)) := Lib.hid (good_restart HB4.out.good kl)
            have HL2 : Hid ((restartSt st kl).now.length = n) := Lib.hid ((restart_length st HB4.out.good kl).trans HB4.out.len)
            have HP2 : Hid ((restartSt st kl).pend.length ≤ i + 1) := Lib.hid (by simp [restartSt])
            generalize restartSt st kl = st2 at *
            go_wp2_with fail
            refine cP.mono ?_
            rintro e w5 ⟨rfl, hd5, hb5, ho5⟩
            have HT5 : Hid (w5.heap[ob]? = some (.cells #[.int .u8 X, .int .i64 I, .int .i64 N, .string s, .slice ak kn ck] 32 (0, 0))) := Lib.hid (ho5 _ (by decide) _ _ _ HT4.out)
            have HD5 := Lib.hid hd5
            have HB5 := Lib.hid (HB4.out.below.trans hb5)
            have HR5 := Lib.hid (HB4.out.ref.offDev ho5)
            clear cP hd5 hb5 ho5
            obtain ⟨p0, p1, p2, p3, p4⟩ := HQ.out w5 HT5.out
            have cD := cD9.out w5 HR5.out HB5.out
            unfold DoPost at cD
            clear q0 q1 q2 q3 q4
            go_wp2_with fail
            refine cD.mono ?_
            rintro e w6 ⟨rfl, hr6, hb6, ho6⟩
            have HB6 : Hid (Both w.heap.size w w6 b r n (i + 1) st2) := Lib.hid ⟨HD5.out.offRef ho6, hr6, HG2.out, HL2.out, HP2.out, HB5.out.trans hb6⟩
            clear cD hr6 hb6 ho6 p0 p1 p2 p3 p4
            obtain ⟨vs, ve, va, vd, hrl⟩ := HB6.out.ref
            obtain ⟨t0, t1, t2, t3, t4⟩ := hrl.cells
            obtain ⟨aa, capa, hva, _⟩ := own_form hrl.ta
            rw [ats_len] at hva
            obtain ⟨ge, cape, hve⟩ := hrl.nnil
            rw [HB6.out.len] at hve
            subst hva hve
            obtain ⟨m, hm⟩ : ∃ m, st2.pend.length = m := ⟨_, rfl⟩
            rw [hm] at t2
            have u2 : w6.drew.cell? ⟨r, 2, none⟩ = some (.slice aa m capa) := t2
            have u1 : w6.drew.cell? ⟨r, 1, none⟩ = some (.slice (some ⟨ge, 0, none⟩) n cape) := t1
            have HPN : Hid (∀ q, Calls Try.prog 16 #[.pointer (some ⟨b, 0, none⟩)] (w6.drewN q) fun e w' => e = .returned (.int .i64 m) ∧ w6.drewN q = w') := Lib.hid (fun q => by
              obtain ⟨a9, c9, h9⟩ := (HB6.out.dev.off (ex := []) ((Off.refl [] w6).drewN q) (by simp) (by simp) (by simp)).pendCell
              rw [hm] at h9
              exact pending_c b m c9 a9 _ h9)
            have HSZ : Hid (∀ q, Calls Try.prog 17 #[.pointer (some ⟨b, 0, none⟩)] (w6.drewN q) fun e w' => e = .returned (.int .i64 n) ∧ w6.drewN q = w') := Lib.hid (fun q => by
              obtain ⟨a9, c9, h9⟩ := (HB6.out.dev.off (ex := []) ((Off.refl [] w6).drewN q) (by simp) (by simp) (by simp)).nowCell
              rw [HB6.out.len] at h9
              exact size_c b n c9 a9 _ h9)
            clear hrl hm t0 t3 t4
            go_upto_region 22 with fail
            go_quiet ((first | (go_at_call 16; exact Calls.quiet_of_same ((HPN.out _).mono fun _ _ h => ⟨h.1, h.2.symm⟩)) | (go_at_call 17; exact Calls.quiet_of_same ((HSZ.out _).mono fun _ _ h => ⟨h.1, h.2.symm⟩))))
            go_wp2
            go_roundw
            case rel => exact ⟨i + 1, st2, by omega, by first | rfl | go_num, HB6.out.dev.off (ex := []) ((Off.refl [] w6).drewN _) (by simp) (by simp) (by simp), HB6.out.ref.off (ex := []) ((Off.refl [] w6).drewN _) (by simp) (by simp) (by simp), HB6.out.good, HB6.out.len, HB6.out.pend, Below.drewM HB6.out.below _⟩
            case measure => simp [intOf]; omega
        · have hge : ¬ ((i : Int) < (L : Int)) := by omega
          have hi150 : i ≤ 150 := by have := HFEW.out.1; have := HL.out; omega
          have cR := restart_c w.heap.size b st (.slice none 0 0) [] wr HBO.out.dev HBO.out.good (by have := HBO.out.pend; omega) (nums_nil6 wr) (by simp) HBO.out.below.size
          have HG2 : Hid (Good (restartSt st [])) := Lib.hid (good_restart HBO.out.good [])
          have HL2 : Hid ((restartSt st []).now.length = n) := Lib.hid ((restart_length st HBO.out.good []).trans HBO.out.len)
          have HSN : Hid ((restartSt st []).safe = (restartSt st []).now ∧ (restartSt st []).lim = false) := Lib.hid ⟨rfl, rfl⟩
          go_wp2_with fail
          refine cR.mono ?_
          rintro e w5 ⟨rfl, hd5, hb5, ho5⟩
          have HD5 := Lib.hid hd5
          have HB5 := Lib.hid (HBO.out.below.trans hb5)
          have HR5 := Lib.hid (HBO.out.ref.offDev ho5)
          have cD := do_restart w.heap.size r st 4 0 0 ⟨#[]⟩ (.slice none 0 0) w5 HR5.out HBO.out.good HB5.out.size (by decide) (by decide) w rfl HB5.out [] (nums_nil6 w) (by simp) (by have := HBO.out.pend; omega)
          unfold DoPost at cD
          generalize restartSt st [] = st2 at *
          clear cR hd5 hb5 ho5
          go_wp2_with fail
          refine cD.mono ?_
          rintro e w6 ⟨rfl, hr6, hb6, ho6⟩
          have HD6 := Lib.hid (HD5.out.offRef ho6)
          have HR6 := Lib.hid hr6
          have HB6 := Lib.hid (HB5.out.trans hb6)
          clear cD hr6 hb6 ho6 HBO hi hin hge
          go_wp2_with fail
          go_loopw [15] (fun iv wr => ∃ q : Nat, q ≤ n ∧ iv = .int .i64 q ∧ wr = w6) (fun iv _ => n - (intOf iv).toNat)
          case atStart => exact ⟨0, by omega, rfl, rfl⟩
          case round =>
            obtain ⟨q, hq, rfl, hwr⟩ := hrel
            subst hwr
            obtain ⟨a9, c9, h9⟩ := HD6.out.nowCell
            rw [HL2.out] at h9
            have cS := size_c b n c9 a9 _ h9
            clear h9
            by_cases hqn : q < n
            · have hqz : (q : Int) < (n : Int) := by omega
              have hn30 : n ≤ 30 := HNN.out
              have hqw : IntKind.i64.wrap ((q : Int) + 1) = (q : Int) + 1 := by rw [IntKind.wrap_i64]; omega
              have HQN : Hid (∃ d, q + 1 + d = n) := Lib.hid ⟨n - (q + 1), by omega⟩
              have cG := get_c w.heap.size b st2 q _ HD6.out HG2.out
              unfold GetPost at cG
              rw [ask_ok6 HL2.out HSN.out.2 hqn, if_pos rfl, Int.toNat_natCast] at cG
              obtain ⟨y, hy⟩ : ∃ y, st2.now[q]? = some y := ⟨_, List.getElem?_eq_getElem (by rw [HL2.out]; exact hqn)⟩
              rw [show st2.now.getD q ⟨#[]⟩ = y by rw [List.getD_eq_getElem?_getD, hy]; rfl] at cG
              obtain ⟨vs, ve, va, vd, hrl⟩ := HR6.out
              obtain ⟨t0, t1, t2, t3, t4⟩ := hrl.cells
              obtain ⟨af, capf, hvs, hns⟩ := own_form hrl.sf
              rw [HSN.out.1, HL2.out] at hvs hns
              obtain ⟨gs, rfl⟩ := hns (by omega)
              subst hvs
              have sf := hrl.sf
              rw [HSN.out.1, HL2.out] at sf
              have ts := (own_cell sf hqn).1.trans (strs_get hy)
              clear hrl sf hy t1 t2 t3 t4 hns
              go_wp2_with fail
              refine cS.mono ?_
              rintro e w7 ⟨rfl, hw7⟩
              subst hw7
              go_wp2_with fail
              refine cG.mono ?_
              rintro e w7 ⟨hw7, rfl⟩
              subst hw7
              clear cS cG
              go_wp2
              go_roundw
              case rel => exact ⟨q + 1, by (obtain ⟨d, hd⟩ := HQN.out; omega), by first | rfl | go_num, by first | rfl | trivial⟩
              case measure => (obtain ⟨d, hd⟩ := HQN.out; simp [intOf]; omega)
            · have hge : ¬ ((q : Int) < (n : Int)) := by omega
              go_wp2_with fail
              refine cS.mono ?_
              rintro e w7 ⟨rfl, hw7⟩
              subst hw7
              go_wp2
              go_ret
              exact ⟨rfl, HB6.out⟩
    · have hxn : (30 : Int) < x := by omega
      clear hx30
      go_enter Try.func3, Try.ntmps3
      go_wp2_with fail
      refine cA.mono ?_
      rintro e w1 ⟨rfl, hb1⟩
      have HB1 := Lib.hid hb1
      have cF := HFW.out true w1 ⟨fun _ => HFEW.out, fun _ => rfl⟩ hb1
      clear cA hb1
      go_wp2_with fail
      refine cF.mono ?_
      rintro e w2 ⟨rfl, hw2⟩
      subst hw2
      clear cF
      have cA2 := awake6_c w1
      go_wp2_with fail
      refine cA2.mono ?_
      rintro e w3 ⟨rfl, hb3⟩
      have HB3 := Lib.hid (HB1.out.trans (hb3.mono HB1.out.size))
      clear cA2 hb3
      go_wp2
      go_ret
      exact ⟨rfl, HB3.out⟩
  · have HNF := Lib.hid hF
    clear hF
    go_enter Try.func3, Try.ntmps3
    go_wp2_with fail
    refine cA.mono ?_
    rintro e w1 ⟨rfl, hb1⟩
    have HB1 := Lib.hid hb1
    have cF := HFW.out false w1 ⟨fun h => (by cases h), fun h => absurd h HNF.out⟩ hb1
    clear cA hb1
    go_wp2_with fail
    refine cF.mono ?_
    rintro e w2 ⟨rfl, hw2⟩
    subst hw2
    clear cF
    have cA2 := awake6_c w1
    go_wp2_with fail
    refine cA2.mono ?_
    rintro e w3 ⟨rfl, hb3⟩
    have HB3 := Lib.hid (HB1.out.trans (hb3.mono HB1.out.size))
    clear cA2 hb3
    go_wp2
    go_ret
    exact ⟨rfl, HB3.out⟩
end Go.Proofs.Ytdjfojpfnfhaiaa
