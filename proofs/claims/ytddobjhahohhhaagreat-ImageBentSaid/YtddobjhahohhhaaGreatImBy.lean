/-
  The map of the directories that were read.
-/
import Derived.Test.YtddobjhahohhhaaGreatImSevD
import Derived.Test.YtddobjhahohhhaaGreatMkKeep
import Derived.Carry
namespace Go.Proofs.YtddobjhahohhhaaGreat
open Go.RowKit Go.Sort
set_option linter.unusedVariables false
set_option linter.unusedSimpArgs false

theorem stG_take {ds : List (Int × List Ent)} {i : Nat} {d : Int × List Ent} (h : ds[i]? = some d) : stG (ds.take (i + 1)) = updG (stG (ds.take i)) d.1 (some d.2) := by
  rw [take_snoc h, stG_snoc]
  rfl
theorem stG_new {ds : List (Int × List Ent)} (hn : (ds.map Prod.fst).Nodup) {i : Nat} {d : Int × List Ent} (h : ds[i]? = some d) : stG (ds.take i) d.1 = none := by
  cases he : stG (ds.take i) d.1 with
  | none => rfl
  | some es =>
    have h1 := stG_mem _ _ rfl he
    obtain ⟨j, hj⟩ := List.getElem?_of_mem h1
    rw [List.getElem?_take] at hj
    split at hj
    · rename_i hji
      have e1 : (ds.map Prod.fst)[j]? = some d.1 := by rw [List.getElem?_map, hj]; rfl
      have e2 : (ds.map Prod.fst)[i]? = some d.1 := by rw [List.getElem?_map, h]; rfl
      have hjl := (List.getElem?_eq_some_iff.1 e1).1
      have := (List.getElem?_inj hjl hn).1 (e1.trans e2.symm)
      omega
    · cases hj
theorem hi_some {B : Nat} {w : World} {mb n cnt : Nat} {F : Int → Option Value} {G : DirsG} (h : DirsHi B w mb n F cnt G) {x : Int} (hx : inI64 x) : (F x).isSome = (G x).isSome := by
  have hg := h.g x hx
  cases hF : F x with
  | none => rw [hF] at hg; rw [hg]; rfl
  | some v =>
    rw [hF] at hg
    obtain ⟨l, g1, _⟩ := hg
    rw [g1]
    rfl
theorem turned_below {B : Nat} {a w w' : World} {mb : Nat} (h : Below B a w) (ht : w.mapTurned w' mb) (hB : B ≤ mb) (hs : B ≤ w.heap.size) : Below B a w' := by
  obtain ⟨t1, t2, t3, t4, t5⟩ := turned_block ht
  exact h.grown (row := some mb) ⟨t3, t4, t5, Nat.le_of_eq t1.symm, fun k _ hn => t2 k fun e => hn (by rw [e])⟩ hs fun k hk => by
    obtain rfl := Option.some.inj hk
    exact hB
theorem row_turned {w w' : World} {mb B c n : Nat} {T : TypeId} {v : Value} {xs : List Value} (h : w.ownsRow B T c v n xs) (ht : w.mapTurned w' mb) : w'.ownsRow B T c v n xs :=
  ownsRow_same h fun g hg => (turned_block ht).2.1 g fun e => by
    subst e
    obtain ⟨cur, hc⟩ := ownsRow_typ h hg
    obtain ⟨es, cl, es', cl', h1, _⟩ := ht
    rw [hc] at h1
    cases h1
def BNPost (zs : List ZD) (w : World) (e : Ending) (w' : World) : Prop :=
  ∃ mb F cnt, e = .returned (.map (some mb)) ∧ DirsHi 0 w' mb zs.length F cnt (stG (zs.map zD)) ∧ ((zs.map Prod.fst).Nodup → cnt = zs.length) ∧ Below w.heap.size w w'
set_option maxHeartbeats 8000000 in
set_option maxRecDepth 100000 in
theorem byNode_c (v : Value) (zs : List ZD) (B B0 : Nat) (w : World) (hv : w.ownsRow B 67 2 v zs.length (zs.flatMap zC)) (hz : ZOk w B0 zs) (hk : ∀ z ∈ zs, inI64 z.1) (hl : zs.length ≤ 65535) :
    Calls Tryz.prog 26 #[v] w (BNPost zs w) := by
  unfold BNPost
  obtain ⟨a, cap, hvs⟩ := ownsRow_slice hv
  subst hvs
  obtain ⟨n, hn⟩ : ∃ n, zs.length = n := ⟨_, rfl⟩
  have HN := Lib.hid hn
  have HK := Lib.hid hk
  have HV := Lib.hid hv
  have HZ := Lib.hid hz
  have HAT : Hid (∀ (W : World) (i : Nat) (x : ZD), W.ownsRow B 67 2 (.slice a n cap) zs.length (zs.flatMap zC) → zs[i]? = some x → ∃ g off, a = some ⟨g, off, none⟩ ∧ g < W.heap.size ∧ W.rangeAt g (off + i * 2) (zC x)) := Lib.hid fun W i x hW hi => LstIs.at (LstIs.own (zC_len _) hW rfl) hi
  rw [hn] at hl ⊢
  have hmm := @run_makeMap Tryz.prog
  have HM0 : Hid (DirsHi 0 (w.alloc (.map #[] 0)) w.heap.size 0 (fun _ => none) 0 (stG ((zs.map zD).take 0))) := Lib.hid ⟨MapF.made w, fun x hx => by rw [List.take_zero]; rfl, Nat.zero_le _⟩
  have HB0 : Hid (Below w.heap.size w (w.alloc (.map #[] 0))) := Lib.hid ((Below.refl _ _).alloc (Nat.le_refl _) _)
  rw [hn] at HV
  clear hk hv hz
  go_enter Tryz.func26, Tryz.ntmps26
  go_wp2
  generalize (w.alloc (.map #[] 0)) = W1 at *
  obtain ⟨mb, hmb⟩ : ∃ mb, w.heap.size = mb := ⟨_, rfl⟩
  have HMB := Lib.hid hmb
  rw [hmb] at HM0 HB0 ⊢
  clear hmm hmb
  go_loopw [9] (fun iv wr => ∃ (i : Nat) (F : Int → Option Value) (cnt : Nat), i ≤ n ∧ iv = .int .i64 i ∧ DirsHi 0 wr mb i F cnt (stG ((zs.map zD).take i)) ∧ ((zs.map Prod.fst).Nodup → cnt = i) ∧ Below mb w wr) (fun iv _ => n - (intOf iv).toNat)
  case atStart => exact ⟨0, _, 0, by omega, rfl, HM0.out, fun _ => rfl, HB0.out⟩
  case round =>
    obtain ⟨i, F, cnt, hi, rfl, hd, hc, hb⟩ := hrel
    have HD := Lib.hid hd
    have HC := Lib.hid hc
    have HB := Lib.hid hb
    have hbs := hb.size
    have hmw : mb ≤ wr.heap.size := by have := HMB.out; omega
    clear hd hc hb
    by_cases him : i < n
    · have hiz : (i : Int) < (n : Int) := by omega
      have hi0 : (0 : Int) ≤ (i : Int) := by omega
      obtain ⟨x, hx⟩ : ∃ x, zs[i]? = some x := ⟨_, List.getElem?_eq_getElem (by rw [HN.out]; omega)⟩
      have hbw : Below w.heap.size w wr := by rw [HMB.out]; exact HB.out
      have hVw : wr.ownsRow B 67 2 (.slice a n cap) zs.length (zs.flatMap zC) := by rw [HN.out]; exact ownsRow_same HV.out fun g hg => hbw.block g (HV.out.lt g hg).2
      obtain ⟨g, off, rfl, hg, hr⟩ := HAT.out wr i x hVw hx
      have hxm := List.mem_of_getElem? hx
      have hze := (HZ.out.below hbw) x hxm
      have h64 := HK.out x hxm
      obtain ⟨q, vq, es⟩ := x
      have d0 : wr.cell? ⟨g, off + i * 2, none⟩ = some (.int .i64 q) := hr 0 _ rfl
      have d1 : wr.cell? ⟨g, off + i * 2 + 1, none⟩ = some vq := hr 1 _ rfl
      simp only at hze h64
      obtain ⟨a9, c9, hv9⟩ := ownsRow_slice hze
      subst hv9
      have hba : Below wr.heap.size wr (wr.alloc (.cells #[.int .i64 q, .slice a9 es.length c9] 67)) := (Below.refl _ _).alloc (Nat.le_refl _) _
      have hd5 := HD.out.hi (Hi.of_below (B := 0) hba)
      have hze5 := hze.alloc (.cells #[.int .i64 q, .slice a9 es.length c9] 67)
      obtain ⟨w6, hrun, hd6, hturn⟩ := hd5.set (show i < maxLen by unfold maxLen; omega) h64 (LstIs.own (entC_len _) hze5 rfl) (fun _ g hg => ⟨Nat.zero_le _, (hze5.lt g hg).2⟩)
      have hzd : (zs.map zD)[i]? = some (q, es) := by rw [List.getElem?_map, hx]; rfl
      have hc6 : (zs.map Prod.fst).Nodup → (if (F q).isSome = true then cnt else cnt + 1) = i + 1 := fun hnd => by
        have e1 := stG_new (ds := zs.map zD) (by rw [List.map_map]; exact hnd) hzd
        rw [hi_some HD.out h64, e1, HC.out hnd]
        rfl
      rw [← stG_take hzd] at hd6
      have HD6 := Lib.hid hd6
      have HC6 := Lib.hid hc6
      have HB6 := Lib.hid (turned_below (HB.out.trans (hba.mono hmw)) hturn (Nat.le_refl _) (Nat.le_trans hmw hba.size))
      clear hd6 hc6 hturn hd5 hze hze5 hzd hba hr hxm hVw hx h64 hbw
      go_wp2
      go_roundw
      case rel => exact ⟨i + 1, _, _, by omega, by first | rfl | go_num, HD6.out, HC6.out, HB6.out⟩
      case measure => simp [intOf]; omega
    · have hiz : ¬ (i : Int) < (n : Int) := by omega
      obtain rfl : i = n := by omega
      have HA : Hid ((zs.map zD).take i = zs.map zD) := Lib.hid (List.take_of_length_le (by rw [List.length_map, HN.out]; omega))
      rw [HA.out] at HD
      go_wp2
      go_ret
      exact ⟨mb, rfl, F, cnt, HD.out, HC.out, by rw [HMB.out]; exact HB.out⟩
end Go.Proofs.YtddobjhahohhhaaGreat
