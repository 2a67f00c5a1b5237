/-
  The law CursorAll of stage 16, walked, over what the program's Read and Valid keep.
-/
import Derived.Test.YtmplekjiciedgaaCuLawA
import Derived.Test.YtmplekjiciedgaaQ4
namespace Go.Proofs.Ytmplekjiciedgaa
open Go.RowKit Go.Sort
set_option linter.unusedVariables false

theorem lastC_app (c : Int) (a b : List Ent) : lastC (lastC c a) b = lastC c (a ++ b) := by
  rcases last_cases b with rfl | ⟨x, e, rfl⟩
  · rw [List.append_nil]; rfl
  · rw [lastC_snoc, ← List.append_assoc, lastC_snoc]
theorem above_drop {l : List Ent} (h : Rises l) (h1 : ∀ e ∈ l, 1 ≤ e.cookie) (k : Nat) : aboveC (lastC 0 (l.take k)) l = l.drop k := by
  have hp := h
  unfold Rises at hp
  rw [← List.take_append_drop k l] at hp
  have hx := (List.pairwise_append.1 hp).2.2
  have ha : aboveC (lastC 0 (l.take k)) (l.take k) = [] := by
    unfold aboveC
    rw [List.filter_eq_nil_iff]
    intro e he
    have := rises_last (take_rises h k) 0 e he
    simp only [decide_eq_true_eq]
    omega
  have hb : aboveC (lastC 0 (l.take k)) (l.drop k) = l.drop k := by
    unfold aboveC
    rw [List.filter_eq_self]
    intro e he
    rw [decide_eq_true_iff]
    rcases last_cases (l.take k) with h0 | ⟨a, y, h0⟩
    · rw [h0, lastC_nil]
      have := h1 e (List.mem_of_mem_drop he)
      omega
    · rw [h0, lastC_snoc]
      exact hx y (by rw [h0]; simp) e he
  have e1 := above_pre (c := lastC 0 (l.take k)) l k
  rw [ha, hb, List.nil_append] at e1
  exact e1
theorem read_bit {l : List Ent} (h : Rises l) (h1 : ∀ e ∈ l, 1 ≤ e.cookie) (k : Nat) {s : Int} (hs1 : 1 ≤ s) (hs2 : s ≤ 64) : readI l (lastC 0 (l.take k)) s = ((l.drop k).take s.toNat, lastC 0 (l.take (k + s.toNat)), 0) := by
  have h0 : 0 ≤ lastC 0 (l.take k) := last_le fun e he => by have := h1 e (List.mem_of_mem_take he); omega
  rw [readI_ok hs1 hs2 h0, above_drop h h1, lastC_app]
  have e1 : l.take k ++ (l.drop k).take s.toNat = l.take (k + s.toNat) := by
    rw [List.take_add]
  rw [e1]
theorem lastC_range {l : List Ent} (h1 : ∀ e ∈ l, 1 ≤ e.cookie ∧ e.cookie ≤ 1000000) (k : Nat) : 0 ≤ lastC 0 (l.take k) ∧ lastC 0 (l.take k) ≤ 1000000 := by
  rcases last_cases (l.take k) with h0 | ⟨a, y, h0⟩
  · rw [h0, lastC_nil]; omega
  · rw [h0, lastC_snoc]
    have := h1 y (List.mem_of_mem_take (by rw [h0]; simp : y ∈ l.take k))
    omega
set_option maxHeartbeats 8000000 in
set_option maxRecDepth 100000 in
theorem all_walk (hR : ReadC) (hV : ValidC) (v : Value) (l : List OpT) (n : Int) (w : World) (hn0 : 0 ≤ n) (hn1 : n ≤ 255) (hv : OpTs w v l) (hl : l.length ≤ 9223372036854775807) (hs : ∀ x ∈ l, x.s.size ≤ 9223372036854775807 ∧ x.ns.size ≤ 9223372036854775807) (hk : ∀ x ∈ l, 0 ≤ x.k ∧ x.k ≤ 255) :
    Calls Try.prog 3 #[v, .int .u8 n] w fun e w' => e = .returned (.bool true) ∧ Below w.heap.size w w' := by
  have cA := awake16_c hR hV w
  have HA : Hid (∀ w1, Calls Try.prog 6 #[] w1 fun e w' => e = .returned (.bool true) ∧ Below w1.heap.size w1 w') := Lib.hid (fun w1 => awake16_c hR hV w1)
  have cF := fun W (h : OpTs W v l) => few10_c v l 60 W h hl (by omega) hs
  obtain ⟨R, hRR⟩ : ∃ R, fewI l 60 = R := ⟨_, rfl⟩
  rw [hRR] at cF
  have HV := Lib.hid hv
  obtain ⟨a, cap, rfl⟩ := hv.len
  obtain ⟨m, hm⟩ : ∃ m, l.length = m := ⟨_, rfl⟩
  have HM := Lib.hid hm
  simp only [hm] at cF HV ⊢
  cases R with
  | false =>
    clear hs hk hR hV hv hm
    go_enter Try.func3, Try.ntmps3
    go_wp2_with (first
      | (go_at_call 6; with_reducible refine cA.mono ?_; rintro e w1 ⟨rfl, hb1⟩; have HB1 := Lib.hid hb1; clear hb1)
      | (go_at_call 7; refine (cF _ (LstIs.kept HV.out HB1.out)).mono ?_; rintro e w2 ⟨rfl, hw2⟩; subst hw2)
      | (go_at_call 6; refine (HA.out _).mono ?_; rintro e w3 ⟨rfl, hb3⟩))
    go_ret
    exact ⟨rfl, HB1.out.trans (hb3.mono HB1.out.size)⟩
  | true =>
    have hm60 : m ≤ 60 := by rw [← hm]; exact (fewI_spec hRR (by omega)).1
    have HSZ := Lib.hid hs
    have HK := Lib.hid hk
    have HRC := Lib.hid hR
    obtain ⟨z, hz⟩ : ∃ z, n % 64 = z := ⟨_, rfl⟩
    have hz0 : 0 ≤ z := by omega
    have hz1 : z ≤ 63 := by omega
    have hzm : n.tmod 64 = z := by rw [Int.tmod_eq_emod_of_nonneg hn0]; exact hz
    have hzw : IntKind.i64.wrap z = z := by rw [IntKind.wrap_i64]; omega
    have hzp : IntKind.i64.wrap (1 + z) = 1 + z := by rw [IntKind.wrap_i64]; omega
    clear hs hk hR hV hv hm hRR
    go_enter Try.func3, Try.ntmps3
    go_upto_region 4 with (first
      | (go_at_call 6; with_reducible refine cA.mono ?_; rintro e w1 ⟨rfl, hb1⟩; have HB1 := Lib.hid hb1; clear hb1)
      | (go_at_call 7; refine (cF _ (LstIs.kept HV.out HB1.out)).mono ?_; rintro e w2 ⟨rfl, hw2⟩; subst hw2)
      | (go_at_call 8; refine (theTree.new _).mono ?_; rintro e w3 ⟨b, S, rfl, hi3, hs3, hb3⟩; have HI3 := Lib.hid hi3; have HS3 := Lib.hid (fun k hk => Nat.le_trans HB1.out.size (hs3 k hk)); have HB3 := Lib.hid (HB1.out.trans (hb3.mono HB1.out.size)); clear hi3 hs3 hb3))
    clear cA cF HA
    go_wp2
    go_loopw [6] (fun iv wr => ∃ (i : Nat) (L : List Itm) (nx : Int) (S : Nat → Prop), i ≤ m ∧ iv = .int .i64 i ∧ theTree.Is wr b L nx S ∧ (∀ k, S k → w.heap.size ≤ k) ∧ nx ≤ 1 + i ∧ Below w.heap.size w wr) (fun iv _ => m - (intOf iv).toNat)
    case atStart => exact ⟨0, [], 1, S, by omega, rfl, HI3.out, HS3.out, by omega, HB3.out⟩
    case round =>
      clear HI3 HS3 HB3
      obtain ⟨i, L, nx, S, hi, rfl, his, hS, hnx, hb⟩ := hrel
      have hnx1 := theTree.next his
      by_cases him : i < m
      · have hiz : (i : Int) < (m : Int) := by omega
        obtain ⟨o, ho⟩ : ∃ o, l[i]? = some o := ⟨_, List.getElem?_eq_getElem (by rw [HM.out]; omega)⟩
        obtain ⟨g, off, rfl, hg, hrg⟩ := HV.out.at ho
        have hom := List.mem_of_getElem? ho
        have h9 := rangeAt_below hrg hg hb
        have o0 : wr.cell? ⟨g, off + i * 7, none⟩ = some (.int .u8 o.k) := h9 0 _ rfl
        have o1 : wr.cell? ⟨g, off + i * 7 + 1, none⟩ = some (.int .i64 o.d) := h9 1 _ rfl
        have o2 : wr.cell? ⟨g, off + i * 7 + 2, none⟩ = some (.int .i64 o.dt) := h9 2 _ rfl
        have o3 : wr.cell? ⟨g, off + i * 7 + 3, none⟩ = some (.string o.s) := h9 3 _ rfl
        have o4 : wr.cell? ⟨g, off + i * 7 + 4, none⟩ = some (.string o.ns) := h9 4 _ rfl
        have o5 : wr.cell? ⟨g, off + i * 7 + 5, none⟩ = some (.bool o.isD) := h9 5 _ rfl
        have o6 : wr.cell? ⟨g, off + i * 7 + 6, none⟩ = some (.int .i64 o.sh) := h9 6 _ rfl
        have hos := HSZ.out o hom
        have hok := HK.out o hom
        have hqn := doI_next L nx o
        have cDo := lawDo10_c theTree o his hos.1 hos.2 hok.1 hok.2 (by omega)
        obtain ⟨Q, hQ⟩ : ∃ Q, doI L nx o = Q := ⟨_, rfl⟩
        rw [hQ] at cDo hqn
        unfold opV at cDo
        have HBb := Lib.hid hb
        have HSS := Lib.hid hS
        clear hQ hg hrg ho hom h9 hb hS
        go_wp2_with (go_at_call 9; refine cDo.mono ?_; rintro e w4 ⟨S4, rfl, hi4, ht4⟩; have hlow := ht4.low HBb.out.size HSS.out; have HI4 := Lib.hid hi4; have HL4 := Lib.hid hlow; clear hi4 ht4 hlow)
        go_roundw
        case rel => exact ⟨i + 1, Q.1.1, Q.1.2, S4, by omega, by first | rfl | go_num, HI4.out, HL4.out.2, by omega, HBb.out.trans HL4.out.1⟩
        case measure => simp [intOf]; omega
      · have hiz : ¬ (i : Int) < (m : Int) := by omega
        have cL := theTree.list 0 his
        have HB := Lib.hid hb
        have hG := theGood his
        obtain ⟨E, hE⟩ : ∃ E, listI L 0 = E := ⟨_, rfl⟩
        have hlen : E.length ≤ 200 := by rw [← hE]; exact Nat.le_trans (listI_le L 0) (theTree.len his)
        have hris : Rises E := by rw [← hE]; exact hG.risesL 0
        have hck : ∀ e ∈ E, 1 ≤ e.cookie ∧ e.cookie ≤ 1000000 := fun e he => by
          have := listI_cook hG 0 e (by rw [hE]; exact he)
          omega
        have HNM : Hid (∀ e ∈ E, e.name.size ≤ 100000) := Lib.hid (by rw [← hE]; exact listI_name hG 0)
        rw [hE] at cL
        have HRS := Lib.hid hris
        have HCK := Lib.hid hck
        obtain ⟨M, hM⟩ : ∃ M, E.length = M := ⟨_, rfl⟩
        have HML := Lib.hid hM
        rw [hM] at hlen
        clear his hS hb hG hE hris hck hM
        go_upto_region 9 with (go_at_call 10; refine cL.mono ?_; rintro e w5 ⟨lv, rfl, he5, ⟨-, hrm5⟩, hb5⟩; have HRM5 := Lib.hid hrm5; have HE5 := Lib.hid he5; have HB5 := Lib.hid (HB.out.trans (hb5.mono HB.out.size)); clear he5 hb5 hrm5)
        obtain ⟨al, cl, hlv⟩ := HE5.out.len
        rw [HML.out] at hlv
        subst hlv
        clear cL HB
        go_wp2
        go_loopw [9, 10, 11] (fun ov cv iv wr => ∃ (o : Value) (i : Nat), o = ov ∧ iv = .int .i64 i ∧ i ≤ M + 1 ∧ cv = .int .i64 (lastC 0 (E.take (i * (1 + z).toNat))) ∧ EntsIs wr o (E.take (i * (1 + z).toNat)) ∧ Below w5.heap.size w5 wr) (fun _ _ iv _ => M + 1 - (intOf iv).toNat)
        case atStart => exact ⟨_, 0, rfl, rfl, by omega, by rw [Nat.zero_mul]; rfl, by rw [Nat.zero_mul]; exact LstIs.nil _ _ _, Below.refl _ _⟩
        case round =>
          obtain ⟨o, i, rfl, rfl, hi, rfl, ho, hb⟩ := hrel
          obtain ⟨ao, co, hov⟩ := ho.len
          obtain ⟨K, hK⟩ : ∃ K, (E.take (i * (1 + z).toNat)).length = K := ⟨_, rfl⟩
          have hK1 : K ≤ M := by rw [← hK, ← HML.out]; exact List.length_take_le' _ _
          rw [hK] at hov
          subst hov
          have HO := Lib.hid ho
          have HB := Lib.hid hb
          have HK9 := Lib.hid hK
          clear ho hK
          by_cases hin : i ≤ M
          · have hiz : (i : Int) ≤ (M : Int) := by omega
            have hrg := lastC_range HCK.out (i * (1 + z).toNat)
            have cR := HRC.out _ E (lastC 0 (E.take (i * (1 + z).toNat))) (1 + z) wr (LstIs.kept HE5.out hb) HRM5.out HRS.out (by rw [HML.out]; omega) HCK.out HNM.out (by omega) (by omega)
            rw [read_bit HRS.out (fun e he => (HCK.out e he).1) _ (by omega) (by omega)] at cR
            unfold ReadPost at cR
            simp only at cR
            have hnext : i * (1 + z).toNat + (1 + z).toNat = (i + 1) * (1 + z).toNat := by rw [Nat.add_mul, Nat.one_mul]
            rw [hnext] at cR
            obtain ⟨X, hX⟩ : ∃ X, (E.drop (i * (1 + z).toNat)).take (1 + z).toNat = X := ⟨_, rfl⟩
            obtain ⟨A, hA⟩ : ∃ A, E.take (i * (1 + z).toNat) = A := ⟨_, rfl⟩
            have HAX : Hid (A ++ X = E.take ((i + 1) * (1 + z).toNat)) := Lib.hid (by rw [← hnext, ← hA, ← hX, ← List.take_add])
            have hXl : X.length ≤ 200 := by
              rw [← hX]
              have h8 : ((E.drop (i * (1 + z).toNat)).take (1 + z).toNat).length ≤ (E.drop (i * (1 + z).toNat)).length := List.length_take_le' _ _
              rw [List.length_drop, HML.out] at h8
              omega
            rw [hX] at cR
            rw [hA] at HO HK9 cR hrg
            (try rw [hA])
            obtain ⟨c0, hc0⟩ : ∃ c0, lastC 0 A = c0 := ⟨_, rfl⟩
            obtain ⟨c1, hc1⟩ : ∃ c1, lastC 0 (E.take ((i + 1) * (1 + z).toNat)) = c1 := ⟨_, rfl⟩
            have HC1 := Lib.hid hc1
            rw [hc0] at cR hrg
            rw [hc1] at cR
            (try rw [hc0])
            clear hX hA hnext hc0 hc1 hb
            go_upto_region 17 with (go_at_call 11; refine cR.mono ?_; rintro e w7 ⟨xv, rfl, hx7, hb7⟩; have HX7 := Lib.hid hx7; have HO7 := Lib.hid (LstIs.kept HO.out hb7); have HB7 := Lib.hid (HB.out.trans (hb7.mono HB.out.size)); clear hx7 hb7)
            have hbA : Below w7.heap.size w7 (w7.alloc (.cells #[] 46)) := (Below.refl _ _).alloc (Nat.le_refl _) _
            have HBA := Lib.hid hbA
            have HEM : Hid ((w7.alloc (.cells #[] 46)).heap[w7.heap.size]? = some (.cells #[] 46 (0, 0))) := Lib.hid (heap_alloc_new _ _)
            have HOE : Hid (World.ownsRow (w7.alloc (.cells #[] 46)) w7.heap.size 46 5 (.slice (some ⟨w7.heap.size, 0, none⟩) 0 0) 0 []) := Lib.hid (own_new HEM.out (Nat.le_refl _))
            have HAA := Lib.hid (LstIs.kept HO7.out hbA)
            have hlen0 : 0 + A.length ≤ 100000 := by have := HK9.out; omega
            have hlen1 : 0 + A.length + X.length ≤ 100000 := by have := HK9.out; omega
            clear hbA cR
            go_upto_region 18 with (first
              | (at_builtin; refine wpList_append_lst entElem rfl _ _ rfl w7.heap.size _ 0 [] rfl HOE.out _ A (entC_len A) (fun y _ => entC_one y) rfl HAA.out hlen0 HBA.out.size ?_; intro v8 w8 ho8 hg8 hr8; have HO8 := Lib.hid ho8; have HB8 := Lib.hid (HBA.out.grown hg8 HBA.out.size (fun j hj => (HOE.out.lt j hj).1)); have HX8 := Lib.hid (LstIs.kept HX7.out HB8.out); clear ho8 hg8 hr8)
              | (at_builtin; refine wpList_append_lst entElem rfl _ _ rfl w7.heap.size _ _ _ rfl HO8.out _ X (entC_len X) (fun y _ => entC_one y) rfl HX8.out hlen1 HB8.out.size ?_; intro v9 w9 ho9 hg9 hr9; have HB9 := Lib.hid (HB8.out.grown hg9 HB8.out.size (fun j hj => (HO8.out.lt j hj).1)); have HO9 : Hid (EntsIs w9 v9 (A ++ X)) := Lib.hid (LstIs.own (f := entC) (entC_len _) (by rw [List.flatMap_append]; exact ho9) (by rw [List.length_append, Nat.zero_add])); clear ho9 hg9 hr9))
            go_wp2
            go_roundw
            case rel => exact ⟨_, i + 1, rfl, by first | rfl | go_num, by omega, by rw [HC1.out], by rw [← HAX.out]; exact HO9.out, HB7.out.trans (HB9.out.mono HB7.out.size)⟩
            case measure => simp [intOf]; omega
          · have hiz : ¬ (i : Int) ≤ (M : Int) := by omega
            have hall : E.take (i * (1 + z).toNat) = E := List.take_of_length_le (by
              rw [HML.out]
              have h8 : i * 1 ≤ i * (1 + z).toNat := Nat.mul_le_mul (Nat.le_refl _) (by omega)
              omega)
            have cS := same10_c _ _ (E.take (i * (1 + z).toNat)) E wr HO.out (LstIs.kept HE5.out HB.out) (by have := HK9.out; omega) (by rw [HML.out]; omega)
            rw [decide_eq_true hall] at cS
            have HBF := Lib.hid (HB5.out.trans (HB.out.mono HB5.out.size))
            clear hall
            obtain ⟨c0, hc0⟩ : ∃ c0, lastC 0 (E.take (i * (1 + z).toNat)) = c0 := ⟨_, rfl⟩
            (try rw [hc0])
            go_wp2_with (go_at_call 12; refine cS.mono ?_; rintro e w9 ⟨rfl, q9, hw9⟩; have HB9 : Hid (Below w.heap.size w w9) := Lib.hid (by rw [hw9]; exact below_drewN1 HBF.out q9); clear hw9)
            go_ret
            exact ⟨rfl, HB9.out⟩
end Go.Proofs.Ytmplekjiciedgaa
