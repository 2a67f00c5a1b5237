/-
  The law ImageWrites: of all trees the image is the chapter's, and not too long; the tree comes of it.
-/
import Derived.Test.YtddobjhahohhhaaGreatImLawKit
import Derived.Test.YtddobjhahohhhaaGreatImMade
import Derived.Test.YtddobjhahohhhaaGreatImRef
import Derived.Test.YtddobjhahohhhaaGreatImAlike
import Derived.Test.YtddobjhahohhhaaGreatMkSame
namespace Go.Proofs.YtddobjhahohhhaaGreat
open Go.RowKit Go.Sort
set_option linter.unusedVariables false
set_option linter.unusedSimpArgs false

theorem twin_list {l A : List Itm} {c c' : Int} (ht : Twin l A) (hg : GoodT l c) (hg' : GoodT A c') : ∀ q, listE A q = listE l q ∧ listI A q = listI l q := fun q => by
  have h1 : listE A q = listE l q := by
    unfold listE
    rw [ht.kind hg hg' q]
  refine ⟨h1, ?_⟩
  unfold listI
  rw [h1, ht.ents]
/-- Of a tree's own image a tree with the same entries comes. -/
def DecTwin (l : List Itm) (nx : Int) (w : World) (e : Ending) (w' : World) : Prop :=
  ∃ b A S, e = .returned (.tuple #[ptrV b, .int .i64 0]) ∧ theTree.Is w' b A nx S ∧ Twin l A ∧ dirsI A = dirsI l ∧ GoodT A nx ∧ Below w.heap.size w w'
theorem decTwin_c {l : List Itm} {nx : Int} (hg : GoodT l nx) (hx : nx ≤ 9223372036854775807) (w : World) :
    Calls Tryz.prog 9 #[.string ⟨(imgI l nx).toArray⟩] w (DecTwin l nx w) := by
  have hs := img_short hg
  refine (decodeI_c (imgI l nx) w (by omega)).mono ?_
  rintro e w' (⟨_, _, hno⟩ | ⟨b, A, nx', S, rfl, hi, _, hb, himg, hx'⟩)
  · exact absurd rfl (hno l nx hg hx)
  · obtain ⟨rfl, hd, ht⟩ := twin_img hg (theGood hi) hx hx' himg
    exact ⟨b, A, S, rfl, hi, ht, hd, theGood hi, hb⟩
set_option maxHeartbeats 8000000 in
set_option maxRecDepth 100000 in
theorem imageWrites_c (v : Value) (l : List OpT) (w : World) (hv : OpTs w v l) (hl : l.length ≤ 9223372036854775807) (hs : ∀ x ∈ l, x.s.size ≤ 9223372036854775807 ∧ x.ns.size ≤ 9223372036854775807) (hk : ∀ x ∈ l, 0 ≤ x.k ∧ x.k ≤ 255) :
    Calls Tryz.prog 3 #[v] w fun e w' => e = .returned (.bool true) ∧ Below w.heap.size w w' := by
  have cA := awake12_c
  have cF := fun W (h : OpTs W v l) => few10_c v l 80 W h hl (by omega) hs
  obtain ⟨R, hR⟩ : ∃ R, fewI l 80 = R := ⟨_, rfl⟩
  rw [hR] at cF
  have HV := Lib.hid hv
  obtain ⟨a, cap, rfl⟩ := hv.len
  cases R with
  | false =>
    clear hs hk
    go_enter Tryz.func3, Tryz.ntmps3
    go_wp2_with (first
      | (go_at_call 5; with_reducible refine (cA w).mono ?_; rintro e w1 ⟨rfl, hb1⟩; have HB1 := Lib.hid hb1; clear hb1)
      | (go_at_call 6; refine (cF _ (LstIs.kept HV.out HB1.out)).mono ?_; rintro e w2 ⟨rfl, hw2⟩; subst hw2)
      | (go_at_call 5; refine (cA _).mono ?_; rintro e w3 ⟨rfl, hb3⟩))
    go_ret
    exact ⟨rfl, HB1.out.trans (hb3.mono HB1.out.size)⟩
  | true =>
    have hm80 : l.length ≤ 80 := (fewI_spec hR (by omega)).1
    have cM := fun W (h : OpTs W (.slice a l.length cap) l) => made_c (.slice a l.length cap) l W h hm80 hs hk
    unfold MadePost treeV at cM
    clear hs hk hl hR hv
    obtain ⟨m, hm⟩ : ∃ m, l.length = m := ⟨_, rfl⟩
    simp only [hm] at cM cF HV hm80 ⊢
    clear hm
    go_enter Tryz.func3, Tryz.ntmps3
    go_upto_region 3 with (first
      | (go_at_call 5; with_reducible refine (cA w).mono ?_; rintro e w1 ⟨rfl, hb1⟩; have HB1 := Lib.hid hb1; clear hb1)
      | (go_at_call 6; refine (cF _ (LstIs.kept HV.out HB1.out)).mono ?_; rintro e w2 ⟨rfl, hw2⟩; subst hw2))
    clear cA cF
    go_upto_region 4 with (go_at_call 7; refine (cM _ (LstIs.kept HV.out HB1.out)).mono ?_; rintro e w3 ⟨b, L, nx, S, rv, rfl, hi3, hr3, _, hnx, hb3⟩; obtain ⟨ar, cr, hrv⟩ := hr3.1.len; subst hrv)
    obtain ⟨nl, hnl⟩ : ∃ nl, L.length = nl := ⟨_, rfl⟩
    simp only [hnl] at hr3 ⊢
    have HB3 : Hid (Below w.heap.size w (w3.alloc (.cells #[.slice ar nl cr, .int .i64 nx] 28))) := Lib.hid ((HB1.out.trans (hb3.mono HB1.out.size)).alloc (Nat.le_trans HB1.out.size hb3.size) _)
    have HI3 : Hid (theTree.Is (w3.alloc (.cells #[.slice ar nl cr, .int .i64 nx] 28)) b L nx S) := Lib.hid (theTree.below hi3 ((Below.refl _ _).alloc (Nat.le_refl _) _))
    have HR3 : Hid (ItmsT (w3.alloc (.cells #[.slice ar nl cr, .int .i64 nx] 28)) (.slice ar nl cr) L) := Lib.hid (hr3.kept ((Below.refl _ _).alloc (Nat.le_refl _) _))
    have HX3 : Hid ((w3.alloc (.cells #[.slice ar nl cr, .int .i64 nx] 28)).heap[w3.heap.size]? = some (.cells #[.slice ar nl cr, .int .i64 nx] 28 (0, 0))) := Lib.hid (heap_alloc_new _ _)
    have hg := theGood hi3
    have HG := Lib.hid hg
    have hx9 : nx ≤ 9223372036854775807 := by omega
    have hshort := img_short hg
    generalize (w3.alloc (.cells #[.slice ar nl cr, .int .i64 nx] 28)) = W3 at *
    generalize w3.heap.size = q at *
    clear hi3 hr3 hb3 cM hnl hg
    have cE := encode_c HI3.out hx9
    have cD := decTwin_c HG.out hx9
    have cI := fun W (h : ItmsT W (.slice ar nl cr) L) => image12_c (.slice ar nl cr) L nx W h HG.out hx9
    unfold DecTwin at cD
    unfold treeV at cI
    have HX9 := Lib.hid hx9
    obtain ⟨B, hB⟩ : ∃ B, imgI L nx = B := ⟨_, rfl⟩
    rw [hB] at cE cD cI hshort
    have hsh : (B.length : Int) ≤ 60000 := by omega
    clear hB hshort hx9 hnx
    go_upto_region 5 with (go_at_call 8; refine cE.mono ?_; rintro e w4 ⟨rfl, hb4⟩; have HI4 := Lib.hid (theTree.below HI3.out hb4); have HR4 := Lib.hid (HR3.out.kept hb4); have HX4 := Lib.hid ((hb4.block q (lt_of_get HX3.out)).trans HX3.out); have HB4 := Lib.hid (HB3.out.trans (hb4.mono HB3.out.size)); clear hb4)
    clear cE HI3 HR3 HX3 HB3
    go_upto_region 6 with (go_at_call 9; refine (cD _).mono ?_; rintro e w5 ⟨b5, A, S5, rfl, hi5, ht5, hd5, hg5, hb5⟩; have HI5 := Lib.hid (theTree.below HI4.out hb5); have HR5 := Lib.hid (HR4.out.kept hb5); have HX5 := Lib.hid ((hb5.block q (lt_of_get HX4.out)).trans HX4.out); have HB5 := Lib.hid (HB4.out.trans (hb5.mono HB4.out.size)); have HJ5 := Lib.hid hi5; have HT := Lib.hid ht5; have HD := Lib.hid hd5; have HG5 := Lib.hid hg5; clear hb5 hi5 ht5 hd5 hg5)
    clear cD HI4 HR4 HX4 HB4
    obtain ⟨⟨x0, x1⟩, _⟩ := two_cells HX5.out
    have hsz9 : (⟨B.toArray⟩ : ByteArray).size = B.length := rfl
    go_wp2_with (first
      | (go_at_call 10; refine (cI _ HR5.out).mono ?_; rintro e w6 ⟨rfl, hb6⟩; have HI6 := Lib.hid (theTree.below HI5.out hb6); have HR6 := Lib.hid (HR5.out.kept hb6); have HX6 := Lib.hid ((hb6.block q (lt_of_get HX5.out)).trans HX5.out); have HB6 := Lib.hid (HB5.out.trans (hb6.mono HB5.out.size)); have HJ6 := Lib.hid (theTree.below HJ5.out hb6); clear hb6; obtain ⟨⟨x0, x1⟩, _⟩ := two_cells HX6.out)
      | (go_at_call 11; refine (theSame2 HI6.out HJ6.out HT.out).mono ?_; rintro e w7 ⟨rfl, hb7⟩; have HR7 := Lib.hid (HR6.out.kept hb7); have HX7 := Lib.hid ((hb7.block q (lt_of_get HX6.out)).trans HX6.out); have HB7 := Lib.hid (HB6.out.trans (hb7.mono HB6.out.size)); have HJ7 := Lib.hid (theTree.below HJ6.out hb7); clear hb7; obtain ⟨⟨x0, x1⟩, _⟩ := two_cells HX7.out)
      | (go_at_call 12; refine (alike2_c theTree (.slice ar nl cr) HJ7.out HR7.out HD.out (twin_list HT.out HG.out HG5.out) (HT.out.len HG.out HG5.out)).mono ?_; rintro e w8 ⟨rfl, hb8⟩; have HB8 := Lib.hid (HB7.out.trans (hb8.mono HB7.out.size)); clear hb8))
    go_ret
    exact ⟨by first | rfl | simp, HB8.out⟩
end Go.Proofs.YtddobjhahohhhaaGreat
