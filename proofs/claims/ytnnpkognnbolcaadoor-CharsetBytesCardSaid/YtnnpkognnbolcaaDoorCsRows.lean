/-
  Plain facts: the project's rows of characters, and that each byte's character by them is the chapter's.
-/
import Derived.Test.YtnnpkognnbolcaaDoorPiece
namespace Go.Proofs.YtnnpkognnbolcaaDoor
open Go.Lib
set_option linter.unusedVariables false

def latin9R : List Int := [160, 161, 162, 163, 8364, 165, 352, 167, 353, 169, 170, 171, 172, 173, 174, 175, 176, 177, 178, 179, 381, 181, 182, 183, 382, 185, 186, 187, 338, 339, 376, 191, 192, 193, 194, 195, 196, 197, 198, 199, 200, 201, 202, 203, 204, 205, 206, 207, 208, 209, 210, 211, 212, 213, 214, 215, 216, 217, 218, 219, 220, 221, 222, 223, 224, 225, 226, 227, 228, 229, 230, 231, 232, 233, 234, 235, 236, 237, 238, 239, 240, 241, 242, 243, 244, 245, 246, 247, 248, 249, 250, 251, 252, 253, 254, 255]
def kanaR : List Int := [46, 46, 46, 46, 46, 46, 46, 46, 46, 46, 46, 46, 46, 46, 46, 46, 46, 46, 46, 46, 46, 46, 46, 46, 46, 46, 46, 46, 46, 46, 46, 46, 46, 65377, 65378, 65379, 65380, 65381, 65382, 65383, 65384, 65385, 65386, 65387, 65388, 65389, 65390, 65391, 65392, 65393, 65394, 65395, 65396, 65397, 65398, 65399, 65400, 65401, 65402, 65403, 65404, 65405, 65406, 65407, 65408, 65409, 65410, 65411, 65412, 65413, 65414, 65415, 65416, 65417, 65418, 65419, 65420, 65421, 65422, 65423, 65424, 65425, 65426, 65427, 65428, 65429, 65430, 65431, 65432, 65433, 65434, 65435, 65436, 65437, 65438, 65439]
def kana82R : List Int := [46, 46, 46, 46, 46, 46, 46, 46, 46, 46, 46, 46, 46, 46, 46, 65296, 65297, 65298, 65299, 65300, 65301, 65302, 65303, 65304, 65305, 46, 46, 46, 46, 46, 46, 46, 65313, 65314, 65315, 65316, 65317, 65318, 65319, 65320, 65321, 65322, 65323, 65324, 65325, 65326, 65327, 65328, 65329, 65330, 65331, 65332, 65333, 65334, 65335, 65336, 65337, 65338, 46, 46, 46, 46, 46, 46, 46, 65345, 65346, 65347, 65348, 65349, 65350, 65351, 65352, 65353, 65354, 65355, 65356, 65357, 65358, 65359, 65360, 65361, 65362, 65363, 65364, 65365, 65366, 65367, 65368, 65369, 65370, 46, 46, 46, 46, 12353, 12354, 12355, 12356, 12357, 12358, 12359, 12360, 12361, 12362, 12363, 12364, 12365, 12366, 12367, 12368, 12369, 12370, 12371, 12372, 12373, 12374, 12375, 12376, 12377, 12378, 12379, 12380, 12381, 12382, 12383, 12384, 12385, 12386, 12387, 12388, 12389, 12390, 12391, 12392, 12393, 12394, 12395, 12396, 12397, 12398, 12399, 12400, 12401, 12402, 12403, 12404, 12405, 12406, 12407, 12408, 12409, 12410, 12411, 12412, 12413, 12414, 12415, 12416, 12417, 12418, 12419, 12420, 12421, 12422, 12423, 12424, 12425, 12426, 12427, 12428, 12429, 12430, 12431, 12432, 12433, 12434, 12435]
def kana83R : List Int := [12449, 12450, 12451, 12452, 12453, 12454, 12455, 12456, 12457, 12458, 12459, 12460, 12461, 12462, 12463, 12464, 12465, 12466, 12467, 12468, 12469, 12470, 12471, 12472, 12473, 12474, 12475, 12476, 12477, 12478, 12479, 12480, 12481, 12482, 12483, 12484, 12485, 12486, 12487, 12488, 12489, 12490, 12491, 12492, 12493, 12494, 12495, 12496, 12497, 12498, 12499, 12500, 12501, 12502, 12503, 12504, 12505, 12506, 12507, 12508, 12509, 12510, 12511, 46, 12512, 12513, 12514, 12515, 12516, 12517, 12518, 12519, 12520, 12521, 12522, 12523, 12524, 12525, 12526, 12527, 12528, 12529, 12530, 12531, 12532, 12533, 12534, 46, 46, 46, 46, 46, 46, 46, 46, 913, 914, 915, 916, 917, 918, 919, 920, 921, 922, 923, 924, 925, 926, 927, 928, 929, 931, 932, 933, 934, 935, 936, 937, 46, 46, 46, 46, 46, 46, 46, 46, 945, 946, 947, 948, 949, 950, 951, 952, 953, 954, 955, 956, 957, 958, 959, 960, 961, 963, 964, 965, 966, 967, 968, 969]
def kana84R : List Int := [1040, 1041, 1042, 1043, 1044, 1045, 1025, 1046, 1047, 1048, 1049, 1050, 1051, 1052, 1053, 1054, 1055, 1056, 1057, 1058, 1059, 1060, 1061, 1062, 1063, 1064, 1065, 1066, 1067, 1068, 1069, 1070, 1071, 46, 46, 46, 46, 46, 46, 46, 46, 46, 46, 46, 46, 46, 46, 46, 1072, 1073, 1074, 1075, 1076, 1077, 1105, 1078, 1079, 1080, 1081, 1082, 1083, 1084, 1085, 46, 1086, 1087, 1088, 1089, 1090, 1091, 1092, 1093, 1094, 1095, 1096, 1097, 1098, 1099, 1100, 1101, 1102, 1103]

/-- The k-th character of a row, unless a gap (46) stands there. -/
def atL : List Int → Int → Option Int
  | [], _ => none
  | r :: rs, k => if k = 0 ∧ r ≠ 46 then some r else atL rs (k - 1)
/-- The first place of a character in a row that begins at b; a gap's sign is none. -/
def findL : List Int → Int → Int → Option Int
  | [], _, _ => none
  | c :: cs, r, b => if c = r ∧ c ≠ 46 then some b else findL cs r (b + 1)

def singleF (enc : Int) : Int := if enc = 1 then 256 else if enc = 2 then 160 else if enc = 3 then 160 else 128
def singleL (enc : Int) : List Int := if enc = 2 then latin2R else if enc = 3 then latin9R else if enc = 4 then cp437R else if enc = 5 then cp850R else if enc = 6 then kanaR else []
def doubleF (enc lead : Int) : Int := if enc = 6 ∧ (lead = 130 ∨ lead = 131 ∨ lead = 132) then 64 else 0
def doubleL (enc lead : Int) : List Int := if enc = 6 then (if lead = 130 then kana82R else if lead = 131 then kana83R else if lead = 132 then kana84R else []) else []

theorem singleL_ok (enc : Int) : (singleL enc).filter isR = singleL enc ∧ (singleL enc).length ≤ 200 := by
  unfold singleL
  (repeat' split) <;> decide +kernel
theorem doubleL_ok (enc lead : Int) : (doubleL enc lead).filter isR = doubleL enc lead ∧ (doubleL enc lead).length ≤ 200 := by
  unfold doubleL
  (repeat' split) <;> decide +kernel
theorem single_fit (enc : Int) : 0 ≤ singleF enc ∧ singleF enc + (singleL enc).length ≤ 256 := by
  unfold singleF singleL
  (repeat' split) <;> first | omega | (subst_vars; decide +kernel)
theorem double_fit (enc lead : Int) : 0 ≤ doubleF enc lead ∧ doubleF enc lead + (doubleL enc lead).length ≤ 256 := by
  unfold doubleF doubleL
  by_cases h : enc = 6
  · subst h
    by_cases h1 : lead = 130
    · subst h1; decide +kernel
    · by_cases h2 : lead = 131
      · subst h2; decide +kernel
      · by_cases h3 : lead = 132
        · subst h3; decide +kernel
        · simp [h1, h2, h3]
  · simp [h]

theorem atL_none_neg : ∀ (l : List Int) (k : Int), k < 0 → atL l k = none
  | [], _, _ => rfl
  | r :: rs, k, h => by unfold atL; rw [if_neg (by omega)]; exact atL_none_neg rs _ (by omega)
theorem findL_some : ∀ (l : List Int) (r f b : Int), findL l r f = some b → f ≤ b ∧ b < f + l.length ∧ atL l (b - f) = some r
  | [], _, _, _, h => by cases h
  | c :: cs, r, f, b, h => by
    unfold findL at h
    by_cases hc : c = r ∧ c ≠ 46
    · rw [if_pos hc] at h
      cases h
      refine ⟨by omega, by rw [List.length_cons]; omega, ?_⟩
      unfold atL
      rw [if_pos ⟨by omega, hc.2⟩, hc.1]
    · rw [if_neg hc] at h
      obtain ⟨h1, h2, h3⟩ := findL_some cs r (f + 1) b h
      refine ⟨by omega, by rw [List.length_cons]; omega, ?_⟩
      unfold atL
      rw [if_neg (by omega), show b - f - 1 = b - (f + 1) by omega, h3]
theorem findL_none : ∀ (l : List Int) (r f : Int), findL l r f = none → ∀ k, atL l k ≠ some r
  | [], _, _, _, _ => by intro h; cases h
  | c :: cs, r, f, h, k => by
    unfold findL at h
    by_cases hc : c = r ∧ c ≠ 46
    · rw [if_pos hc] at h; cases h
    · rw [if_neg hc] at h
      unfold atL
      by_cases hk : k = 0 ∧ c ≠ 46
      · rw [if_pos hk]
        intro h'
        cases h'
        exact hc ⟨rfl, hk.2⟩
      · rw [if_neg hk]
        exact findL_none cs r (f + 1) h _

/-- A byte's character by the project's rows; -1: it has none. -/
def oneP (enc b : Int) : Int := if b < singleF enc then b else (atL (singleL enc) (b - singleF enc)).getD (-1)
def twoP (a b : Int) : Int := (atL (doubleL 6 a) (b - doubleF 6 a)).getD (-1)
def oneCheck : Bool := (List.range 7).all fun e => (List.range 256).all fun b => decide (oneP e b = oneI e b)
def twoCheckP : Bool := [130, 131, 132].all fun a => (List.range 256).all fun b => decide (twoP a b = twoI a b)
set_option maxRecDepth 100000 in
theorem oneCheck_true : oneCheck = true := by decide +kernel
set_option maxRecDepth 100000 in
theorem twoCheckP_true : twoCheckP = true := by decide +kernel
theorem oneP_eq {enc b : Int} (h0 : 0 ≤ enc) (h6 : enc ≤ 6) (hb : 0 ≤ b) (hb' : b ≤ 255) : oneP enc b = oneI enc b := by
  obtain ⟨e, rfl⟩ : ∃ e : Nat, enc = (e : Int) := ⟨enc.toNat, by omega⟩
  obtain ⟨c, rfl⟩ : ∃ c : Nat, b = (c : Int) := ⟨b.toNat, by omega⟩
  have h1 := List.all_eq_true.1 oneCheck_true e (List.mem_range.2 (by omega))
  have h2 := List.all_eq_true.1 h1 c (List.mem_range.2 (by omega))
  exact of_decide_eq_true h2
theorem twoP_eq {a b : Int} (hb : 0 ≤ b) (hb' : b ≤ 255) : twoP a b = twoI a b := by
  obtain ⟨c, rfl⟩ : ∃ c : Nat, b = (c : Int) := ⟨b.toNat, by omega⟩
  by_cases ha : a = 130 ∨ a = 131 ∨ a = 132
  · have hm : a ∈ ([130, 131, 132] : List Int) := by rcases ha with rfl | rfl | rfl <;> simp
    have h1 := List.all_eq_true.1 twoCheckP_true a hm
    have h2 := List.all_eq_true.1 h1 c (List.mem_range.2 (by omega))
    exact of_decide_eq_true h2
  · have h2 : twoI a (c : Int) = -1 := by
      unfold twoI
      (repeat' split) <;> first | rfl | omega
    rw [h2]
    unfold twoP doubleL
    rw [if_pos rfl, if_neg (by omega), if_neg (by omega), if_neg (by omega)]
    rfl
/-- A row's character is a character. -/
theorem atL_mem : ∀ (l : List Int) (k r : Int), atL l k = some r → r ∈ l
  | [], _, _, h => by cases h
  | c :: cs, k, r, h => by
    unfold atL at h
    by_cases hk : k = 0 ∧ c ≠ 46
    · rw [if_pos hk] at h; cases h; exact List.mem_cons_self
    · rw [if_neg hk] at h; exact List.mem_cons_of_mem _ (atL_mem cs _ r h)
theorem atL_isR {l : List Int} (hl : l.filter isR = l) {k r : Int} (h : atL l k = some r) : isR r = true := by
  have hm := atL_mem l k r h
  rw [← hl] at hm
  exact (List.mem_filter.1 hm).2

/-- What writes one byte. -/
def writeP (enc r : Int) : Option Int := if 0 ≤ r ∧ r < singleF enc then some r else findL (singleL enc) r (singleF enc)
theorem oneP_at {enc b r : Int} (h : atL (singleL enc) b = some r) (hb : 0 ≤ b) : oneP enc (b + singleF enc) = r := by
  unfold oneP
  rw [if_neg (by omega), show b + singleF enc - singleF enc = b by omega, h]
  rfl
theorem writeP_range {enc r b : Int} (h : writeP enc r = some b) : 0 ≤ b ∧ b ≤ 255 := by
  have hf := single_fit enc
  unfold writeP at h
  by_cases hr : 0 ≤ r ∧ r < singleF enc
  · rw [if_pos hr] at h; cases h; omega
  · rw [if_neg hr] at h
    have := findL_some _ _ _ _ h
    omega
theorem writeP_one {enc r b : Int} (h : writeP enc r = some b) : oneP enc b = r ∧ 0 ≤ r := by
  have hf := single_fit enc
  unfold writeP at h
  by_cases hr : 0 ≤ r ∧ r < singleF enc
  · rw [if_pos hr] at h; cases h
    exact ⟨by unfold oneP; rw [if_pos hr.2], hr.1⟩
  · rw [if_neg hr] at h
    obtain ⟨h1, h2, h3⟩ := findL_some _ _ _ _ h
    have h4 := oneP_at h3 (by omega)
    rw [show b - singleF enc + singleF enc = b by omega] at h4
    have h5 := isR_is (atL_isR (singleL_ok enc).1 h3)
    exact ⟨h4, by omega⟩
theorem writeP_none {enc r : Int} (h : writeP enc r = none) (hr : 0 ≤ r) (b : Int) : oneP enc b ≠ r := by
  unfold writeP at h
  by_cases h1 : 0 ≤ r ∧ r < singleF enc
  · rw [if_pos h1] at h; cases h
  · rw [if_neg h1] at h
    have hno := findL_none _ _ _ h
    unfold oneP
    by_cases hb : b < singleF enc
    · rw [if_pos hb]; omega
    · rw [if_neg hb]
      cases ha : atL (singleL enc) (b - singleF enc) with
      | none => simp only [Option.getD_none]; omega
      | some x =>
        simp only [Option.getD_some]
        intro h'
        subst h'
        exact hno _ ha
/-- What is written by one byte is the chapter's. -/
theorem oneAt_write {enc r : Int} (h0 : 0 ≤ enc) (h6 : enc ≤ 6) (hr : 0 ≤ r) : oneAt enc r = (writeP enc r).map Int.toNat := by
  cases hw : writeP enc r with
  | none =>
    rw [Option.map_none]
    exact oneAt_none (fun j hj he => writeP_none hw hr j (by rw [oneP_eq h0 h6 (by omega) (by omega)]; exact he))
  | some b =>
    rw [Option.map_some]
    obtain ⟨hb, hb'⟩ := writeP_range hw
    have h1 := (writeP_one hw).1
    rw [oneP_eq h0 h6 hb hb'] at h1
    refine oneAt_some (by omega) (by rw [show ((b.toNat : Nat) : Int) = b by omega]; exact h1) (fun j hj he => ?_)
    have := oneI_inj h0 h6 (b := (j : Int)) (c := b) (by omega) (by omega) hb hb' (by omega) (by rw [he, h1])
    omega
theorem writeP_not {enc r : Int} (h0 : 0 ≤ enc) (h6 : enc ≤ 6) (hr : isR r = false) : writeP enc r = none := by
  cases hw : writeP enc r with
  | none => rfl
  | some b =>
    exfalso
    obtain ⟨hb, hb'⟩ := writeP_range hw
    obtain ⟨h1, hp⟩ := writeP_one hw
    rw [oneP_eq h0 h6 hb hb'] at h1
    have hk := isR_isnt hr
    rcases oneI_ok h0 h6 hb hb' with k | ⟨k1, k2⟩ | ⟨k1, k2, k3⟩ <;> omega

/-- What writes the second byte behind a first one. -/
def write2P (enc a r : Int) : Option Int := findL (doubleL enc a) r (doubleF enc a)
theorem write2P_range {enc a r b : Int} (h : write2P enc a r = some b) : 0 ≤ b ∧ b ≤ 255 := by
  have hf := double_fit enc a
  have := findL_some _ _ _ _ h
  omega
theorem write2P_else {enc a r : Int} (h : enc ≠ 6) : write2P enc a r = none := by
  unfold write2P doubleL
  rw [if_neg h]
  rfl
theorem write2P_isR {enc a r b : Int} (h : write2P enc a r = some b) : isR r = true :=
  atL_isR (doubleL_ok enc a).1 (findL_some _ _ _ _ h).2.2
theorem twoAt_write {a r : Int} (hr : 0 ≤ r) : twoAt a r = (write2P 6 a r).map Int.toNat := by
  cases hw : write2P 6 a r with
  | none =>
    rw [Option.map_none]
    refine twoAt_none (fun j hj he => ?_)
    rw [← twoP_eq (by omega) (by omega)] at he
    have hno := findL_none _ _ _ hw
    unfold twoP at he
    cases ha : atL (doubleL 6 a) ((j : Int) - doubleF 6 a) with
    | none => rw [ha] at he; simp only [Option.getD_none] at he; omega
    | some x => rw [ha] at he; simp only [Option.getD_some] at he; subst he; exact hno _ ha
  | some b =>
    rw [Option.map_some]
    obtain ⟨hb, hb'⟩ := write2P_range hw
    have h1 : twoP a b = r := by unfold twoP; rw [(findL_some _ _ _ _ hw).2.2]; rfl
    rw [twoP_eq hb hb'] at h1
    refine twoAt_some (by omega) (by rw [show ((b.toNat : Nat) : Int) = b by omega]; exact h1) (fun j hj he => ?_)
    have := two_inj (a := a) (c := a) (b := j) (d := b.toNat) (by omega) (by omega) (by omega) (by rw [he, show ((b.toNat : Nat) : Int) = b by omega, h1])
    omega

/-- The bytes of a character by the project's rows. -/
def encP (enc r : Int) : Option (List Int) :=
  match writeP enc r with
  | some b => some [b]
  | none => match write2P enc 130 r with
    | some b => some [130, b]
    | none => match write2P enc 131 r with
      | some b => some [131, b]
      | none => match write2P enc 132 r with
        | some b => some [132, b]
        | none => none
theorem encP_eq {enc r : Int} (h0 : 0 ≤ enc) (h6 : enc ≤ 6) : encP enc r = encI enc r := by
  unfold encP encI
  by_cases hr : isR r = true
  · have hi := isR_is hr
    rw [if_neg (by rw [hr]; decide), if_neg (by omega), oneAt_write h0 h6 (by omega)]
    cases hw : writeP enc r with
    | some b =>
      have := writeP_range hw
      simp only [Option.map_some]
      rw [show ((b.toNat : Nat) : Int) = b by omega]
    | none =>
      simp only [Option.map_none]
      by_cases he : enc = 6
      · subst he
        rw [if_pos rfl]
        unfold twosAt
        rw [twoAt_write (by omega), twoAt_write (by omega), twoAt_write (by omega)]
        cases h1 : write2P 6 130 r with
        | some b =>
          have := write2P_range h1
          simp only [Option.map_some]
          rw [show ((b.toNat : Nat) : Int) = b by omega]
        | none =>
          simp only [Option.map_none]
          cases h2 : write2P 6 131 r with
          | some b =>
            have := write2P_range h2
            simp only [Option.map_some]
            rw [show ((b.toNat : Nat) : Int) = b by omega]
          | none =>
            simp only [Option.map_none]
            cases h3 : write2P 6 132 r with
            | some b =>
              have := write2P_range h3
              simp only [Option.map_some]
              rw [show ((b.toNat : Nat) : Int) = b by omega]
            | none => rfl
      · rw [if_neg he, write2P_else he, write2P_else he, write2P_else he]
  · have hr' : isR r = false := by simpa using hr
    rw [if_pos hr', writeP_not h0 h6 hr']
    have hn : ∀ a, write2P enc a r = none := fun a => by
      cases h : write2P enc a r with
      | none => rfl
      | some b => have := write2P_isR h; rw [hr'] at this; cases this
    rw [hn, hn, hn]
end Go.Proofs.YtnnpkognnbolcaaDoor
