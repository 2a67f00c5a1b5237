/- Kit. -/
import Derived.Test.YtfioknaadbgjlaaGreatDoorNK1
import Derived.Test.YtfioknaadbgjlaaGreatDoorProg
import Derived.WalkKit
import Derived.WalkSpells
import Derived.IntWalk
import Derived.Lib.Hide
set_option maxRecDepth 100000
set_option linter.unusedVariables false
set_option linter.unusedSimpArgs false
namespace Go.Proofs.YtfioknaadbgjlaaGreatDoor.F
open Go.RowKit
theorem greek_c (first n:Int)(h1:0≤first)(h2:first≤100000)(h3:0≤n)(h4:n≤255)(w:World) :
    Calls Tryz.prog 214 #[.int .i64 first,.int .i64 n] w fun e w'=>e=.returned (.int .i64 (greekI first n))∧w=w':=by
  by_cases h:17≤n
  · have HX:=Lib.hid (show greekI first n=first+(n+1) by unfold greekI;rw[if_pos h])
    go_enter Tryz.func214,Tryz.ntmps214
    go_wp2
    go_ret
    exact⟨by rw[HX.out];rfl,rfl⟩
  · have HX:=Lib.hid (show greekI first n=first+n by unfold greekI;rw[if_neg h])
    go_enter Tryz.func214,Tryz.ntmps214
    go_wp2
    go_ret
    exact⟨by rw[HX.out];rfl,rfl⟩
theorem russian_c (first yo n:Int)(h1:0≤first)(h2:first≤100000)(h3:0≤n)(h4:n≤255)(w:World) :
    Calls Tryz.prog 215 #[.int .i64 first,.int .i64 yo,.int .i64 n] w fun e w'=>e=.returned (.int .i64 (russianI first yo n))∧w=w':=by
  by_cases h:n=6
  · subst h
    have HX:=Lib.hid (show russianI first yo 6=yo by unfold russianI;rw[if_pos rfl])
    go_enter Tryz.func215,Tryz.ntmps215
    go_wp2
    go_ret
    exact⟨by rw[HX.out];rfl,rfl⟩
  · have h':(n==(6:Int))=false:=by rw[beq_eq_false_iff_ne];exact h
    by_cases h6:6<n
    · have HX:=Lib.hid (show russianI first yo n=first+(n-1) by unfold russianI;rw[if_neg h,if_pos h6])
      clear h
      go_enter Tryz.func215,Tryz.ntmps215
      go_wp2
      go_ret
      exact⟨by rw[HX.out];rfl,rfl⟩
    · have HX:=Lib.hid (show russianI first yo n=first+n by unfold russianI;rw[if_neg h,if_neg h6])
      clear h
      go_enter Tryz.func215,Tryz.ntmps215
      go_wp2
      go_ret
      exact⟨by rw[HX.out];rfl,rfl⟩
theorem two_130_0 (b:Int)(h1:0≤b)(h2:b≤78)(w:World):Calls Tryz.prog 194 #[.int .i64 130,.int .i64 b] w fun e w'=>e=.returned (.int .i64 (twoI 130 b))∧w=w':=by
  have HX:=Lib.hid (show twoI 130 b=-1 by unfold twoI;(repeat' split)<;>first|rfl|omega)
  have t0:¬((79:Int)≤b):=by omega
  have t1:b≤(88:Int):=by omega
  have t2:¬((96:Int)≤b):=by omega
  have t3:b≤(121:Int):=by omega
  have t4:¬((129:Int)≤b):=by omega
  have t5:b≤(154:Int):=by omega
  have t6:¬((159:Int)≤b):=by omega
  have t7:b≤(241:Int):=by omega
  go_enter Tryz.func194,Tryz.ntmps194
  go_wp2
  go_ret
  exact⟨by rw[HX.out];rfl,rfl⟩
theorem two_130_79 (b:Int)(h1:79≤b)(h2:b≤88)(w:World):Calls Tryz.prog 194 #[.int .i64 130,.int .i64 b] w fun e w'=>e=.returned (.int .i64 (twoI 130 b))∧w=w':=by
  have HX:=Lib.hid (show twoI 130 b=65296+b-79 by unfold twoI;(repeat' split)<;>first|rfl|omega)
  have t0:(79:Int)≤b:=by omega
  have t1:b≤(88:Int):=by omega
  have t2:¬((96:Int)≤b):=by omega
  have t3:b≤(121:Int):=by omega
  have t4:¬((129:Int)≤b):=by omega
  have t5:b≤(154:Int):=by omega
  have t6:¬((159:Int)≤b):=by omega
  have t7:b≤(241:Int):=by omega
  go_enter Tryz.func194,Tryz.ntmps194
  go_wp2
  go_ret
  exact⟨by rw[HX.out];rfl,rfl⟩
theorem two_130_89 (b:Int)(h1:89≤b)(h2:b≤95)(w:World):Calls Tryz.prog 194 #[.int .i64 130,.int .i64 b] w fun e w'=>e=.returned (.int .i64 (twoI 130 b))∧w=w':=by
  have HX:=Lib.hid (show twoI 130 b=-1 by unfold twoI;(repeat' split)<;>first|rfl|omega)
  have t0:(79:Int)≤b:=by omega
  have t1:¬(b≤(88:Int)):=by omega
  have t2:¬((96:Int)≤b):=by omega
  have t3:b≤(121:Int):=by omega
  have t4:¬((129:Int)≤b):=by omega
  have t5:b≤(154:Int):=by omega
  have t6:¬((159:Int)≤b):=by omega
  have t7:b≤(241:Int):=by omega
  go_enter Tryz.func194,Tryz.ntmps194
  go_wp2
  go_ret
  exact⟨by rw[HX.out];rfl,rfl⟩
theorem two_130_96 (b:Int)(h1:96≤b)(h2:b≤121)(w:World):Calls Tryz.prog 194 #[.int .i64 130,.int .i64 b] w fun e w'=>e=.returned (.int .i64 (twoI 130 b))∧w=w':=by
  have HX:=Lib.hid (show twoI 130 b=65313+b-96 by unfold twoI;(repeat' split)<;>first|rfl|omega)
  have t0:(79:Int)≤b:=by omega
  have t1:¬(b≤(88:Int)):=by omega
  have t2:(96:Int)≤b:=by omega
  have t3:b≤(121:Int):=by omega
  have t4:¬((129:Int)≤b):=by omega
  have t5:b≤(154:Int):=by omega
  have t6:¬((159:Int)≤b):=by omega
  have t7:b≤(241:Int):=by omega
  go_enter Tryz.func194,Tryz.ntmps194
  go_wp2
  go_ret
  exact⟨by rw[HX.out];rfl,rfl⟩
theorem two_130_122 (b:Int)(h1:122≤b)(h2:b≤128)(w:World):Calls Tryz.prog 194 #[.int .i64 130,.int .i64 b] w fun e w'=>e=.returned (.int .i64 (twoI 130 b))∧w=w':=by
  have HX:=Lib.hid (show twoI 130 b=-1 by unfold twoI;(repeat' split)<;>first|rfl|omega)
  have t0:(79:Int)≤b:=by omega
  have t1:¬(b≤(88:Int)):=by omega
  have t2:(96:Int)≤b:=by omega
  have t3:¬(b≤(121:Int)):=by omega
  have t4:¬((129:Int)≤b):=by omega
  have t5:b≤(154:Int):=by omega
  have t6:¬((159:Int)≤b):=by omega
  have t7:b≤(241:Int):=by omega
  go_enter Tryz.func194,Tryz.ntmps194
  go_wp2
  go_ret
  exact⟨by rw[HX.out];rfl,rfl⟩
theorem two_130_129 (b:Int)(h1:129≤b)(h2:b≤154)(w:World):Calls Tryz.prog 194 #[.int .i64 130,.int .i64 b] w fun e w'=>e=.returned (.int .i64 (twoI 130 b))∧w=w':=by
  have HX:=Lib.hid (show twoI 130 b=65345+b-129 by unfold twoI;(repeat' split)<;>first|rfl|omega)
  have t0:(79:Int)≤b:=by omega
  have t1:¬(b≤(88:Int)):=by omega
  have t2:(96:Int)≤b:=by omega
  have t3:¬(b≤(121:Int)):=by omega
  have t4:(129:Int)≤b:=by omega
  have t5:b≤(154:Int):=by omega
  have t6:¬((159:Int)≤b):=by omega
  have t7:b≤(241:Int):=by omega
  go_enter Tryz.func194,Tryz.ntmps194
  go_wp2
  go_ret
  exact⟨by rw[HX.out];rfl,rfl⟩
theorem two_130_155 (b:Int)(h1:155≤b)(h2:b≤158)(w:World):Calls Tryz.prog 194 #[.int .i64 130,.int .i64 b] w fun e w'=>e=.returned (.int .i64 (twoI 130 b))∧w=w':=by
  have HX:=Lib.hid (show twoI 130 b=-1 by unfold twoI;(repeat' split)<;>first|rfl|omega)
  have t0:(79:Int)≤b:=by omega
  have t1:¬(b≤(88:Int)):=by omega
  have t2:(96:Int)≤b:=by omega
  have t3:¬(b≤(121:Int)):=by omega
  have t4:(129:Int)≤b:=by omega
  have t5:¬(b≤(154:Int)):=by omega
  have t6:¬((159:Int)≤b):=by omega
  have t7:b≤(241:Int):=by omega
  go_enter Tryz.func194,Tryz.ntmps194
  go_wp2
  go_ret
  exact⟨by rw[HX.out];rfl,rfl⟩
theorem two_130_159 (b:Int)(h1:159≤b)(h2:b≤241)(w:World):Calls Tryz.prog 194 #[.int .i64 130,.int .i64 b] w fun e w'=>e=.returned (.int .i64 (twoI 130 b))∧w=w':=by
  have HX:=Lib.hid (show twoI 130 b=12353+b-159 by unfold twoI;(repeat' split)<;>first|rfl|omega)
  have t0:(79:Int)≤b:=by omega
  have t1:¬(b≤(88:Int)):=by omega
  have t2:(96:Int)≤b:=by omega
  have t3:¬(b≤(121:Int)):=by omega
  have t4:(129:Int)≤b:=by omega
  have t5:¬(b≤(154:Int)):=by omega
  have t6:(159:Int)≤b:=by omega
  have t7:b≤(241:Int):=by omega
  go_enter Tryz.func194,Tryz.ntmps194
  go_wp2
  go_ret
  exact⟨by rw[HX.out];rfl,rfl⟩
theorem two_130_242 (b:Int)(h1:242≤b)(h2:b≤255)(w:World):Calls Tryz.prog 194 #[.int .i64 130,.int .i64 b] w fun e w'=>e=.returned (.int .i64 (twoI 130 b))∧w=w':=by
  have HX:=Lib.hid (show twoI 130 b=-1 by unfold twoI;(repeat' split)<;>first|rfl|omega)
  have t0:(79:Int)≤b:=by omega
  have t1:¬(b≤(88:Int)):=by omega
  have t2:(96:Int)≤b:=by omega
  have t3:¬(b≤(121:Int)):=by omega
  have t4:(129:Int)≤b:=by omega
  have t5:¬(b≤(154:Int)):=by omega
  have t6:(159:Int)≤b:=by omega
  have t7:¬(b≤(241:Int)):=by omega
  go_enter Tryz.func194,Tryz.ntmps194
  go_wp2
  go_ret
  exact⟨by rw[HX.out];rfl,rfl⟩
theorem two_131_0 (b:Int)(h1:0≤b)(h2:b≤63)(w:World):Calls Tryz.prog 194 #[.int .i64 131,.int .i64 b] w fun e w'=>e=.returned (.int .i64 (twoI 131 b))∧w=w':=by
  have HX:=Lib.hid (show twoI 131 b=-1 by unfold twoI;(repeat' split)<;>first|rfl|omega)
  have t0:¬((64:Int)≤b):=by omega
  have t1:b≤(150:Int):=by omega
  have t2:(b==(127:Int))=false:=by rw[beq_eq_false_iff_ne];omega
  have t3:¬((127:Int)<b):=by omega
  have t4:¬((159:Int)≤b):=by omega
  have t5:b≤(182:Int):=by omega
  have t6:¬((191:Int)≤b):=by omega
  have t7:b≤(214:Int):=by omega
  go_enter Tryz.func194,Tryz.ntmps194
  go_wp2
  go_ret
  exact⟨by rw[HX.out];rfl,rfl⟩
theorem two_131_64 (b:Int)(h1:64≤b)(h2:b≤126)(w:World):Calls Tryz.prog 194 #[.int .i64 131,.int .i64 b] w fun e w'=>e=.returned (.int .i64 (twoI 131 b))∧w=w':=by
  have HX:=Lib.hid (show twoI 131 b=12449+(b-64) by unfold twoI;(repeat' split)<;>first|rfl|omega)
  have t0:(64:Int)≤b:=by omega
  have t1:b≤(150:Int):=by omega
  have t2:(b==(127:Int))=false:=by rw[beq_eq_false_iff_ne];omega
  have t3:¬((127:Int)<b):=by omega
  have t4:¬((159:Int)≤b):=by omega
  have t5:b≤(182:Int):=by omega
  have t6:¬((191:Int)≤b):=by omega
  have t7:b≤(214:Int):=by omega
  go_enter Tryz.func194,Tryz.ntmps194
  go_wp2
  go_ret
  exact⟨by rw[HX.out];rfl,rfl⟩
theorem two_131_127 (b:Int)(h1:127≤b)(h2:b≤127)(w:World):Calls Tryz.prog 194 #[.int .i64 131,.int .i64 b] w fun e w'=>e=.returned (.int .i64 (twoI 131 b))∧w=w':=by
  have HX:=Lib.hid (show twoI 131 b=-1 by unfold twoI;(repeat' split)<;>first|rfl|omega)
  have t0:(64:Int)≤b:=by omega
  have t1:b≤(150:Int):=by omega
  have t2:(b==(127:Int))=true:=by rw[beq_iff_eq];omega
  have t3:¬((127:Int)<b):=by omega
  have t4:¬((159:Int)≤b):=by omega
  have t5:b≤(182:Int):=by omega
  have t6:¬((191:Int)≤b):=by omega
  have t7:b≤(214:Int):=by omega
  go_enter Tryz.func194,Tryz.ntmps194
  go_wp2
  go_ret
  exact⟨by rw[HX.out];rfl,rfl⟩
theorem two_131_128 (b:Int)(h1:128≤b)(h2:b≤150)(w:World):Calls Tryz.prog 194 #[.int .i64 131,.int .i64 b] w fun e w'=>e=.returned (.int .i64 (twoI 131 b))∧w=w':=by
  have HX:=Lib.hid (show twoI 131 b=12449+(b-64-1) by unfold twoI;(repeat' split)<;>first|rfl|omega)
  have t0:(64:Int)≤b:=by omega
  have t1:b≤(150:Int):=by omega
  have t2:(b==(127:Int))=false:=by rw[beq_eq_false_iff_ne];omega
  have t3:(127:Int)<b:=by omega
  have t4:¬((159:Int)≤b):=by omega
  have t5:b≤(182:Int):=by omega
  have t6:¬((191:Int)≤b):=by omega
  have t7:b≤(214:Int):=by omega
  go_enter Tryz.func194,Tryz.ntmps194
  go_wp2
  go_ret
  exact⟨by rw[HX.out];rfl,rfl⟩
theorem two_131_151 (b:Int)(h1:151≤b)(h2:b≤158)(w:World):Calls Tryz.prog 194 #[.int .i64 131,.int .i64 b] w fun e w'=>e=.returned (.int .i64 (twoI 131 b))∧w=w':=by
  have HX:=Lib.hid (show twoI 131 b=-1 by unfold twoI;(repeat' split)<;>first|rfl|omega)
  have t0:(64:Int)≤b:=by omega
  have t1:¬(b≤(150:Int)):=by omega
  have t2:(b==(127:Int))=false:=by rw[beq_eq_false_iff_ne];omega
  have t3:(127:Int)<b:=by omega
  have t4:¬((159:Int)≤b):=by omega
  have t5:b≤(182:Int):=by omega
  have t6:¬((191:Int)≤b):=by omega
  have t7:b≤(214:Int):=by omega
  go_enter Tryz.func194,Tryz.ntmps194
  go_wp2
  go_ret
  exact⟨by rw[HX.out];rfl,rfl⟩
theorem two_131_159 (b:Int)(h1:159≤b)(h2:b≤182)(w:World):Calls Tryz.prog 194 #[.int .i64 131,.int .i64 b] w fun e w'=>e=.returned (.int .i64 (twoI 131 b))∧w=w':=by
  have HX:=Lib.hid (show twoI 131 b=greekI 913 (b-159) by unfold twoI;(repeat' split)<;>first|rfl|omega)
  have t0:(64:Int)≤b:=by omega
  have t1:¬(b≤(150:Int)):=by omega
  have t2:(b==(127:Int))=false:=by rw[beq_eq_false_iff_ne];omega
  have t3:(127:Int)<b:=by omega
  have t4:(159:Int)≤b:=by omega
  have t5:b≤(182:Int):=by omega
  have t6:¬((191:Int)≤b):=by omega
  have t7:b≤(214:Int):=by omega
  go_enter Tryz.func194,Tryz.ntmps194
  go_wp2_with (go_at_call 214;refine(greek_c _ _ (by omega) (by omega) (by omega) (by omega) _).mono ?_;rintro e w' ⟨rfl,rfl⟩)
  go_ret
  exact⟨by rw[HX.out];rfl,rfl⟩
theorem two_131_183 (b:Int)(h1:183≤b)(h2:b≤190)(w:World):Calls Tryz.prog 194 #[.int .i64 131,.int .i64 b] w fun e w'=>e=.returned (.int .i64 (twoI 131 b))∧w=w':=by
  have HX:=Lib.hid (show twoI 131 b=-1 by unfold twoI;(repeat' split)<;>first|rfl|omega)
  have t0:(64:Int)≤b:=by omega
  have t1:¬(b≤(150:Int)):=by omega
  have t2:(b==(127:Int))=false:=by rw[beq_eq_false_iff_ne];omega
  have t3:(127:Int)<b:=by omega
  have t4:(159:Int)≤b:=by omega
  have t5:¬(b≤(182:Int)):=by omega
  have t6:¬((191:Int)≤b):=by omega
  have t7:b≤(214:Int):=by omega
  go_enter Tryz.func194,Tryz.ntmps194
  go_wp2
  go_ret
  exact⟨by rw[HX.out];rfl,rfl⟩
theorem two_131_191 (b:Int)(h1:191≤b)(h2:b≤214)(w:World):Calls Tryz.prog 194 #[.int .i64 131,.int .i64 b] w fun e w'=>e=.returned (.int .i64 (twoI 131 b))∧w=w':=by
  have HX:=Lib.hid (show twoI 131 b=greekI 945 (b-191) by unfold twoI;(repeat' split)<;>first|rfl|omega)
  have t0:(64:Int)≤b:=by omega
  have t1:¬(b≤(150:Int)):=by omega
  have t2:(b==(127:Int))=false:=by rw[beq_eq_false_iff_ne];omega
  have t3:(127:Int)<b:=by omega
  have t4:(159:Int)≤b:=by omega
  have t5:¬(b≤(182:Int)):=by omega
  have t6:(191:Int)≤b:=by omega
  have t7:b≤(214:Int):=by omega
  go_enter Tryz.func194,Tryz.ntmps194
  go_wp2_with (go_at_call 214;refine(greek_c _ _ (by omega) (by omega) (by omega) (by omega) _).mono ?_;rintro e w' ⟨rfl,rfl⟩)
  go_ret
  exact⟨by rw[HX.out];rfl,rfl⟩
theorem two_131_215 (b:Int)(h1:215≤b)(h2:b≤255)(w:World):Calls Tryz.prog 194 #[.int .i64 131,.int .i64 b] w fun e w'=>e=.returned (.int .i64 (twoI 131 b))∧w=w':=by
  have HX:=Lib.hid (show twoI 131 b=-1 by unfold twoI;(repeat' split)<;>first|rfl|omega)
  have t0:(64:Int)≤b:=by omega
  have t1:¬(b≤(150:Int)):=by omega
  have t2:(b==(127:Int))=false:=by rw[beq_eq_false_iff_ne];omega
  have t3:(127:Int)<b:=by omega
  have t4:(159:Int)≤b:=by omega
  have t5:¬(b≤(182:Int)):=by omega
  have t6:(191:Int)≤b:=by omega
  have t7:¬(b≤(214:Int)):=by omega
  go_enter Tryz.func194,Tryz.ntmps194
  go_wp2
  go_ret
  exact⟨by rw[HX.out];rfl,rfl⟩
theorem two_132_0 (b:Int)(h1:0≤b)(h2:b≤63)(w:World):Calls Tryz.prog 194 #[.int .i64 132,.int .i64 b] w fun e w'=>e=.returned (.int .i64 (twoI 132 b))∧w=w':=by
  have HX:=Lib.hid (show twoI 132 b=-1 by unfold twoI;(repeat' split)<;>first|rfl|omega)
  have t0:¬((64:Int)≤b):=by omega
  have t1:b≤(96:Int):=by omega
  have t2:¬((112:Int)≤b):=by omega
  have t3:b≤(145:Int):=by omega
  have t4:(b==(127:Int))=false:=by rw[beq_eq_false_iff_ne];omega
  have t5:¬((127:Int)<b):=by omega
  go_enter Tryz.func194,Tryz.ntmps194
  go_wp2
  go_ret
  exact⟨by rw[HX.out];rfl,rfl⟩
theorem two_132_64 (b:Int)(h1:64≤b)(h2:b≤96)(w:World):Calls Tryz.prog 194 #[.int .i64 132,.int .i64 b] w fun e w'=>e=.returned (.int .i64 (twoI 132 b))∧w=w':=by
  have HX:=Lib.hid (show twoI 132 b=russianI 1040 1025 (b-64) by unfold twoI;(repeat' split)<;>first|rfl|omega)
  have t0:(64:Int)≤b:=by omega
  have t1:b≤(96:Int):=by omega
  have t2:¬((112:Int)≤b):=by omega
  have t3:b≤(145:Int):=by omega
  have t4:(b==(127:Int))=false:=by rw[beq_eq_false_iff_ne];omega
  have t5:¬((127:Int)<b):=by omega
  go_enter Tryz.func194,Tryz.ntmps194
  go_wp2_with (go_at_call 215;refine(russian_c _ _ _ (by omega) (by omega) (by omega) (by omega) _).mono ?_;rintro e w' ⟨rfl,rfl⟩)
  go_ret
  exact⟨by rw[HX.out];rfl,rfl⟩
theorem two_132_97 (b:Int)(h1:97≤b)(h2:b≤111)(w:World):Calls Tryz.prog 194 #[.int .i64 132,.int .i64 b] w fun e w'=>e=.returned (.int .i64 (twoI 132 b))∧w=w':=by
  have HX:=Lib.hid (show twoI 132 b=-1 by unfold twoI;(repeat' split)<;>first|rfl|omega)
  have t0:(64:Int)≤b:=by omega
  have t1:¬(b≤(96:Int)):=by omega
  have t2:¬((112:Int)≤b):=by omega
  have t3:b≤(145:Int):=by omega
  have t4:(b==(127:Int))=false:=by rw[beq_eq_false_iff_ne];omega
  have t5:¬((127:Int)<b):=by omega
  go_enter Tryz.func194,Tryz.ntmps194
  go_wp2
  go_ret
  exact⟨by rw[HX.out];rfl,rfl⟩
theorem two_132_112 (b:Int)(h1:112≤b)(h2:b≤126)(w:World):Calls Tryz.prog 194 #[.int .i64 132,.int .i64 b] w fun e w'=>e=.returned (.int .i64 (twoI 132 b))∧w=w':=by
  have HX:=Lib.hid (show twoI 132 b=russianI 1072 1105 (b-112) by unfold twoI;(repeat' split)<;>first|rfl|omega)
  have t0:(64:Int)≤b:=by omega
  have t1:¬(b≤(96:Int)):=by omega
  have t2:(112:Int)≤b:=by omega
  have t3:b≤(145:Int):=by omega
  have t4:(b==(127:Int))=false:=by rw[beq_eq_false_iff_ne];omega
  have t5:¬((127:Int)<b):=by omega
  go_enter Tryz.func194,Tryz.ntmps194
  go_wp2_with (go_at_call 215;refine(russian_c _ _ _ (by omega) (by omega) (by omega) (by omega) _).mono ?_;rintro e w' ⟨rfl,rfl⟩)
  go_ret
  exact⟨by rw[HX.out];rfl,rfl⟩
theorem two_132_127 (b:Int)(h1:127≤b)(h2:b≤127)(w:World):Calls Tryz.prog 194 #[.int .i64 132,.int .i64 b] w fun e w'=>e=.returned (.int .i64 (twoI 132 b))∧w=w':=by
  have HX:=Lib.hid (show twoI 132 b=-1 by unfold twoI;(repeat' split)<;>first|rfl|omega)
  have t0:(64:Int)≤b:=by omega
  have t1:¬(b≤(96:Int)):=by omega
  have t2:(112:Int)≤b:=by omega
  have t3:b≤(145:Int):=by omega
  have t4:(b==(127:Int))=true:=by rw[beq_iff_eq];omega
  have t5:¬((127:Int)<b):=by omega
  go_enter Tryz.func194,Tryz.ntmps194
  go_wp2
  go_ret
  exact⟨by rw[HX.out];rfl,rfl⟩
theorem two_132_128 (b:Int)(h1:128≤b)(h2:b≤145)(w:World):Calls Tryz.prog 194 #[.int .i64 132,.int .i64 b] w fun e w'=>e=.returned (.int .i64 (twoI 132 b))∧w=w':=by
  have HX:=Lib.hid (show twoI 132 b=russianI 1072 1105 (b-112-1) by unfold twoI;(repeat' split)<;>first|rfl|omega)
  have t0:(64:Int)≤b:=by omega
  have t1:¬(b≤(96:Int)):=by omega
  have t2:(112:Int)≤b:=by omega
  have t3:b≤(145:Int):=by omega
  have t4:(b==(127:Int))=false:=by rw[beq_eq_false_iff_ne];omega
  have t5:(127:Int)<b:=by omega
  go_enter Tryz.func194,Tryz.ntmps194
  go_wp2_with (go_at_call 215;refine(russian_c _ _ _ (by omega) (by omega) (by omega) (by omega) _).mono ?_;rintro e w' ⟨rfl,rfl⟩)
  go_ret
  exact⟨by rw[HX.out];rfl,rfl⟩
theorem two_132_146 (b:Int)(h1:146≤b)(h2:b≤255)(w:World):Calls Tryz.prog 194 #[.int .i64 132,.int .i64 b] w fun e w'=>e=.returned (.int .i64 (twoI 132 b))∧w=w':=by
  have HX:=Lib.hid (show twoI 132 b=-1 by unfold twoI;(repeat' split)<;>first|rfl|omega)
  have t0:(64:Int)≤b:=by omega
  have t1:¬(b≤(96:Int)):=by omega
  have t2:(112:Int)≤b:=by omega
  have t3:¬(b≤(145:Int)):=by omega
  have t4:(b==(127:Int))=false:=by rw[beq_eq_false_iff_ne];omega
  have t5:(127:Int)<b:=by omega
  go_enter Tryz.func194,Tryz.ntmps194
  go_wp2
  go_ret
  exact⟨by rw[HX.out];rfl,rfl⟩
theorem two_other (a b:Int)(h0:a≠130)(h1:a≠131)(h2:a≠132)(w:World):Calls Tryz.prog 194 #[.int .i64 a,.int .i64 b] w fun e w'=>e=.returned (.int .i64 (twoI a b))∧w=w':=by
  have HX:=Lib.hid (show twoI a b=-1 by unfold twoI;(repeat' split)<;>first|rfl|omega)
  have t0:(a==(130:Int))=false:=by rw[beq_eq_false_iff_ne];exact h0
  have t1:(a==(131:Int))=false:=by rw[beq_eq_false_iff_ne];exact h1
  have t2:(a==(132:Int))=false:=by rw[beq_eq_false_iff_ne];exact h2
  clear h0 h1 h2
  go_enter Tryz.func194,Tryz.ntmps194
  go_wp2
  go_ret
  exact⟨by rw[HX.out];rfl,rfl⟩
theorem two_c (a b:Int)(hb:0≤b)(hb':b≤255)(w:World):Calls Tryz.prog 194 #[.int .i64 a,.int .i64 b] w fun e w'=>e=.returned (.int .i64 (twoI a b))∧w=w':=by
  by_cases h130:a=130
  · subst h130
    by_cases g0:b≤78
    · exact two_130_0 b (by omega) g0 w
    by_cases g79:b≤88
    · exact two_130_79 b (by omega) g79 w
    by_cases g89:b≤95
    · exact two_130_89 b (by omega) g89 w
    by_cases g96:b≤121
    · exact two_130_96 b (by omega) g96 w
    by_cases g122:b≤128
    · exact two_130_122 b (by omega) g122 w
    by_cases g129:b≤154
    · exact two_130_129 b (by omega) g129 w
    by_cases g155:b≤158
    · exact two_130_155 b (by omega) g155 w
    by_cases g159:b≤241
    · exact two_130_159 b (by omega) g159 w
    exact two_130_242 b (by omega) hb' w
  by_cases h131:a=131
  · subst h131
    by_cases g0:b≤63
    · exact two_131_0 b (by omega) g0 w
    by_cases g64:b≤126
    · exact two_131_64 b (by omega) g64 w
    by_cases g127:b≤127
    · exact two_131_127 b (by omega) g127 w
    by_cases g128:b≤150
    · exact two_131_128 b (by omega) g128 w
    by_cases g151:b≤158
    · exact two_131_151 b (by omega) g151 w
    by_cases g159:b≤182
    · exact two_131_159 b (by omega) g159 w
    by_cases g183:b≤190
    · exact two_131_183 b (by omega) g183 w
    by_cases g191:b≤214
    · exact two_131_191 b (by omega) g191 w
    exact two_131_215 b (by omega) hb' w
  by_cases h132:a=132
  · subst h132
    by_cases g0:b≤63
    · exact two_132_0 b (by omega) g0 w
    by_cases g64:b≤96
    · exact two_132_64 b (by omega) g64 w
    by_cases g97:b≤111
    · exact two_132_97 b (by omega) g97 w
    by_cases g112:b≤126
    · exact two_132_112 b (by omega) g112 w
    by_cases g127:b≤127
    · exact two_132_127 b (by omega) g127 w
    by_cases g128:b≤145
    · exact two_132_128 b (by omega) g128 w
    exact two_132_146 b (by omega) hb' w
  exact two_other a b h130 h131 h132 w
end Go.Proofs.YtfioknaadbgjlaaGreatDoor.F
