/- Kit. -/
import Derived.Test.YtfioknaadbgjlaaGreatDoorNK6
import Derived.Test.YtfioknaadbgjlaaGreatDoorProg
import Derived.Test.YtfioknaadbgjlaaGreatDoorNK1
import Derived.WalkKit
import Derived.WalkSpells
import Derived.IntWalk
import Derived.Lib.Hide
import Derived.Laws.Rows
import Derived.Laws.NewBlocks
import Derived.Below
import Derived.KernelRfl
import Derived.Test.YtfioknaadbgjlaaGreatDoorNK2
import Derived.Laws.Runes
import Derived.Laws.RangeString
import Derived.LoopTactic
import Derived.Deep.LoopGhost
import Derived.Laws.AppendOwnNone
import Derived.Deep.RegionHeld3
import Derived.Handy
import Derived.PlainAid
import Derived.Laws.IdiomStrings
import Derived.Deep.QuietTactic
import Derived.BigQuiet
set_option maxRecDepth 100000
set_option linter.unusedVariables false
set_option linter.unusedSimpArgs false
namespace Go.Proofs.YtfioknaadbgjlaaGreatDoor.F
open Go.RowKit
def openB (r:Int):Bool:=decide (44032≤r∧r≤55203∧(r-44032)%28=0)
set_option maxHeartbeats 1000000 in
theorem open_c (r:Int)(w:World):Calls Tryz.prog 225 #[.int .i32 r] w fun e w'=>e=.returned (.bool (openB r))∧w'=w:=by
  by_cases h:44032≤r∧r≤55203
  · have c1:=within_yes r 44032 11172 h.1 (by omega) (by decide) (by decide) (by decide)
    obtain⟨h1,h2⟩:=h
    have hw:IntKind.i32.wrap (r-44032)=r-44032:=by rw[IntKind.wrap_i32];omega
    obtain⟨K,hK⟩:∃K:Int,r-44032=K:=⟨_,rfl⟩
    have k0:0≤K:=by omega
    have k1:K≤11171:=by omega
    by_cases h0:K%28=0
    · have HX:=Lib.hid (show openB r=true from decide_eq_true ⟨h1,h2,by rw[hK];exact h0⟩)
      go_enter Tryz.func225,Tryz.ntmps225
      go_wp2_with fail
      refine(c1 _).mono ?_
      rintro e w' ⟨rfl,rfl⟩
      go_wp2
      go_ret
      exact⟨by rw[HX.out];first|rfl|(simp[h0]),rfl⟩
    · have HX:=Lib.hid (show openB r=false from decide_eq_false fun hh=>h0 (by rw[←hK];exact hh.2.2))
      have h0':(K%28==0)=false:=by rw[beq_eq_false_iff_ne];exact h0
      go_enter Tryz.func225,Tryz.ntmps225
      go_wp2_with fail
      refine(c1 _).mono ?_
      rintro e w' ⟨rfl,rfl⟩
      go_wp2
      go_ret
      exact⟨by rw[HX.out];first|rfl|(simp[h0]),rfl⟩
  · have c1:=within_no r 44032 11172 (by omega) (by decide) (by decide) (by decide)
    have HX:=Lib.hid (show openB r=false from decide_eq_false fun hh=>h ⟨hh.1,hh.2.1⟩)
    clear h
    go_enter Tryz.func225,Tryz.ntmps225
    go_wp2_with fail
    refine(c1 _).mono ?_
    rintro e w' ⟨rfl,rfl⟩
    go_wp2
    go_ret
    exact⟨by rw[HX.out];rfl,rfl⟩
def hangI (a b:Int):Int:=
  if 4352≤a∧a≤4370∧4449≤b∧b≤4469 then 44032+(a-4352)*588+(b-4449)*28
  else if 44032≤a∧a≤55203∧(a-44032)%28=0∧4520≤b∧b≤4546 then a+(b-4519)
  else 0
theorem hangI_lv {a b:Int}(h:4352≤a∧a≤4370∧4449≤b∧b≤4469):hangI a b=44032+(a-4352)*588+(b-4449)*28:=if_pos h
theorem hangI_lvt {a b:Int}(h:44032≤a∧a≤55203∧(a-44032)%28=0∧4520≤b∧b≤4546):hangI a b=a+(b-4519):=by
  unfold hangI;rw[if_neg (by omega),if_pos h]
theorem hangI_no {a b:Int}(h:¬(4352≤a∧a≤4370∧4449≤b∧b≤4469))(h':¬(44032≤a∧a≤55203∧(a-44032)%28=0∧4520≤b∧b≤4546)):hangI a b=0:=by
  unfold hangI;rw[if_neg h,if_neg h']
def HangPost (a b:Int)(w:World)(e:Ending)(w':World):Prop:=e=.returned (.tuple #[.int .i32 (hangI a b),.bool (decide (0<hangI a b))])∧w'=w
set_option maxHeartbeats 1000000 in
theorem hang_lv (a b:Int)(h:4352≤a∧a≤4370∧4449≤b∧b≤4469)(w:World):Calls Tryz.prog 205 #[.int .i32 a,.int .i32 b] w (HangPost a b w):=by
  have c1:=within_yes a 4352 19 h.1 (by omega) (by decide) (by decide) (by decide)
  have c2:=within_yes b 4449 21 h.2.2.1 (by omega) (by decide) (by decide) (by decide)
  have HX:=Lib.hid (show hangI a b=44032+588*(a-4352)+28*(b-4449) by rw[hangI_lv h];omega)
  have HT:=Lib.hid (show decide (0<hangI a b)=true by rw[decide_eq_true_eq,hangI_lv h];omega)
  unfold HangPost
  obtain⟨h1,h2,h3,h4⟩:=h
  go_enter Tryz.func205,Tryz.ntmps205
  go_wp2_with fail
  refine(c1 _).mono ?_
  rintro e w' ⟨rfl,rfl⟩
  go_wp2_with fail
  refine(c2 _).mono ?_
  rintro e w' ⟨rfl,rfl⟩
  go_wp2
  go_ret2
  exact⟨by rw[HT.out,HX.out];rfl,rfl⟩
set_option maxHeartbeats 1000000 in
theorem hang_lvt (a b:Int)(h:44032≤a∧a≤55203∧(a-44032)%28=0∧4520≤b∧b≤4546)(w:World):Calls Tryz.prog 205 #[.int .i32 a,.int .i32 b] w (HangPost a b w):=by
  have c1:=within_no a 4352 19 (by omega) (by decide) (by decide) (by decide)
  have c2:=within_yes b 4520 27 h.2.2.2.1 (by omega) (by decide) (by decide) (by decide)
  have c3:=open_c a
  rw[show openB a=true from decide_eq_true ⟨h.1,h.2.1,h.2.2.1⟩]at c3
  have HX:=Lib.hid (show hangI a b=a+b-4520+1 by rw[hangI_lvt h];omega)
  have HT:=Lib.hid (show decide (0<hangI a b)=true by rw[decide_eq_true_eq,hangI_lvt h];omega)
  unfold HangPost
  obtain⟨h1,h2,h3,h4,h5⟩:=h
  go_enter Tryz.func205,Tryz.ntmps205
  go_wp2_with fail
  refine(c1 _).mono ?_
  rintro e w' ⟨rfl,rfl⟩
  go_wp2_with fail
  refine(c3 _).mono ?_
  rintro e w' ⟨rfl,rfl⟩
  go_wp2_with fail
  refine(c2 _).mono ?_
  rintro e w' ⟨rfl,rfl⟩
  go_wp2
  go_ret2
  exact⟨by rw[HT.out,HX.out];rfl,rfl⟩
set_option maxHeartbeats 1000000 in
theorem hang_no (a b:Int)(h:¬(4352≤a∧a≤4370∧4449≤b∧b≤4469))(h':¬(44032≤a∧a≤55203∧(a-44032)%28=0∧4520≤b∧b≤4546))(w:World):Calls Tryz.prog 205 #[.int .i32 a,.int .i32 b] w (HangPost a b w):=by
  have HX:=Lib.hid (hangI_no h h')
  have HT:=Lib.hid (show decide (0<hangI a b)=false by rw[decide_eq_false_iff_not,hangI_no h h'];omega)
  unfold HangPost
  by_cases ha:4352≤a∧a≤4370
  · have c1:=within_yes a 4352 19 ha.1 (by omega) (by decide) (by decide) (by decide)
    have c2:=within_no b 4449 21 (by omega) (by decide) (by decide) (by decide)
    have c3:=open_c a
    rw[show openB a=false from decide_eq_false (by omega)]at c3
    clear h h' ha
    go_enter Tryz.func205,Tryz.ntmps205
    go_wp2_with fail
    refine(c1 _).mono ?_
    rintro e w' ⟨rfl,rfl⟩
    go_wp2_with fail
    refine(c2 _).mono ?_
    rintro e w' ⟨rfl,rfl⟩
    go_wp2_with fail
    refine(c3 _).mono ?_
    rintro e w' ⟨rfl,rfl⟩
    go_wp2
    go_ret2
    exact⟨by rw[HT.out,HX.out];rfl,rfl⟩
  · have c1:=within_no a 4352 19 (by omega) (by decide) (by decide) (by decide)
    by_cases ho:44032≤a∧a≤55203∧(a-44032)%28=0
    · have c2:=within_no b 4520 27 (by omega) (by decide) (by decide) (by decide)
      have c3:=open_c a
      rw[show openB a=true from decide_eq_true ho]at c3
      clear h h' ha ho
      go_enter Tryz.func205,Tryz.ntmps205
      go_wp2_with fail
      refine(c1 _).mono ?_
      rintro e w' ⟨rfl,rfl⟩
      go_wp2_with fail
      refine(c3 _).mono ?_
      rintro e w' ⟨rfl,rfl⟩
      go_wp2_with fail
      refine(c2 _).mono ?_
      rintro e w' ⟨rfl,rfl⟩
      go_wp2
      go_ret2
      exact⟨by rw[HT.out,HX.out];rfl,rfl⟩
    · have c3:=open_c a
      rw[show openB a=false from decide_eq_false ho]at c3
      clear h h' ha ho
      go_enter Tryz.func205,Tryz.ntmps205
      go_wp2_with fail
      refine(c1 _).mono ?_
      rintro e w' ⟨rfl,rfl⟩
      go_wp2_with fail
      refine(c3 _).mono ?_
      rintro e w' ⟨rfl,rfl⟩
      go_wp2
      go_ret2
      exact⟨by rw[HT.out,HX.out];rfl,rfl⟩
theorem hang_c (a b:Int)(w:World):Calls Tryz.prog 205 #[.int .i32 a,.int .i32 b] w (HangPost a b w):=by
  by_cases h:4352≤a∧a≤4370∧4449≤b∧b≤4469
  · exact hang_lv a b h w
  · by_cases h':44032≤a∧a≤55203∧(a-44032)%28=0∧4520≤b∧b≤4546
    · exact hang_lvt a b h' w
    · exact hang_no a b h h' w
def sylR (r:Int):Int×Int×Bool:=if r<44032∨55203<r then(0,0,false) else if 0<(r-44032)%28 then(r-(r-44032)%28,4519+(r-44032)%28,true) else(4352+(r-44032)/588,4449+(r-44032)%588/28,true)
set_option maxHeartbeats 1000000 in
theorem syl_c (r:Int)(w:World):Calls Tryz.prog 219 #[.int .i32 r] w fun e w'=>e=.returned (.tuple #[.int .i32 (sylR r).1,.int .i32 (sylR r).2.1,.bool (sylR r).2.2])∧w'=w:=by
  by_cases h:r<44032∨55203<r
  · have HX:=Lib.hid (show sylR r=(0,0,false) from if_pos h)
    have c1:=within_no r 44032 11172 (by omega) (by decide) (by decide) (by decide)
    clear h
    go_enter Tryz.func219,Tryz.ntmps219
    go_wp2_with fail
    refine(c1 _).mono ?_
    rintro e w' ⟨rfl,rfl⟩
    go_wp2
    go_ret3
    exact⟨by rw[HX.out];rfl,rfl⟩
  · have c1:=within_yes r 44032 11172 (by omega) (by omega) (by decide) (by decide) (by decide)
    have f1:(44032:Int)≤r:=by omega
    have f2:r≤(55203:Int):=by omega
    have hw:IntKind.i32.wrap (r-44032)=r-44032:=by rw[IntKind.wrap_i32];omega
    obtain⟨K,hK⟩:∃K:Int,r-44032=K:=⟨_,rfl⟩
    have k0:0≤K:=by omega
    have k1:K≤11171:=by omega
    by_cases r0:0<K%28
    · have HX:=Lib.hid (show sylR r=(r-K%28,4520+K%28-1,true) by unfold sylR;rw[if_neg h,hK,if_pos r0,show 4520+K%28-1=4519+K%28 by omega])
      have q0:0≤K%28:=by omega
      have q1:K%28<28:=by omega
      have q2:(K%28==0)=false:=by rw[beq_eq_false_iff_ne];omega
      clear h
      go_enter Tryz.func219,Tryz.ntmps219
      go_wp2_with fail
      refine(c1 _).mono ?_
      rintro e w' ⟨rfl,rfl⟩
      go_wp2
      go_ret3
      exact⟨by rw[HX.out];rfl,rfl⟩
    · have HX:=Lib.hid (show sylR r=(4352+K/588,4449+K%588/28,true) by unfold sylR;rw[if_neg h,hK,if_neg r0])
      have q2:K%28=0:=by omega
      clear h
      go_enter Tryz.func219,Tryz.ntmps219
      go_wp2_with fail
      refine(c1 _).mono ?_
      rintro e w' ⟨rfl,rfl⟩
      go_wp2
      go_ret3
      exact⟨by rw[HX.out];rfl,rfl⟩
end Go.Proofs.YtfioknaadbgjlaaGreatDoor.F
namespace Go.Proofs.YtfioknaadbgjlaaGreatDoor.F
open Go.RowKit
def rowIx (b:Int):Option Nat:=(List.range 13).find? (fun n=>decide (markN n=b))
def rowLs (b:Int):List Int:=match rowIx b with|some n=>lettersN n|none=>[]
def rowMs (b:Int):List Int:=match rowIx b with|some n=>madeN n|none=>[]
def RowPost (x y:ByteArray)(w:World)(e:Ending)(w':World):Prop:=e=.returned (.agg #[.string x,.string y])∧Below w.heap.size w w'
set_option maxHeartbeats 1000000 in
theorem row_0 (w:World):Calls Tryz.prog 203 #[.int .i32 768] w (RowPost ⟨#[65,69,73,79,85,97,101,105,111,117]⟩ ⟨#[195,128,195,136,195,140,195,146,195,153,195,160,195,168,195,172,195,178,195,185]⟩ w):=by
  go_enter Tryz.func203,Tryz.ntmps203
  go_wp2
  refine bodyPost_ret (results_cell_row Tryz.results203 _ _ _ _ _ _ _ rfl (heap_alloc_new _ _) Tryz.underlying247 rfl (by kernel_rfl)) rfl ⟨rfl,(Below.refl _ _).alloc (Nat.le_refl _) _⟩
set_option maxHeartbeats 1000000 in
theorem row_1 (w:World):Calls Tryz.prog 203 #[.int .i32 769] w (RowPost ⟨#[65,69,73,79,85,89,97,101,105,111,117,121,67,99,76,108,78,110,82,114,83,115,90,122]⟩ ⟨#[195,129,195,137,195,141,195,147,195,154,195,157,195,161,195,169,195,173,195,179,195,186,195,189,196,134,196,135,196,185,196,186,197,131,197,132,197,148,197,149,197,154,197,155,197,185,197,186]⟩ w):=by
  go_enter Tryz.func203,Tryz.ntmps203
  go_wp2
  refine bodyPost_ret (results_cell_row Tryz.results203 _ _ _ _ _ _ _ rfl (heap_alloc_new _ _) Tryz.underlying247 rfl (by kernel_rfl)) rfl ⟨rfl,(Below.refl _ _).alloc (Nat.le_refl _) _⟩
set_option maxHeartbeats 1000000 in
theorem row_2 (w:World):Calls Tryz.prog 203 #[.int .i32 770] w (RowPost ⟨#[65,69,73,79,85,97,101,105,111,117,67,99,71,103,72,104,74,106,83,115,87,119,89,121]⟩ ⟨#[195,130,195,138,195,142,195,148,195,155,195,162,195,170,195,174,195,180,195,187,196,136,196,137,196,156,196,157,196,164,196,165,196,180,196,181,197,156,197,157,197,180,197,181,197,182,197,183]⟩ w):=by
  go_enter Tryz.func203,Tryz.ntmps203
  go_wp2
  refine bodyPost_ret (results_cell_row Tryz.results203 _ _ _ _ _ _ _ rfl (heap_alloc_new _ _) Tryz.underlying247 rfl (by kernel_rfl)) rfl ⟨rfl,(Below.refl _ _).alloc (Nat.le_refl _) _⟩
set_option maxHeartbeats 1000000 in
theorem row_3 (w:World):Calls Tryz.prog 203 #[.int .i32 771] w (RowPost ⟨#[65,78,79,97,110,111,73,105,85,117]⟩ ⟨#[195,131,195,145,195,149,195,163,195,177,195,181,196,168,196,169,197,168,197,169]⟩ w):=by
  go_enter Tryz.func203,Tryz.ntmps203
  go_wp2
  refine bodyPost_ret (results_cell_row Tryz.results203 _ _ _ _ _ _ _ rfl (heap_alloc_new _ _) Tryz.underlying247 rfl (by kernel_rfl)) rfl ⟨rfl,(Below.refl _ _).alloc (Nat.le_refl _) _⟩
set_option maxHeartbeats 1000000 in
theorem row_4 (w:World):Calls Tryz.prog 203 #[.int .i32 772] w (RowPost ⟨#[65,97,69,101,73,105,79,111,85,117]⟩ ⟨#[196,128,196,129,196,146,196,147,196,170,196,171,197,140,197,141,197,170,197,171]⟩ w):=by
  go_enter Tryz.func203,Tryz.ntmps203
  go_wp2
  refine bodyPost_ret (results_cell_row Tryz.results203 _ _ _ _ _ _ _ rfl (heap_alloc_new _ _) Tryz.underlying247 rfl (by kernel_rfl)) rfl ⟨rfl,(Below.refl _ _).alloc (Nat.le_refl _) _⟩
set_option maxHeartbeats 1000000 in
theorem row_5 (w:World):Calls Tryz.prog 203 #[.int .i32 774] w (RowPost ⟨#[65,97,69,101,71,103,73,105,79,111,85,117]⟩ ⟨#[196,130,196,131,196,148,196,149,196,158,196,159,196,172,196,173,197,142,197,143,197,172,197,173]⟩ w):=by
  go_enter Tryz.func203,Tryz.ntmps203
  go_wp2
  refine bodyPost_ret (results_cell_row Tryz.results203 _ _ _ _ _ _ _ rfl (heap_alloc_new _ _) Tryz.underlying247 rfl (by kernel_rfl)) rfl ⟨rfl,(Below.refl _ _).alloc (Nat.le_refl _) _⟩
set_option maxHeartbeats 1000000 in
theorem row_6 (w:World):Calls Tryz.prog 203 #[.int .i32 775] w (RowPost ⟨#[67,99,69,101,71,103,73,90,122]⟩ ⟨#[196,138,196,139,196,150,196,151,196,160,196,161,196,176,197,187,197,188]⟩ w):=by
  go_enter Tryz.func203,Tryz.ntmps203
  go_wp2
  refine bodyPost_ret (results_cell_row Tryz.results203 _ _ _ _ _ _ _ rfl (heap_alloc_new _ _) Tryz.underlying247 rfl (by kernel_rfl)) rfl ⟨rfl,(Below.refl _ _).alloc (Nat.le_refl _) _⟩
set_option maxHeartbeats 1000000 in
theorem row_7 (w:World):Calls Tryz.prog 203 #[.int .i32 776] w (RowPost ⟨#[65,69,73,79,85,97,101,105,111,117,121,89]⟩ ⟨#[195,132,195,139,195,143,195,150,195,156,195,164,195,171,195,175,195,182,195,188,195,191,197,184]⟩ w):=by
  go_enter Tryz.func203,Tryz.ntmps203
  go_wp2
  refine bodyPost_ret (results_cell_row Tryz.results203 _ _ _ _ _ _ _ rfl (heap_alloc_new _ _) Tryz.underlying247 rfl (by kernel_rfl)) rfl ⟨rfl,(Below.refl _ _).alloc (Nat.le_refl _) _⟩
set_option maxHeartbeats 1000000 in
theorem row_8 (w:World):Calls Tryz.prog 203 #[.int .i32 778] w (RowPost ⟨#[65,97,85,117]⟩ ⟨#[195,133,195,165,197,174,197,175]⟩ w):=by
  go_enter Tryz.func203,Tryz.ntmps203
  go_wp2
  refine bodyPost_ret (results_cell_row Tryz.results203 _ _ _ _ _ _ _ rfl (heap_alloc_new _ _) Tryz.underlying247 rfl (by kernel_rfl)) rfl ⟨rfl,(Below.refl _ _).alloc (Nat.le_refl _) _⟩
set_option maxHeartbeats 1000000 in
theorem row_9 (w:World):Calls Tryz.prog 203 #[.int .i32 779] w (RowPost ⟨#[79,111,85,117]⟩ ⟨#[197,144,197,145,197,176,197,177]⟩ w):=by
  go_enter Tryz.func203,Tryz.ntmps203
  go_wp2
  refine bodyPost_ret (results_cell_row Tryz.results203 _ _ _ _ _ _ _ rfl (heap_alloc_new _ _) Tryz.underlying247 rfl (by kernel_rfl)) rfl ⟨rfl,(Below.refl _ _).alloc (Nat.le_refl _) _⟩
set_option maxHeartbeats 1000000 in
theorem row_10 (w:World):Calls Tryz.prog 203 #[.int .i32 780] w (RowPost ⟨#[67,99,68,100,69,101,78,110,82,114,83,115,84,116,90,122]⟩ ⟨#[196,140,196,141,196,142,196,143,196,154,196,155,197,135,197,136,197,152,197,153,197,160,197,161,197,164,197,165,197,189,197,190]⟩ w):=by
  go_enter Tryz.func203,Tryz.ntmps203
  go_wp2
  refine bodyPost_ret (results_cell_row Tryz.results203 _ _ _ _ _ _ _ rfl (heap_alloc_new _ _) Tryz.underlying247 rfl (by kernel_rfl)) rfl ⟨rfl,(Below.refl _ _).alloc (Nat.le_refl _) _⟩
set_option maxHeartbeats 1000000 in
theorem row_11 (w:World):Calls Tryz.prog 203 #[.int .i32 807] w (RowPost ⟨#[67,99,71,103,75,107,76,108,78,110,82,114,83,115,84,116]⟩ ⟨#[195,135,195,167,196,162,196,163,196,182,196,183,196,187,196,188,197,133,197,134,197,150,197,151,197,158,197,159,197,162,197,163]⟩ w):=by
  go_enter Tryz.func203,Tryz.ntmps203
  go_wp2
  refine bodyPost_ret (results_cell_row Tryz.results203 _ _ _ _ _ _ _ rfl (heap_alloc_new _ _) Tryz.underlying247 rfl (by kernel_rfl)) rfl ⟨rfl,(Below.refl _ _).alloc (Nat.le_refl _) _⟩
set_option maxHeartbeats 1000000 in
theorem row_12 (w:World):Calls Tryz.prog 203 #[.int .i32 808] w (RowPost ⟨#[65,97,69,101,73,105,85,117]⟩ ⟨#[196,132,196,133,196,152,196,153,196,174,196,175,197,178,197,179]⟩ w):=by
  go_enter Tryz.func203,Tryz.ntmps203
  go_wp2
  refine bodyPost_ret (results_cell_row Tryz.results203 _ _ _ _ _ _ _ rfl (heap_alloc_new _ _) Tryz.underlying247 rfl (by kernel_rfl)) rfl ⟨rfl,(Below.refl _ _).alloc (Nat.le_refl _) _⟩
set_option maxHeartbeats 1000000 in
theorem row_no (b:Int)(h:∀k:Nat,k<13→markN k≠b)(w:World):Calls Tryz.prog 203 #[.int .i32 b] w (RowPost ⟨#[]⟩ ⟨#[]⟩ w):=by
  have e0:(b==768)=false:=by rw[beq_eq_false_iff_ne];exact fun h0=>h 0 (by decide) h0.symm
  have e1:(b==769)=false:=by rw[beq_eq_false_iff_ne];exact fun h0=>h 1 (by decide) h0.symm
  have e2:(b==770)=false:=by rw[beq_eq_false_iff_ne];exact fun h0=>h 2 (by decide) h0.symm
  have e3:(b==771)=false:=by rw[beq_eq_false_iff_ne];exact fun h0=>h 3 (by decide) h0.symm
  have e4:(b==772)=false:=by rw[beq_eq_false_iff_ne];exact fun h0=>h 4 (by decide) h0.symm
  have e5:(b==774)=false:=by rw[beq_eq_false_iff_ne];exact fun h0=>h 5 (by decide) h0.symm
  have e6:(b==775)=false:=by rw[beq_eq_false_iff_ne];exact fun h0=>h 6 (by decide) h0.symm
  have e7:(b==776)=false:=by rw[beq_eq_false_iff_ne];exact fun h0=>h 7 (by decide) h0.symm
  have e8:(b==778)=false:=by rw[beq_eq_false_iff_ne];exact fun h0=>h 8 (by decide) h0.symm
  have e9:(b==779)=false:=by rw[beq_eq_false_iff_ne];exact fun h0=>h 9 (by decide) h0.symm
  have e10:(b==780)=false:=by rw[beq_eq_false_iff_ne];exact fun h0=>h 10 (by decide) h0.symm
  have e11:(b==807)=false:=by rw[beq_eq_false_iff_ne];exact fun h0=>h 11 (by decide) h0.symm
  have e12:(b==808)=false:=by rw[beq_eq_false_iff_ne];exact fun h0=>h 12 (by decide) h0.symm
  clear h
  go_enter Tryz.func203,Tryz.ntmps203
  go_wp2
  refine bodyPost_ret (results_cell_row Tryz.results203 _ _ _ _ _ _ _ rfl (heap_alloc_new _ _) Tryz.underlying247 rfl (by kernel_rfl)) rfl ⟨rfl,(Below.refl _ _).alloc (Nat.le_refl _) _⟩
theorem rowIx_some {b:Int}{n:Nat}(h:rowIx b=some n):n<13∧markN n=b:=by
  have h1:=List.find?_some h
  have h2:=List.mem_of_find?_eq_some h
  exact⟨List.mem_range.1 h2,of_decide_eq_true h1⟩
theorem rowIx_none {b:Int}(h:rowIx b=none):∀k:Nat,k<13→markN k≠b:=by
  intro k hk e
  have:=List.find?_eq_none.1 h k (List.mem_range.2 hk)
  exact this (decide_eq_true e)
theorem row_c (b:Int)(w:World):Calls Tryz.prog 203 #[.int .i32 b] w (RowPost (txt (rowLs b)) (txt (rowMs b)) w):=by
  unfold rowLs rowMs
  cases hx:rowIx b with
  | none =>
    have:=row_no b (rowIx_none hx) w
    exact this
  | some n =>
    obtain⟨hn,rfl⟩:=rowIx_some hx
    clear hx
    simp only
    by_cases h0:n=0
    · subst h0
      rw[show markN 0=768 from rfl,show txt (lettersN 0)=⟨#[65,69,73,79,85,97,101,105,111,117]⟩ by decide +kernel,show txt (madeN 0)=⟨#[195,128,195,136,195,140,195,146,195,153,195,160,195,168,195,172,195,178,195,185]⟩ by decide +kernel]
      exact row_0 w
    by_cases h1:n=1
    · subst h1
      rw[show markN 1=769 from rfl,show txt (lettersN 1)=⟨#[65,69,73,79,85,89,97,101,105,111,117,121,67,99,76,108,78,110,82,114,83,115,90,122]⟩ by decide +kernel,show txt (madeN 1)=⟨#[195,129,195,137,195,141,195,147,195,154,195,157,195,161,195,169,195,173,195,179,195,186,195,189,196,134,196,135,196,185,196,186,197,131,197,132,197,148,197,149,197,154,197,155,197,185,197,186]⟩ by decide +kernel]
      exact row_1 w
    by_cases h2:n=2
    · subst h2
      rw[show markN 2=770 from rfl,show txt (lettersN 2)=⟨#[65,69,73,79,85,97,101,105,111,117,67,99,71,103,72,104,74,106,83,115,87,119,89,121]⟩ by decide +kernel,show txt (madeN 2)=⟨#[195,130,195,138,195,142,195,148,195,155,195,162,195,170,195,174,195,180,195,187,196,136,196,137,196,156,196,157,196,164,196,165,196,180,196,181,197,156,197,157,197,180,197,181,197,182,197,183]⟩ by decide +kernel]
      exact row_2 w
    by_cases h3:n=3
    · subst h3
      rw[show markN 3=771 from rfl,show txt (lettersN 3)=⟨#[65,78,79,97,110,111,73,105,85,117]⟩ by decide +kernel,show txt (madeN 3)=⟨#[195,131,195,145,195,149,195,163,195,177,195,181,196,168,196,169,197,168,197,169]⟩ by decide +kernel]
      exact row_3 w
    by_cases h4:n=4
    · subst h4
      rw[show markN 4=772 from rfl,show txt (lettersN 4)=⟨#[65,97,69,101,73,105,79,111,85,117]⟩ by decide +kernel,show txt (madeN 4)=⟨#[196,128,196,129,196,146,196,147,196,170,196,171,197,140,197,141,197,170,197,171]⟩ by decide +kernel]
      exact row_4 w
    by_cases h5:n=5
    · subst h5
      rw[show markN 5=774 from rfl,show txt (lettersN 5)=⟨#[65,97,69,101,71,103,73,105,79,111,85,117]⟩ by decide +kernel,show txt (madeN 5)=⟨#[196,130,196,131,196,148,196,149,196,158,196,159,196,172,196,173,197,142,197,143,197,172,197,173]⟩ by decide +kernel]
      exact row_5 w
    by_cases h6:n=6
    · subst h6
      rw[show markN 6=775 from rfl,show txt (lettersN 6)=⟨#[67,99,69,101,71,103,73,90,122]⟩ by decide +kernel,show txt (madeN 6)=⟨#[196,138,196,139,196,150,196,151,196,160,196,161,196,176,197,187,197,188]⟩ by decide +kernel]
      exact row_6 w
    by_cases h7:n=7
    · subst h7
      rw[show markN 7=776 from rfl,show txt (lettersN 7)=⟨#[65,69,73,79,85,97,101,105,111,117,121,89]⟩ by decide +kernel,show txt (madeN 7)=⟨#[195,132,195,139,195,143,195,150,195,156,195,164,195,171,195,175,195,182,195,188,195,191,197,184]⟩ by decide +kernel]
      exact row_7 w
    by_cases h8:n=8
    · subst h8
      rw[show markN 8=778 from rfl,show txt (lettersN 8)=⟨#[65,97,85,117]⟩ by decide +kernel,show txt (madeN 8)=⟨#[195,133,195,165,197,174,197,175]⟩ by decide +kernel]
      exact row_8 w
    by_cases h9:n=9
    · subst h9
      rw[show markN 9=779 from rfl,show txt (lettersN 9)=⟨#[79,111,85,117]⟩ by decide +kernel,show txt (madeN 9)=⟨#[197,144,197,145,197,176,197,177]⟩ by decide +kernel]
      exact row_9 w
    by_cases h10:n=10
    · subst h10
      rw[show markN 10=780 from rfl,show txt (lettersN 10)=⟨#[67,99,68,100,69,101,78,110,82,114,83,115,84,116,90,122]⟩ by decide +kernel,show txt (madeN 10)=⟨#[196,140,196,141,196,142,196,143,196,154,196,155,197,135,197,136,197,152,197,153,197,160,197,161,197,164,197,165,197,189,197,190]⟩ by decide +kernel]
      exact row_10 w
    by_cases h11:n=11
    · subst h11
      rw[show markN 11=807 from rfl,show txt (lettersN 11)=⟨#[67,99,71,103,75,107,76,108,78,110,82,114,83,115,84,116]⟩ by decide +kernel,show txt (madeN 11)=⟨#[195,135,195,167,196,162,196,163,196,182,196,183,196,187,196,188,197,133,197,134,197,150,197,151,197,158,197,159,197,162,197,163]⟩ by decide +kernel]
      exact row_11 w
    obtain rfl:n=12:=by omega
    rw[show markN 12=808 from rfl,show txt (lettersN 12)=⟨#[65,97,69,101,73,105,85,117]⟩ by decide +kernel,show txt (madeN 12)=⟨#[196,132,196,133,196,152,196,153,196,174,196,175,197,178,197,179]⟩ by decide +kernel]
    exact row_12 w
end Go.Proofs.YtfioknaadbgjlaaGreatDoor.F
namespace Go.Proofs.YtfioknaadbgjlaaGreatDoor.F
open Go.RowKit
theorem at_roundC {b:ByteArray}{pos:Nat}{rest:List Int}(hp:pos<b.size)(hr:runesL (b.data.toList.drop pos)=some rest) :
    ∃R K rest',Utf8.decode b pos=(R,K)∧rest=(R:Int)::rest'∧1≤K∧pos+K≤b.size∧R≤1114111∧runesL (b.data.toList.drop (pos+K))=some rest':=by
  have hz:b.data.toList.length=b.size:=by simp
  have hne:b.data.toList.drop pos≠[]:=by
    intro h
    have:=congrArg List.length h
    rw[List.length_drop,List.length_nil]at this
    omega
  rw[runesL_step hne]at hr
  rcases nextL_facts (b.data.toList.drop pos) with h0|⟨_,hd,hR,h1,h4,hle,he⟩
  · rw[h0,if_pos rfl]at hr;cases hr
  · rw[if_neg (by omega),List.drop_drop]at hr
    obtain⟨rest',h',rfl⟩:=Option.map_eq_some_iff.1 hr
    have hdd:=Lib.decodeL_drop b pos
    rw[hd,hdd]at h1 hle hR h'
    rw[List.length_drop,hz]at hle
    have hi:=isR_is hR
    exact⟨(Utf8.decode b pos).1,(Utf8.decode b pos).2,rest',rfl,by rw[hd,hdd],h1,by omega,by omega,h'⟩
theorem at_end {b:ByteArray}{pos:Nat}{rest:List Int}(hp:¬pos<b.size)(hr:runesL (b.data.toList.drop pos)=some rest):rest=[]:=by
  rw[List.drop_eq_nil_of_le (by simp;omega),runesL_nil]at hr
  cases hr;rfl
set_option maxHeartbeats 1000000 in
theorem runeAt_c (b:ByteArray)(rs:List Int)(k:Nat)(hr:runesL b.data.toList=some rs)(hs:b.size≤4000)(hk:k≤1000)(w:World) :
    Calls Tryz.prog 230 #[.string b,.int .i64 k] w fun e w'=>e=.returned (.int .i32 (rs.getD k 0))∧Below w.heap.size w w':=by
  have HR:=Lib.hid hr
  clear hr
  obtain⟨X,hX⟩:∃X,rs.getD k 0=X:=⟨_,rfl⟩
  rw[hX]
  have H0:=Lib.hid hX
  clear hX
  go_enter Tryz.func230,Tryz.ntmps230
  go_wp2
  have hb0:∀p,Below w.heap.size w (w.iter b p):=fun p=>(Below.refl _ _).alloc (Nat.le_refl _) _
  go_loopw [1] (fun n w'=>∃(pos j:Nat) (rest:List Int),w'=w.iter b pos∧n=.int .i64 j∧pos≤b.size∧j≤1000∧runesL (b.data.toList.drop pos)=some rest∧Hid (rest.getD j 0=X)) (fun _ w'=>b.size-w'.iterPos w.heap.size)
  case atStart=>exact⟨0,k,rs,rfl,by go_num,by omega,by omega,by rw[List.drop_zero];exact HR.out,H0⟩
  case round =>
    obtain⟨pos,j,rest,rfl,rfl,hp0,ha,hrest,HA⟩:=hrel
    have HS:=Lib.hid hrest
    clear hrest
    by_cases hp:pos<b.size
    · have hnx:∀ty,(Instr.next (.pointer (some ⟨w.heap.size,0,none⟩)) true ty).run Tryz.prog (w.iter b pos)=_:=fun ty=>run_next_any w b pos ty hp
      obtain⟨R,K,rest',hd,hrr,hK,hK',hR,hr'⟩:=at_roundC hp HS.out
      rw[hd]at hnx
      have HR':=Lib.hid hr'
      clear hr' hd
      by_cases h0:j=0
      · subst h0
        have HX:=Lib.hid (show X=(R:Int) by rw[←HA.out,hrr];rfl)
        clear hrr
        go_wp2
        go_ret
        exact⟨by rw[HX.out];rfl,hb0 _⟩
      · obtain⟨i,rfl⟩:∃i,j=i+1:=⟨j-1,by omega⟩
        have HX:=Lib.hid (show rest'.getD i 0=X by rw[←HA.out,hrr];rfl)
        have h0':(((i+1:Nat):Int)==0)=false:=by rw[beq_eq_false_iff_ne];omega
        have h0'':(((i:Int)+1)==0)=false:=by rw[beq_eq_false_iff_ne];omega
        clear hrr h0
        go_wp2
        go_roundw
        case rel=>exact⟨pos+K,i,rest',rfl,by go_num,by omega,by omega,HR'.out,HX⟩
        case measure=>simp;omega
    · have hnx:∀ty,(Instr.next (.pointer (some ⟨w.heap.size,0,none⟩)) true ty).run Tryz.prog (w.iter b pos)=_:=fun ty=>run_next_end w b pos ty hp
      have HX:=Lib.hid (show X=0 by rw[←HA.out,at_end hp HS.out];rfl)
      go_wp2
      go_ret
      exact⟨by rw[HX.out];rfl,hb0 _⟩
def acrI (l m:List Int)(r:Int):Option Int:=((l.zip m).find? fun p=>decide (p.1=r)).map (·.2)
theorem drop_head {l rest':List Int}{R:Int}{j:Nat}(h:R::rest'=l.drop j):j<l.length∧l.getD j 0=R∧rest'=l.drop (j+1):=by
  have hl:=congrArg List.length h
  simp at hl
  have hj:j<l.length:=by omega
  rw[List.drop_eq_getElem_cons hj]at h
  cases h
  exact⟨hj,by simp[List.getD_eq_getElem?_getD,List.getElem?_eq_getElem hj],rfl⟩
def RelAc (l:List Int)(b:ByteArray)(r:Int)(w:World)(n:Value)(w':World):Prop:=
  ∃(pos j:Nat),w'=w.iter b pos∧n=.int .i64 j∧pos≤b.size∧j≤l.length∧runesL (b.data.toList.drop pos)=some (l.drop j)∧∀i,i<j→l.getD i 0≠r
set_option maxHeartbeats 1000000 in
theorem across_c (b c:ByteArray)(l m:List Int)(r:Int)(hr:runesL b.data.toList=some l)(hr':runesL c.data.toList=some m)(hl:l.length=m.length)(hs:b.size≤4000)(hs':c.size≤4000)(hk:l.length≤900)(w:World) :
    Calls Tryz.prog 223 #[.string b,.int .i32 r,.string c] w fun e w'=>e=.returned (.tuple #[.int .i32 ((acrI l m r).getD 0),.bool (acrI l m r).isSome])∧Below w.heap.size w w':=by
  have HR:=Lib.hid hr
  have HL:=Lib.hid hl
  have cA:=fun k hk w=>runeAt_c c m k hr' hs' hk w
  obtain⟨n,hn⟩:∃n,l.length=n:=⟨_,rfl⟩
  have HN:=Lib.hid hn
  rw[hn]at hk
  obtain⟨A,hA⟩:∃A,acrI l m r=A:=⟨_,rfl⟩
  have H1:=Lib.hid (show ∀i,i<l.length→l.getD i 0=r→(∀j,j<i→l.getD j 0≠r)→A=some (m.getD i 0) from fun i h1 h2 h3=>hA.symm.trans (zip_find1 hl h1 h2 h3))
  have H2:=Lib.hid (show(∀j,j<l.length→l.getD j 0≠r)→A=none from fun h=>hA.symm.trans (zip_none1 h))
  rw[hA]
  clear hr hr' hl hA hn
  go_enter Tryz.func223,Tryz.ntmps223
  go_wp2
  have hb0:∀p,Below w.heap.size w (w.iter b p):=fun p=>(Below.refl _ _).alloc (Nat.le_refl _) _
  go_loopw [8] (fun n w'=>RelAc l b r w n w') (fun _ w'=>b.size-w'.iterPos w.heap.size)
  case atStart=>exact⟨0,0,rfl,by go_num,by omega,by omega,by rw[List.drop_zero];exact HR.out,fun i hi=>by omega⟩
  case round =>
    obtain⟨pos,j,rfl,rfl,hp0,hj,hrest,hno⟩:=hrel
    rw[HN.out]at hj
    have HS:=Lib.hid hrest
    have HNO:=Lib.hid hno
    clear hno hrest
    by_cases hp:pos<b.size
    · have hnx:∀ty,(Instr.next (.pointer (some ⟨w.heap.size,0,none⟩)) true ty).run Tryz.prog (w.iter b pos)=_:=fun ty=>run_next_any w b pos ty hp
      obtain⟨R,K,rest',hd,hrr,hK,hK',hR,hrest'⟩:=at_roundC hp HS.out
      rw[hd]at hnx
      obtain⟨hjl,hg,hre⟩:=drop_head hrr.symm
      rw[hre]at hrest'
      rw[HN.out]at hjl
      have HR':=Lib.hid hrest'
      clear hrest' hd hrr hre
      by_cases h0:(R:Int)=r
      · have HX:=Lib.hid (H1.out j (by rw[HN.out];exact hjl) (hg.trans h0) HNO.out)
        obtain⟨y,hy⟩:∃y,m.getD j 0=y:=⟨_,rfl⟩
        have c1:=cA j (by omega)
        rw[hy]at HX c1
        clear hy hg
        rw[h0]at hnx
        clear h0
        go_wp2_with fail
        refine(c1 _).mono ?_
        rintro e w1 ⟨rfl,hb1⟩
        have hbb:=below_step (hb0 _) hb1
        clear hb1
        go_wp2
        go_ret2
        exact⟨by rw[HX.out];rfl,hbb⟩
      · have HX:=Lib.hid (ne_next HNO.out (by rw[hg];exact h0))
        have h0':((R:Int)==r)=false:=by rw[beq_eq_false_iff_ne];exact h0
        clear h0 hg
        go_wp2
        go_roundw
        case rel=>exact⟨pos+K,j+1,rfl,by go_num,by omega,by rw[HN.out];omega,HR'.out,HX.out⟩
        case measure=>simp;omega
    · have hnx:∀ty,(Instr.next (.pointer (some ⟨w.heap.size,0,none⟩)) true ty).run Tryz.prog (w.iter b pos)=_:=fun ty=>run_next_end w b pos ty hp
      have HX:=Lib.hid (H2.out (fun i hi=>HNO.out i (by
        have:=congrArg List.length (at_end hp HS.out)
        rw[List.length_drop,List.length_nil]at this
        omega)))
      go_wp2
      go_ret2
      exact⟨by rw[HX.out];rfl,hb0 _⟩
end Go.Proofs.YtfioknaadbgjlaaGreatDoor.F
namespace Go.Proofs.YtfioknaadbgjlaaGreatDoor.F
open Go.RowKit
set_option maxHeartbeats 1000000 in
theorem makes_c (b c:ByteArray)(l m:List Int)(r:Int)(hr:runesL b.data.toList=some l)(hr':runesL c.data.toList=some m)(hl:l.length=m.length)(hs:b.size≤4000)(hs':c.size≤4000)(hk:l.length≤900)(w:World) :
    Calls Tryz.prog 204 #[.agg #[.string b,.string c],.int .i32 r] w fun e w'=>e=.returned (.tuple #[.int .i32 ((acrI l m r).getD 0),.bool (acrI l m r).isSome])∧Below w.heap.size w w':=by
  have cA:=fun w=>across_c b c l m r hr hr' hl hs hs' hk w
  generalize acrI l m r=A at cA ⊢
  clear hr hr' hl hk
  go_enter Tryz.func204,Tryz.ntmps204
  go_wp2_with fail
  refine(cA _).mono ?_
  rintro e w1 ⟨rfl,hb⟩
  have hbb:=below_step ((Below.refl _ w).alloc (Nat.le_refl _) _) hb
  clear hb
  go_wp2
  go_ret2
  exact⟨rfl,hbb⟩
set_option maxHeartbeats 1000000 in
theorem comes_c (b c:ByteArray)(l m:List Int)(r:Int)(hr:runesL b.data.toList=some l)(hr':runesL c.data.toList=some m)(hl:l.length=m.length)(hs:b.size≤4000)(hs':c.size≤4000)(hk:m.length≤900)(w:World) :
    Calls Tryz.prog 220 #[.agg #[.string b,.string c],.int .i32 r] w fun e w'=>e=.returned (.tuple #[.int .i32 ((acrI m l r).getD 0),.bool (acrI m l r).isSome])∧Below w.heap.size w w':=by
  have cA:=fun w=>across_c c b m l r hr' hr hl.symm hs' hs hk w
  generalize acrI m l r=A at cA ⊢
  clear hr hr' hl hk
  go_enter Tryz.func220,Tryz.ntmps220
  go_wp2_with fail
  refine(cA _).mono ?_
  rintro e w1 ⟨rfl,hb⟩
  have hbb:=below_step ((Below.refl _ w).alloc (Nat.le_refl _) _) hb
  clear hb
  go_wp2
  go_ret2
  exact⟨rfl,hbb⟩
theorem acr_swap (l m:List Int)(hl:l.length=m.length)(r:Int):acrI m l r=((l.zip m).find? fun p=>decide (p.2=r)).map (·.1):=by
  unfold acrI
  by_cases h:∃i,i<m.length∧m.getD i 0=r
  · classical
    have hf:∃i,(i<m.length∧m.getD i 0=r)∧∀j,j<i→m.getD j 0≠r:=by
      obtain⟨i,hi,he⟩:=h
      induction i using Nat.strongRecOn with
      | _ i ih =>
        by_cases hno:∀j,j<i→m.getD j 0≠r
        · exact⟨i,⟨hi,he⟩,hno⟩
        · obtain⟨j,hj⟩:=Classical.not_forall.1 hno
          obtain⟨hji,hje⟩:=Classical.not_imp.1 hj
          exact ih j hji (by omega) (Classical.not_not.1 hje)
    obtain⟨i,⟨hi,he⟩,hno⟩:=hf
    rw[zip_find1 hl.symm hi he hno,zip_find2 hl hi he hno]
  · have hno:∀i,i<m.length→m.getD i 0≠r:=fun i hi he=>h ⟨i,hi,he⟩
    rw[zip_none1 hno,zip_none2 hno]
def rowsFit (b:Int):Prop:=(rowLs b).length=(rowMs b).length∧(rowLs b).length≤40∧(rowLs b).all isR=true∧(rowMs b).all isR=true
theorem rows_fit (b:Int):rowsFit b:=by
  unfold rowsFit rowLs rowMs
  cases hx:rowIx b with
  | none=>exact⟨rfl,by decide,rfl,rfl⟩
  | some n =>
    have:=table_at (rowIx_some hx).1
    exact⟨this.1,this.2.2.1,this.2.2.2.1,this.2.2.2.2.1⟩
theorem marks_apart:∀i:Nat,i<13→∀j:Nat,j<13→markN i=markN j→i=j:=by decide +kernel
theorem marks_up:∀i:Nat,i<13→∀j:Nat,j<i→markN j<markN i:=by decide +kernel
theorem made_upto:∀n:Nat,n<13→∀x∈madeN n,192≤x∧x≤382:=by decide +kernel
theorem pairT_row (a b:Int):pairT a b=acrI (rowLs b) (rowMs b) a:=by
  unfold rowLs rowMs
  cases hx:rowIx b with
  | none =>
    have hno:=rowIx_none hx
    show _=none
    exact firstSome_none fun j hj=>by unfold pairF;rw[if_neg (hno j hj)]
  | some n =>
    obtain⟨hn,hm⟩:=rowIx_some hx
    have hf:pairF a b n=acrI (lettersN n) (madeN n) a:=by unfold pairF;rw[if_pos hm];rfl
    have hno:∀j,j<13→j≠n→pairF a b j=none:=fun j hj hjn=>by
      unfold pairF
      rw[if_neg fun e=>hjn (marks_apart j hj n hn (by rw[e,hm]))]
    simp only
    rw[←hf]
    cases hc:pairF a b n with
    | some x=>exact firstSome_at hn (fun j hj=>hno j (by omega) (by omega)) hc
    | none =>
      refine firstSome_none fun j hj=>?_
      by_cases e:j=n
      · rw[e];exact hc
      · exact hno j hj e
theorem rowSplit_is (n:Nat)(h:n<13)(r:Int):rowSplit n r=acrI (madeN n) (lettersN n) r:=(acr_swap _ _ (table_at h).1 r).symm
theorem pairI_some {a b x:Int}(h:pairT a b=some x):pairI a b=x∧0<x:=by
  refine⟨by unfold pairI;rw[h],?_⟩
  obtain⟨n,hn,hm,hz⟩:=pairT_spec h
  have:=back_at hn hz
  simp only at this
  omega
theorem pairI_hang {a b:Int}(h:pairT a b=none):pairI a b=hangI a b:=by unfold pairI;rw[h];rfl
def PairPost (a b:Int)(w:World)(e:Ending)(w':World):Prop:=e=.returned (.tuple #[.int .i32 (pairI a b),.bool (decide (0<pairI a b))])∧Below w.heap.size w w'
set_option maxHeartbeats 1000000 in
theorem paircp_c (a b:Int)(w:World):Calls Tryz.prog 177 #[.int .i32 a,.int .i32 b] w (PairPost a b w):=by
  have cR:=fun w=>row_c b w
  obtain⟨f1,f2,f3,f4⟩:=rows_fit b
  have cM:=fun w=>makes_c (txt (rowLs b)) (txt (rowMs b)) (rowLs b) (rowMs b) a (txt_runes f3) (txt_runes f4) f1 (by have:=txt_size (rowLs b);omega) (by have:=txt_size (rowMs b);omega) (by omega) w
  rw[←pairT_row a b]at cM
  clear f1 f2 f3 f4
  generalize txt (rowLs b)=x at cR cM
  generalize txt (rowMs b)=y at cR cM
  unfold PairPost
  cases hp:pairT a b with
  | some z =>
    rw[hp]at cM
    obtain⟨hz,hz0⟩:=pairI_some hp
    have HX:=Lib.hid hz
    have HT:=Lib.hid (show decide (0<pairI a b)=true by rw[hz];exact decide_eq_true hz0)
    clear hz hp
    go_enter Tryz.func177,Tryz.ntmps177
    go_wp2_with fail
    refine(cR _).mono ?_
    rintro e w1 ⟨rfl,hb1⟩
    go_wp2_with fail
    refine(cM _).mono ?_
    rintro e w2 ⟨rfl,hb2⟩
    have hbb:=below_step hb1 hb2
    clear hb1 hb2
    go_wp2
    go_ret2
    exact⟨by rw[HT.out,HX.out];rfl,hbb⟩
  | none =>
    rw[hp]at cM
    have cH:=fun w=>hang_c a b w
    unfold HangPost at cH
    have HX:=Lib.hid (pairI_hang hp)
    clear hp
    rw[HX.out]
    obtain⟨D,hD⟩:∃D,decide (0<hangI a b)=D:=⟨_,rfl⟩
    rw[hD]at cH ⊢
    generalize hangI a b=X at cH ⊢
    clear HX hD
    go_enter Tryz.func177,Tryz.ntmps177
    go_wp2_with fail
    refine(cR _).mono ?_
    rintro e w1 ⟨rfl,hb1⟩
    go_wp2_with fail
    refine(cM _).mono ?_
    rintro e w2 ⟨rfl,hb2⟩
    have hbb:=below_step hb1 hb2
    clear hb1 hb2
    go_wp2_with fail
    refine(cH _).mono ?_
    rintro e w3 ⟨rfl,rfl⟩
    go_wp2
    go_ret2
    exact⟨rfl,hbb⟩
theorem splitT_upto {r:Int}{x:Int×Int}(h:splitT r=some x):192≤r∧r≤382:=by
  obtain⟨n,hn,hm,hz⟩:=splitT_spec h
  exact made_upto n hn r (List.of_mem_zip hz).2
theorem splitR_none {r:Int}(h:splitT r=none):splitR r=sylR r:=by
  unfold splitR sylR splitI
  rw[h]
  simp only
  by_cases h1:r<44032∨55203<r
  · rw[if_pos h1,if_pos h1]
  · rw[if_neg h1,if_neg h1]
    by_cases h2:0<(r-44032)%28
    · rw[if_pos h2,if_pos h2]
    · rw[if_neg h2,if_neg h2]
def SplitPost (r:Int)(w:World)(e:Ending)(w':World):Prop:=e=.returned (.tuple #[.int .i32 (splitR r).1,.int .i32 (splitR r).2.1,.bool (splitR r).2.2])∧Below w.heap.size w w'
set_option maxHeartbeats 1000000 in
theorem splitcp_far (r:Int)(h:r<192∨382<r)(w:World):Calls Tryz.prog 201 #[.int .i32 r] w (SplitPost r w):=by
  have hs:splitR r=sylR r:=by
    apply splitR_none
    cases hc:splitT r with
    | none=>rfl
    | some x=>have:=splitT_upto hc;omega
  have cS:=fun w=>syl_c r w
  unfold SplitPost
  rw[hs]
  generalize sylR r=X at cS ⊢
  clear hs
  rcases h with h|h
  · have e1:decide (r<192)=true:=decide_eq_true h
    go_enter Tryz.func201,Tryz.ntmps201
    go_wp2_with fail
    refine(cS _).mono ?_
    rintro e w1 ⟨rfl,rfl⟩
    go_wp2
    go_ret3
    exact⟨rfl,Below.refl _ _⟩
  · have h':¬(r<192):=by omega
    go_enter Tryz.func201,Tryz.ntmps201
    go_wp2_with fail
    refine(cS _).mono ?_
    rintro e w1 ⟨rfl,rfl⟩
    go_wp2
    go_ret3
    exact⟨rfl,Below.refl _ _⟩
def RelSp (r:Int)(w0:World)(mv:Value)(wr:World):Prop:=
  ∃m:Int,mv=.int .i32 m∧768≤m∧m≤809∧(∀k:Nat,k<13→markN k<m→splitF r k=none)∧Below w0.heap.size w0 wr
theorem relsp_more {r m:Int}(h:∀k:Nat,k<13→markN k<m→splitF r k=none)(hx:∀k:Nat,k<13→markN k=m→splitF r k=none):∀k:Nat,k<13→markN k<m+1→splitF r k=none:=by
  intro k hk hm
  by_cases e:markN k=m
  · exact hx k hk e
  · exact h k hk (by omega)
set_option maxHeartbeats 1000000 in
theorem splitcp_near (r:Int)(h1:192≤r)(h2:r≤382)(w:World):Calls Tryz.prog 201 #[.int .i32 r] w (SplitPost r w):=by
  have h1':¬(r<192):=by omega
  have h2':¬(382<r):=by omega
  unfold SplitPost
  obtain⟨X,hX⟩:∃X,splitR r=X:=⟨_,rfl⟩
  rw[hX]
  have H0:=Lib.hid hX
  clear hX
  go_enter Tryz.func201,Tryz.ntmps201
  go_wp2
  go_loopw [5] (fun mv wr=>RelSp r w mv wr) (fun mv _=>(809-intOf mv).toNat)
  case atStart=>exact⟨768,rfl,by omega,by omega,fun k hk hm=>by have:=table_at hk;omega,Below.refl _ _⟩
  case round =>
    obtain⟨m,rfl,hm0,hm1,hno,hbel⟩:=hrel
    have HNO:=Lib.hid hno
    clear hno
    by_cases hlt:m≤808
    · have cR:=fun w=>row_c m w
      obtain⟨f1,f2,f3,f4⟩:=rows_fit m
      have cM:=fun w=>comes_c (txt (rowLs m)) (txt (rowMs m)) (rowLs m) (rowMs m) r (txt_runes f3) (txt_runes f4) f1 (by have:=txt_size (rowLs m);omega) (by have:=txt_size (rowMs m);omega) (by omega) w
      clear f1 f2 f3 f4
      generalize txt (rowLs m)=x at cR cM
      generalize txt (rowMs m)=y at cR cM
      cases hp:acrI (rowMs m) (rowLs m) r with
      | some z =>
        rw[hp]at cM
        have HX:Hid (X=(z,m,true)):=by
          refine Lib.hid ?_
          rw[←H0.out]
          unfold rowMs rowLs at hp
          cases hx:rowIx m with
          | none=>rw[hx]at hp;cases hp
          | some n =>
            rw[hx]at hp
            obtain⟨hn,hmn⟩:=rowIx_some hx
            simp only at hp
            rw[←rowSplit_is n hn]at hp
            have:=splitR_at (firstSome_at (f:=splitF r) (x:=(z,m)) hn (fun j hj=>HNO.out j (by omega) (by have:=marks_up n hn j hj;omega)) (by unfold splitF;rw[hp,hmn];rfl))
            exact this
        clear hp
        go_wp2_with fail
        refine(cR _).mono ?_
        rintro e w1 ⟨rfl,hb1⟩
        go_wp2_with fail
        refine(cM _).mono ?_
        rintro e w2 ⟨rfl,hb2⟩
        have hbb:=below_step (below_step hbel hb1) hb2
        clear hb1 hb2 hbel
        go_wp2
        go_ret3
        exact⟨by rw[HX.out];rfl,hbb⟩
      | none =>
        rw[hp]at cM
        have HM:Hid (∀k:Nat,k<13→markN k<m+1→splitF r k=none):=by
          refine Lib.hid (relsp_more HNO.out fun k hk hmk=>?_)
          have hx:rowIx m=some k:=by
            cases hx:rowIx m with
            | none=>exact absurd hmk (rowIx_none hx k hk)
            | some n =>
              obtain⟨hn,hmn⟩:=rowIx_some hx
              rw[marks_apart n hn k hk (by rw[hmn,hmk])]
          unfold rowMs rowLs at hp
          rw[hx]at hp
          simp only at hp
          rw[←rowSplit_is k hk]at hp
          unfold splitF
          rw[hp];rfl
        clear hp
        go_wp2_with fail
        refine(cR _).mono ?_
        rintro e w1 ⟨rfl,hb1⟩
        go_wp2_with fail
        refine(cM _).mono ?_
        rintro e w2 ⟨rfl,hb2⟩
        have hbb:=below_step (below_step hbel hb1) hb2
        clear hb1 hb2 hbel
        go_wp2
        go_roundw
        case rel=>exact⟨m+1,by go_num,by omega,by omega,HM.out,hbb⟩
        case measure=>simp[intOf];omega
    · have hm:m=809:=by omega
      subst hm
      have HX:Hid (X=(0,0,false)):=by
        refine Lib.hid ?_
        rw[←H0.out,splitR_none (firstSome_none fun k hk=>HNO.out k hk (by have:=table_at hk;omega))]
        unfold sylR
        rw[if_pos (by omega)]
      clear hlt
      go_wp2
      go_ret3
      exact⟨by rw[HX.out];rfl,hbel⟩
theorem splitcp_c (r:Int)(w:World):Calls Tryz.prog 201 #[.int .i32 r] w (SplitPost r w):=by
  by_cases h:r<192∨382<r
  · exact splitcp_far r h w
  · exact splitcp_near r (by omega) (by omega) w
end Go.Proofs.YtfioknaadbgjlaaGreatDoor.F
namespace Go.Proofs.YtfioknaadbgjlaaGreatDoor.F
open Go.RowKit Go.Sort
theorem getD_three (D U R:List Int)(k:Nat):(D++(U++R)).getD k 0=if k<D.length then D.getD k 0 else if k<D.length+U.length then U.getD (k-D.length) 0 else R.getD (k-D.length-U.length) 0:=by
  simp only[List.getD_eq_getElem?_getD]
  by_cases h1:k<D.length
  · rw[if_pos h1,List.getElem?_append_left h1]
  · rw[if_neg h1,List.getElem?_append_right (by omega)]
    by_cases h2:k<D.length+U.length
    · rw[if_pos h2,List.getElem?_append_left (by omega)]
    · rw[if_neg h2,List.getElem?_append_right (by omega)]
theorem putCells_sub (off:Nat)(D U R M:List Int)(h:M.length=U.length)(c:Array Value) :
    putCells encSo (off+D.length) M.toArray (putCells encSo off (D++(U++R)).toArray c)=putCells encSo off (D++(M++R)).toArray c:=by
  unfold putCells
  apply Array.ext_getElem?
  intro k
  simp only[Array.getElem?_mapIdx,Option.map_map]
  cases c[k]? with
  | none=>rfl
  | some x =>
    simp only[Option.map_some,Function.comp,toArray_at,List.size_toArray,List.length_append,getD_three,h]
    congr 1
    by_cases h1:off≤k∧k<off+(D.length+(U.length+R.length))
    · rw[if_pos h1,if_pos h1]
      by_cases h2:off+D.length≤k∧k<off+D.length+U.length
      · rw[if_pos h2,if_neg (by omega),if_pos (by omega),Nat.sub_sub]
      · rw[if_neg h2]
        congr 1
        by_cases h3:k-off<D.length
        · rw[if_pos h3,if_pos h3]
        · rw[if_neg h3,if_neg h3,if_neg (by omega),if_neg (by omega)]
    · rw[if_neg h1,if_neg h1,if_neg (by omega)]
theorem RW_sub (w:World)(g off:Nat)(D U R M:List Int)(h:M.length=U.length)(k m:Nat):RW (RW w g off (D++(U++R)) k) g (off+D.length) M m=RW w g off (D++(M++R)) (k+m):=by
  have h1:putRow encSo (putRow encSo w g off (D++(U++R)).toArray) g (off+D.length) M.toArray=putRow encSo w g off (D++(M++R)).toArray:=by
    unfold putRow
    rw[mapBlock_mapBlock]
    congr 1
    funext c
    exact putCells_sub off D U R M h c
  unfold RW
  have h2:putRow encSo ((putRow encSo w g off (D++(U++R)).toArray).drewN k) g (off+D.length) M.toArray=(putRow encSo (putRow encSo w g off (D++(U++R)).toArray) g (off+D.length) M.toArray).drewN k:=by
    induction k with
    | zero=>rfl
    | succ k ih =>
      show putRow encSo ((putRow encSo w g off (D++(U++R)).toArray).drewN k).drew g (off+D.length) M.toArray=_
      rw[←putRow_drew,ih];rfl
  rw[h2,h1,World.drewN_drewN]
theorem ordered_append (c:Int→Int):∀(A B:List Int),orderedM c A→orderedM c B→(∀x y,A.getLast?=some x→B.head?=some y→wrongB c x y=false)→orderedM c (A++B)
  | [],B,_,hB,_=>hB
  | [x],[],hA,_,_=>hA
  | [x],y::B,_,hB,h=>⟨h x y rfl rfl,hB⟩
  | x::x'::A,B,hA,hB,h=>by
    have ih:=ordered_append c (x'::A) B hA.2 hB (fun p q hp hq=>h p q (by rw[List.getLast?_cons_cons];exact hp) hq)
    exact⟨hA.1,ih⟩
theorem sorted_ordered:∀{U:List Int},SortedM U→orderedM classI U
  | [],_=>trivial
  | [x],_=>trivial
  | x::y::U,h=>by
    unfold SortedM at h
    rw[List.pairwise_cons]at h
    have:=h.1 y (by simp)
    exact⟨wrong_no classI (by omega),sorted_ordered h.2⟩
def Ends0 (D:List Int):Prop:=∀z,D.getLast?=some z→classI z=0
theorem ordered_run {D U:List Int}(hD:orderedM classI D)(h0:Ends0 D)(hU:SortedM U):orderedM classI (D++U):=
  ordered_append classI D U hD (sorted_ordered hU) fun x y hx _=>wrong_no classI (by have:=h0 x hx;have:=class_bounds y;omega)
theorem ordered_close {D:List Int}{x:Int}(hD:orderedM classI D)(hx:classI x=0):orderedM classI (D++[x]):=
  ordered_append classI D [x] hD trivial fun p q _ hq=>by simp at hq;subst hq;exact wrong_no classI (by omega)
theorem ends_close (D:List Int){x:Int}(hx:classI x=0):Ends0 (D++[x]):=fun z hz=>by simp at hz;subst hz;exact hx
def marksN (L:List Int):Nat:=L.countP fun x=>decide (0<classI x)
theorem marks_perm {L M:List Int}(h:L.Perm M):marksN L=marksN M:=h.countP_eq _
theorem marks_run {D U R:List Int}(hU:PosM U):U.length≤marksN (D++(U++R)):=by
  unfold marksN
  rw[List.countP_append,List.countP_append]
  have:U.countP (fun x=>decide (0<classI x))=U.length:=by
    rw[List.countP_eq_length]
    exact fun x hx=>decide_eq_true (hU x hx)
  omega
def OrdRel (w:World)(g off:Nat)(L:List Int)(bv tv:Value)(wr:World):Prop:=
  ∃(D U R:List Int) (k:Nat),bv=.int .i64 D.length∧tv=.int .i64 (D.length+U.length:Nat)∧SwapsM classI L (D++(U++R))∧orderedM classI D∧Ends0 D∧PosM U∧wr=RW w g off (D++(U++R)) k
theorem run_in (w:World)(g off N:Nat)(L:List Int)(hH:Holds encSo w g off L.toArray)(D U R:List Int)(hs:SwapsM classI L (D++(U++R)))(hU:PosM U)(hm:marksN L≤999999)(n cap k:Nat)(hn:U.length=n) :
    Calls Tryz.prog 202 #[.slice (some ⟨g,off+D.length,none⟩) n cap] (RW w g off (D++(U++R)) k)
      fun e w'=>e=.returned (.tuple #[])∧∃M m,SwapsM classI L (D++(M++R))∧SortedM M∧M.length=n∧w'=RW w g off (D++(M++R)) m:=by
  subst hn
  by_cases h0:U.length=0
  · have:U=[]:=List.eq_nil_of_length_eq_zero h0
    subst this
    refine(orderRun_none _ cap _).mono ?_
    rintro e w' ⟨rfl,rfl⟩
    exact⟨rfl,[],k,hs,by unfold SortedM;simp,rfl,rfl⟩
  · have hl:U.length<1000000:=by
      have h1:=marks_run (D:=D) (R:=R) hU
      have h2:=marks_perm hs.perm
      omega
    have hHs:Holds encSo (RW w g off (D++(U++R)) k) g (off+D.length) U.toArray:=by
      intro j hj
      have hj':j<U.length:=by simpa using hj
      have:=RW_cell (m:=k) (i:=D.length+j) hH hs.length.symm (by simp;omega)
      rw[getD_three,if_neg (by omega),if_pos (by omega),Nat.add_sub_cancel_left,←Nat.add_assoc]at this
      rw[toArray_at]
      exact this
    refine(orderRun_c _ g (off+D.length) cap U.length U hHs rfl hl hU).mono ?_
    rintro e w' ⟨rfl,M,m,h1,h2,rfl⟩
    refine⟨rfl,M,k+m,?_,h2,h1.length.symm,RW_sub w g off D U R M h1.length.symm k m⟩
    have:=h1.within D R
    rw[List.append_assoc,List.append_assoc]at this
    exact hs.trans this
theorem order_none (cap:Nat)(v:Option Addr)(hv:v=none)(w:World)(hcap:cap=0):Calls Tryz.prog 175 #[.slice v 0 cap] w fun e w'=>e=.returned (.tuple #[])∧w'=w:=by
  subst hv hcap
  have c:=fun v cap=>orderRun_none v cap w
  go_enter Tryz.func175,Tryz.ntmps175
  go_wp2
  refine wp_loop_rounds 1 ?_
  rw[rounds_succ]
  go_wp2_with fail
  refine(c _ _).mono ?_
  rintro e w' ⟨rfl,rfl⟩
  go_wp2
  go_end0
  exact⟨rfl,rfl⟩
set_option maxHeartbeats 4000000 in
theorem order_c (w:World)(g off cap N:Nat)(L:List Int)(hH:Holds encSo w g off L.toArray)(hN:L.length=N)(hsz:N<1000000)(hcap:N≤cap)(hm:marksN L≤999999) :
    Calls Tryz.prog 175 #[.slice (some ⟨g,off,none⟩) N cap] w fun e w'=>e=.returned (.tuple #[])∧∃m,w'=RW w g off (sortM classI L) m:=by
  have HS:Hid (OrdRel w g off L (.int .i64 0) (.int .i64 0) w):=Lib.hid ⟨[],[],L,0,rfl,rfl,.same _,trivial,(fun z hz=>nomatch hz),(fun x hx=>nomatch hx),(RW_start hH).symm⟩
  have HH:=Lib.hid hH
  have HN:=Lib.hid hN
  have HM:=Lib.hid hm
  clear hH hN hm
  go_enter Tryz.func175,Tryz.ntmps175
  go_wp2
  go_loopw [2,7] (fun bv tv wr=>OrdRel w g off L bv tv wr) (fun _ tv _=>N-(intOf tv).toNat)
  case atStart=>exact HS.out
  case round =>
    obtain⟨D,U,R,k,rfl,rfl,hs,hD,h0,hU,rfl⟩:=hrel
    obtain⟨b,hb⟩:∃b,D.length=b:=⟨_,rfl⟩
    obtain⟨u,hu⟩:∃u,U.length=u:=⟨_,rfl⟩
    obtain⟨t,ht⟩:∃t,b+u=t:=⟨_,rfl⟩
    have hl:=hs.length
    rw[HN.out,List.length_append,List.length_append,hb,hu]at hl
    rw[hb,hu,ht]
    obtain⟨wq,hwq⟩:∃wq,RW w g off (D++(U++R)) k=wq:=⟨_,rfl⟩
    rw[hwq]
    have btz:(b:Int)≤(t:Int):=by omega
    have btn:b≤t:=by omega
    have tbu:t-b=u:=by omega
    have htc:t≤cap:=by omega
    have hut:u≤t-b:=by omega
    have CR:Hid (∀(ad:Option Addr) (cp:Nat),u=0∨ad=some ⟨g,off+b,none⟩→Calls Tryz.prog 202 #[.slice ad u cp] wq
        fun e w'=>e=.returned (.tuple #[])∧∃M m,SwapsM classI L (D++(M++R))∧SortedM M∧M.length=u∧w'=RW w g off (D++(M++R)) m):=Lib.hid fun ad cp h=>by
      rcases h with h|rfl
      · have hU0:U=[]:=List.eq_nil_of_length_eq_zero (by omega)
        have:=orderRun_none ad cp wq
        rw[←h]at this
        refine this.mono ?_
        rintro e w' ⟨rfl,rfl⟩
        rw[hU0]at hs hwq
        exact⟨rfl,[],k,hs,by unfold SortedM;simp,h.symm,hwq.symm⟩
      · have:=run_in w g off N L HH.out D U R hs hU HM.out u cp k hu
        rw[hwq,hb]at this
        exact this
    cases R with
    | nil =>
      have htN:t=N:=by simp at hl;omega
      have HF:Hid (∀M m,SwapsM classI L (D++(M++[]))→SortedM M→RW w g off (D++(M++[])) m=RW w g off (sortM classI L) m):=Lib.hid fun M m h1 h2=>by
        rw[←h1.ordered classI (by rw[List.append_nil];exact ordered_run hD h0 h2)]
      subst htN
      have hge:¬((t:Int)<(t:Int)):=by omega
      have hbc:(b:Int)≤(cap:Int):=by omega
      clear hs hD h0 hU hb hu ht hl hwq
      go_wp2_with fail
      all_goals
        refine(CR.out _ _ (by first|exact Or.inr rfl|exact Or.inl (by omega))).mono ?_
        rintro e w' ⟨rfl,M,m,h1,h2,h3,rfl⟩
        rw[HF.out M m h1 h2]
        clear CR HF h1 h2 h3
        go_wp2
        go_end0
        exact⟨rfl,m,rfl⟩
    | cons x R =>
      simp only[List.length_cons]at hl
      have htN:t<N:=by omega
      have htz:(t:Int)<(N:Int):=by omega
      have hlen:(D++(U++x::R)).length=L.length:=hs.length.symm
      have k1:=RW_cell (m:=k) (i:=t) HH.out hlen (by rw[hlen,HN.out];exact htN)
      have v1:(D++(U++x::R)).getD t 0=x:=by
        have:=getD_mid (D++U) R x
        rw[List.length_append,hb,hu,ht,List.append_assoc]at this
        exact this
      rw[v1,hwq]at k1
      obtain⟨c1,f1⟩:=k1
      have cC:=fun w=>cls_c x w
      have wt:IntKind.i64.wrap ((t:Int)+1)=((t+1:Nat):Int):=by rw[IntKind.wrap_i64];omega
      by_cases hx:classI x=0
      · have HF:Hid (∀M m,SwapsM classI L (D++(M++x::R))→SortedM M→M.length=u→OrdRel w g off L (.int .i64 ((t+1:Nat):Int)) (.int .i64 ((t+1:Nat):Int)) (RW w g off (D++(M++x::R)) m)):=Lib.hid fun M m h1 h2 h3 =>
          ⟨(D++M)++[x],[],R,m,by simp only[List.length_append,List.length_singleton];rw[hb,h3,ht],by simp only[List.length_append,List.length_singleton,List.length_nil];rw[hb,h3,ht],by simpa using h1,ordered_close (ordered_run hD h0 h2) hx,ends_close _ hx,(fun z hz=>nomatch hz),by simp⟩
        rw[hx]at cC
        have hbcap:b≠cap:=by omega
        have hbc:(b:Int)≤(t:Int):=by omega
        have htcz:(t:Int)≤(cap:Int):=by omega
        clear hs hD h0 hU hb hu ht hl hwq v1 hlen hx
        go_wp2_with fail
        refine(cC _).mono ?_
        rintro e w' ⟨rfl,rfl⟩
        go_wp2_with fail
        all_goals
          refine(CR.out _ _ (by first|exact Or.inr rfl|exact Or.inl (by omega))).mono ?_
          rintro e w' ⟨rfl,M,m,h1,h2,h3,rfl⟩
          have HO:=Lib.hid (HF.out M m h1 h2 h3)
          clear CR HF h1 h2 h3
          go_wp2
          go_roundw
          case rel=>exact HO.out
          case measure=>simp[intOf];omega
      · have HF:Hid (OrdRel w g off L (.int .i64 b) (.int .i64 ((t+1:Nat):Int)) wq):=Lib.hid
          ⟨D,U++[x],R,k,by rw[hb],by rw[List.length_append,hb,hu,List.length_singleton,←Nat.add_assoc,ht],by simpa using hs,hD,h0,fun z hz=>by
            rcases List.mem_append.1 hz with hz|hz
            · exact hU z hz
            · simp at hz;subst hz;have:=class_bounds z;omega,by rw[←hwq];simp⟩
        have hx':(classI x==0)=false:=by rw[beq_eq_false_iff_ne];exact hx
        generalize classI x=cx at *
        clear hs hD h0 hU hb hu ht hl hwq v1 hlen CR
        go_wp2_with fail
        refine(cC _).mono ?_
        rintro e w' ⟨rfl,rfl⟩
        go_wp2
        go_roundw
        case rel=>exact HF.out
        case measure=>simp[intOf];omega
end Go.Proofs.YtfioknaadbgjlaaGreatDoor.F
namespace Go.Proofs.YtfioknaadbgjlaaGreatDoor.F
open Go.RowKit Go.Sort
abbrev OwnI (B:Nat)(w:World)(v:Value)(xs:List Int):Prop:=w.ownsRow B 21 1 v xs.length (xs.map (Value.int .i32))
theorem OwnI.nil (B:Nat)(w:World):OwnI B w (.slice none 0 0) []:=World.ownsRow_nil _ _ _ _
theorem OwnI.below {B:Nat}{w w':World}{v:Value}{xs:List Int}(h:OwnI B w v xs)(hb:Below w.heap.size w w'):OwnI B w' v xs:=
  h.kept (grown_of_below hb none) (by cases h:v.ownBlock with|none=>exact Or.inl rfl|some x=>exact Or.inr (by simp))
theorem OwnI.more {B:Nat}{w:World}{v:Value}{xs ys:List Int}{n:Nat}{zs:List Value}(h:w.ownsRow B 21 1 v n zs)(hn:n=(xs++ys).length)(hz:zs=xs.map (Value.int .i32)++ys.map (Value.int .i32)):OwnI B w v (xs++ys):=by
  subst hn hz
  unfold OwnI
  rw[List.map_append]
  exact h
theorem below_RW {B g:Nat}(w:World)(off:Nat)(L:List Int)(m:Nat)(hB:B≤g):Below B w (RW w g off L m):=by
  unfold RW
  have h:Below B w (putRow encSo w g off L.toArray):=by
    refine⟨rfl,rfl,rfl,?_,?_⟩
    · simp[putRow,mapBlock]
    · intro k hk
      have:g≠k:=by omega
      simp[putRow,mapBlock,Array.getElem?_modify,this]
  exact below_drewN' h m
theorem OwnI.holds {B g cap:Nat}{w:World}{xs:List Int}(h:OwnI B w (.slice (some ⟨g,0,none⟩) xs.length cap) xs):Holds encSo w g 0 xs.toArray∧xs.length≤cap∧B≤g∧g<w.heap.size:=by
  rcases h.2 with⟨hv,_⟩|⟨g',cap',cur,hv,hg,hb,hn,hm,hs,ht⟩
  · cases hv
  · cases hv
    refine⟨fun j hj=>?_,hn,hg,(Array.getElem?_eq_some_iff.1 hb).1⟩
    have hj':j<xs.length:=by simpa using hj
    refine⟨?_,by simp[World.frozen?,hb]⟩
    rw[toArray_at]
    have h1:(cur.toList.take (xs.length*1))[j]?=(xs.map (Value.int .i32))[j]?:=by rw[ht]
    rw[List.getElem?_take_of_lt (by omega)]at h1
    simp only[World.cell?,hb,Nat.zero_add]
    simp only[Option.isSome_none,Bool.false_eq_true,if_false]
    rw[←Array.getElem?_toList,h1]
    simp[hj',List.getD_eq_getElem?_getD]
theorem OwnI.form {B:Nat}{w:World}{v:Value}{xs:List Int}(h:OwnI B w v xs)(hn:xs≠[]):∃g cap,v=.slice (some ⟨g,0,none⟩) xs.length cap:=by
  rcases h.2 with⟨_,h0⟩|⟨g',cap',cur,hv,_⟩
  · exact absurd (List.eq_nil_of_length_eq_zero h0) hn
  · exact⟨g',cap',hv⟩
def AppPost (B:Nat)(xs:List Int)(r:Int)(w:World)(e:Ending)(w':World):Prop:=∃v',e=.returned v'∧OwnI B w' v' (xs++full1 r)∧Below B w w'
def AppSays (r:Int):Prop:=∀(B:Nat) (xs:List Int) (v:Value) (w:World),OwnI B w v xs→xs.length≤100000→B≤w.heap.size→Calls Tryz.prog 174 #[v,.int .i32 r] w (AppPost B xs r w)
theorem splitR_of_none {r:Int}(h:splitI r=none):splitR r=(0,0,false):=by unfold splitR;rw[h]
theorem splitR_of_some {r:Int}{p:Int×Int}(h:splitI r=some p):splitR r=(p.1,p.2,true):=by unfold splitR;rw[h]
set_option maxHeartbeats 1000000 in
theorem app_whole {r:Int}(hs:splitI r=none):AppSays r:=by
  intro B xs v w hown hlen hB
  obtain⟨i0,hi,hz0,hz1,hz2⟩:=info_parts infoInt32
  have cS:=fun w=>splitcp_c r w
  unfold SplitPost at cS
  rw[splitR_of_none hs]at cS
  have HF:=Lib.hid (full1_none hs)
  have HO:=Lib.hid hown
  clear hown hs
  go_enter Tryz.func174,Tryz.ntmps174
  go_wp2_with fail
  refine(cS _).mono ?_
  rintro e w1 ⟨rfl,hb1⟩
  have hown1:=HO.out.below hb1
  go_wp2_with (at_builtin;refine wpList_append_own _ rfl _ _ 113 rfl B 21 i0 (.int .i32 0) 1 4 Tryz.underlying113 hi hz0 hz1 hz2 rfl (by decide) _ _ _ rfl (hown1.alloc _) ⟨w1.heap.size,0,none⟩ 1 1 [.int .i32 r] rfl rfl ?c1 ?c2 ?c3 ?c4 ?c5 ?_)
  case c1 =>
    intro j u hj
    match j,hj with
    | 0,hj=>simp at hj;subst hj;simp[Addr.add]
  case c2=>intro u hu;simp at hu;subst hu;rfl
  case c3=>unfold maxLen;omega
  case c4=>omega
  case c5=>have h1:=hb1.size;simp;omega
  intro v' w2 hown' hgrow _
  have HO2:Hid (OwnI B w2 v' (xs++full1 r)):=Lib.hid (OwnI.more (ys:=full1 r) hown' (by rw[HF.out];simp) (by rw[HF.out];simp))
  have HBB:Hid (Below B w w2):=Lib.hid (((hb1.mono hB).alloc (by have:=hb1.size;omega) _).grown hgrow (by simp;have:=hb1.size;omega) (fun j hj=>(hown1.lt j hj).1))
  clear hown' hgrow hown1
  go_wp2
  go_ret
  exact⟨_,rfl,HO2.out,HBB.out⟩
set_option maxHeartbeats 1000000 in
theorem app_part {r:Int}{p:Int×Int}(hs:splitI r=some p)(h1:AppSays p.1):AppSays r:=by
  intro B xs v w hown hlen hB
  obtain⟨i0,hi,hz0,hz1,hz2⟩:=info_parts infoInt32
  have cS:=fun w=>splitcp_c r w
  unfold SplitPost at cS
  rw[splitR_of_some hs]at cS
  have HF:=Lib.hid (show full1 r=full1 p.1++[p.2] by rw[full1_some hs,full1_none (split_second hs)])
  obtain⟨p1,p2⟩:=p
  simp only at cS HF h1
  have H1:=Lib.hid h1
  have HO:=Lib.hid hown
  have HLN:=Lib.hid (full1_length p1)
  clear hown hs h1
  go_enter Tryz.func174,Tryz.ntmps174
  go_wp2_with fail
  refine(cS _).mono ?_
  rintro e w1 ⟨rfl,hb1⟩
  have cA:=H1.out B xs v w1 (HO.out.below hb1) hlen (by have:=hb1.size;omega)
  clear cS HO H1
  go_wp2_with fail
  refine cA.mono ?_
  rintro e w2 ⟨v2,rfl,hown1,hb2⟩
  have hl:=HLN.out
  clear cA
  go_wp2_with (at_builtin;refine wpList_append_own _ rfl _ _ 113 rfl B 21 i0 (.int .i32 0) 1 4 Tryz.underlying113 hi hz0 hz1 hz2 rfl (by decide) _ _ _ rfl (hown1.alloc _) ⟨w2.heap.size,0,none⟩ 1 1 [.int .i32 p2] rfl rfl ?c1 ?c2 ?c3 ?c4 ?c5 ?_)
  case c1 =>
    intro j u hj
    match j,hj with
    | 0,hj=>simp at hj;subst hj;simp[Addr.add]
  case c2=>intro u hu;simp at hu;subst hu;rfl
  case c3=>rw[List.length_append];unfold maxLen;omega
  case c4=>rw[List.length_append];omega
  case c5=>have h1:=hb1.size;have h2:=hb2.size;simp;omega
  intro v' w3 hown' hgrow _
  have HO2:Hid (OwnI B w3 v' (xs++full1 r)):=Lib.hid (OwnI.more (ys:=full1 r) hown' (by rw[HF.out];simp;omega) (by rw[HF.out];simp))
  have HBB:Hid (Below B w w3):=Lib.hid ((((hb1.mono hB).trans hb2).alloc (by have:=hb1.size;have:=hb2.size;omega) _).grown hgrow (by simp;have:=hb1.size;have:=hb2.size;omega) (fun j hj=>(hown1.lt j hj).1))
  clear hown' hgrow hown1
  go_wp2
  go_ret
  exact⟨_,rfl,HO2.out,HBB.out⟩
theorem app_c (r:Int):AppSays r:=by
  cases hs:splitI r with
  | none=>exact app_whole hs
  | some p =>
    refine app_part hs ?_
    cases h2:splitI p.1 with
    | none=>exact app_whole h2
    | some q=>exact app_part h2 (app_whole (split_first hs h2).1)
def ApRel (w0:World)(l:List Int)(ov iv:Value)(wr:World):Prop:=
  ∃i,i≤l.length∧iv=.int .i64 (i:Nat)∧OwnI w0.heap.size wr ov (fullL (l.take i))∧(fullL (l.take i)=[]→ov=.slice none 0 0)∧Below w0.heap.size w0 wr
theorem full_step {l:List Int}{i:Nat}(h:i<l.length):fullL (l.take (i+1))=fullL (l.take i)++full1 (l.getD i 0):=by
  rw[List.take_add_one,fullL_append]
  congr 1
  simp[List.getD_eq_getElem?_getD,List.getElem?_eq_getElem h,fullL]
theorem full_ne (xs:List Int)(r:Int):xs++full1 r≠[]:=by
  intro h
  have:=congrArg List.length h
  have h1:=full1_pos r
  rw[List.length_append,List.length_nil]at this
  omega
def ApartPost (l:List Int)(w:World)(e:Ending)(w':World):Prop:=∃v',e=.returned v'∧SliceIs w' v' (apartI l)∧(v'=.slice none 0 0∨∃ad cap,v'=.slice (some ad) (apartI l).length cap)∧Below w.heap.size w w'
set_option maxHeartbeats 2000000 in
theorem apart_c (l:List Int)(v:Value)(w:World)(hv:SliceIs w v l)(hs:l.length≤1000)(hm:marksN (fullL l)≤999999):Calls Tryz.prog 138 #[v] w (ApartPost l w):=by
  obtain⟨a,cap,hva⟩:=hv.len
  have HV:=Lib.hid hv
  have HM:=Lib.hid hm
  obtain⟨n,hn⟩:∃n,l.length=n:=⟨_,rfl⟩
  have HN:=Lib.hid hn
  subst hva
  rw[hn]at HV ⊢
  rw[hn]at hs
  clear hv hm hn
  go_enter Tryz.func138,Tryz.ntmps138
  go_wp2
  go_loopw [3,8] (fun ov iv wr=>ApRel w l ov iv wr) (fun _ iv _=>n-(intOf iv).toNat)
  case atStart=>exact⟨0,by omega,rfl,by simpa[fullL]using OwnI.nil _ _,fun _=>rfl,Below.refl _ _⟩
  case round =>
    obtain⟨i,hi,rfl,hown,hnil,hbel⟩:=hrel
    rw[HN.out]at hi
    have HO:=Lib.hid hown
    have HNIL:=Lib.hid hnil
    clear hown hnil
    by_cases hlt:i<n
    · have hltz:(i:Int)<(n:Int):=by omega
      obtain⟨x,hx⟩:∃x,l.getD i 0=x:=⟨_,rfl⟩
      have HST:=Lib.hid (full_step (l:=l) (i:=i) (by rw[HN.out];exact hlt))
      rw[hx]at HST
      obtain⟨g,off,cp,hg,hvv,hc⟩:∃g off cp,g<w.heap.size∧Value.slice a n cap=.slice (some ⟨g,off,none⟩) n cp∧w.cell? ⟨g,off+i,none⟩=some (.int .i32 x):=by
        rcases HV.out with⟨h0,_⟩|⟨g,off,cp,hg,hvv,hc⟩
        · have:=HN.out;rw[h0]at this;simp at this;omega
        · exact⟨g,off,cp,hg,by rw[hvv,HN.out],by rw[hc i (by rw[HN.out];exact hlt),hx]⟩
      cases hvv
      have c1:wr.cell? ⟨g,off+i,none⟩=some (.int .i32 x):=by rw[hbel.cell (p:=⟨g,off+i,none⟩) hg];exact hc
      have hl3:=fullL_length (l.take i)
      rw[List.length_take,HN.out]at hl3
      have cA:=app_c x w.heap.size (fullL (l.take i)) u3 wr HO.out (by omega) hbel.size
      have wi:IntKind.i64.wrap ((i:Int)+1)=((i+1:Nat):Int):=by rw[IntKind.wrap_i64];omega
      clear hc hx hl3
      go_wp2_with fail
      refine cA.mono ?_
      rintro e w1 ⟨v',rfl,ho,hb⟩
      have HR:Hid (ApRel w l v' (.int .i64 ((i+1:Nat):Int)) w1):=Lib.hid ⟨i+1,by rw[HN.out];omega,rfl,by rw[HST.out];exact ho,fun h=>by rw[HST.out]at h;exact absurd h (full_ne _ _),hbel.trans hb⟩
      clear ho hb cA
      go_wp2
      go_roundw
      case rel=>exact HR.out
      case measure=>simp[intOf];omega
    · have hin:i=n:=by omega
      subst hin
      have HT:Hid (l.take i=l):=Lib.hid (List.take_of_length_le (by rw[HN.out];omega))
      rw[HT.out]at HO HNIL
      have hge:¬((i:Int)<(i:Int)):=by omega
      by_cases h0:fullL l=[]
      · have hov:=HNIL.out h0
        subst hov
        have HX:Hid (ApartPost l w (.returned (.slice none 0 0)) wr):=Lib.hid ⟨_,rfl,by unfold apartI;rw[h0];exact SliceIs.nil _,Or.inl rfl,hbel⟩
        have cO:=order_none 0 none rfl wr rfl
        clear h0
        go_wp2_with fail
        refine cO.mono ?_
        rintro e w1 ⟨rfl,rfl⟩
        go_wp2
        go_ret
        exact HX.out
      · obtain⟨g,cp,hov⟩:=OwnI.form HO.out h0
        subst hov
        obtain⟨hH,hcp,hgB,hgw⟩:=OwnI.holds HO.out
        obtain⟨k,hk⟩:∃k,(fullL l).length=k:=⟨_,rfl⟩
        rw[hk]at hcp HO ⊢
        have hk3:=fullL_length l
        have cO:=order_c wr g 0 cp k (fullL l) hH hk (by rw[hk,HN.out]at hk3;omega) hcp HM.out
        have HX:Hid (∀m,ApartPost l w (.returned (.slice (some ⟨g,0,none⟩) k cp)) (RW wr g 0 (sortM classI (fullL l)) m)):=Lib.hid fun m=>by
          have hlen:(sortM classI (fullL l)).length=k:=(sortM_perm classI (fullL l)).length_eq.trans hk
          have hal:(apartI l).length=k:=hlen
          refine⟨_,rfl,?_,Or.inr ⟨_,cp,by rw[hal]⟩,hbel.trans (below_RW wr 0 _ m hgB)⟩
          refine Or.inr ⟨g,0,cp,?_,by rw[hal],fun j hj=>?_⟩
          · have:=(below_RW (B:=0) wr (g:=g) 0 (sortM classI (fullL l)) m (by omega)).size
            omega
          · exact(RW_cell (m:=m) (i:=j) hH (hlen.trans hk.symm) hj).1
        clear h0 hH hk hk3 hcp
        go_wp2_with fail
        refine cO.mono ?_
        rintro e w1 ⟨rfl,m,rfl⟩
        go_wp2
        go_ret
        exact HX.out m
end Go.Proofs.YtfioknaadbgjlaaGreatDoor.F
namespace Go.Proofs.YtfioknaadbgjlaaGreatDoor.F
open Go.RowKit
set_option maxHeartbeats 1000000 in
theorem eq_len (a b:Option Addr)(n m c d:Nat)(hnm:n≠m)(w:World) :
    Calls Tryz.prog 137 #[.slice a n c,.slice b m d] w fun e w'=>e=.returned (.bool false)∧Below w.heap.size w w':=by
  have h1:((n:Int)==(m:Int))=false:=by rw[beq_eq_false_iff_ne];omega
  have h2:¬((n:Int)=(m:Int)):=by omega
  clear hnm
  go_enter Tryz.func137,Tryz.ntmps137
  go_wp2
  go_ret
  exact⟨rfl,Below.refl _ _⟩
set_option maxHeartbeats 1000000 in
theorem eq_nil (a b:Option Addr)(c d:Nat)(w:World) :
    Calls Tryz.prog 137 #[.slice a 0 c,.slice b 0 d] w fun e w'=>e=.returned (.bool true)∧Below w.heap.size w w':=by
  go_enter Tryz.func137,Tryz.ntmps137
  go_wp2
  refine wp_loop_rounds 1 ?_
  rw[rounds_succ]
  go_wp2
  go_ret
  exact⟨rfl,Below.refl _ _⟩
set_option maxHeartbeats 1000000 in
theorem eq_in (la lb:List Int)(hl:la.length=lb.length)(hs:la.length≤1000)(g off cap g' off' cap':Nat)(w:World)(hg:g<w.heap.size)(hg':g'<w.heap.size)
    (hc:∀j,j<la.length→w.cell? ⟨g,off+j,none⟩=some (.int .i32 (la.getD j 0))) (hc':∀j,j<la.length→w.cell? ⟨g',off'+j,none⟩=some (.int .i32 (lb.getD j 0))) :
    Calls Tryz.prog 137 #[.slice (some ⟨g,off,none⟩) la.length cap,.slice (some ⟨g',off',none⟩) la.length cap'] w fun e w'=>e=.returned (.bool (decide (la=lb)))∧Below w.heap.size w w':=by
  obtain⟨n,hn⟩:∃n,la.length=n:=⟨_,rfl⟩
  have HL:=Lib.hid hl
  have HC:=Lib.hid hc
  have HC':=Lib.hid hc'
  clear hl hc hc'
  obtain⟨R,hR⟩:∃R,decide (la=lb)=R:=⟨_,rfl⟩
  rw[hR,hn]
  rw[hn]at hs
  have HN:=Lib.hid hn
  have HR:=Lib.hid hR
  clear hn hR
  go_enter Tryz.func137,Tryz.ntmps137
  go_wp2
  go_loopw [13] (fun iv wr=>RelS la lb w iv wr) (fun iv _=>n-(intOf iv).toNat)
  case atStart=>exact⟨0,by omega,rfl,fun j hj=>by omega,Below.refl _ _⟩
  case round =>
    obtain⟨i,hi,rfl,heq,hbel⟩:=hrel
    rw[HN.out]at hi
    have HE:=Lib.hid heq
    clear heq
    by_cases hlt:i<n
    · obtain⟨x,hx⟩:∃x,la.getD i 0=x:=⟨_,rfl⟩
      obtain⟨y,hy⟩:∃y,lb.getD i 0=y:=⟨_,rfl⟩
      have c1:wr.cell? ⟨g,off+i,none⟩=some (.int .i32 x):=by rw[hbel.cell (p:=⟨g,off+i,none⟩) hg,HC.out i (by rw[HN.out];exact hlt),hx]
      have c2:wr.cell? ⟨g',off'+i,none⟩=some (.int .i32 y):=by rw[hbel.cell (p:=⟨g',off'+i,none⟩) hg',HC'.out i (by rw[HN.out];exact hlt),hy]
      have hltz:(i:Int)<(n:Int):=by omega
      by_cases hxy:x=y
      · have HS:=Lib.hid (same_step HE.out (hx.trans (hxy.trans hy.symm)))
        subst hxy
        clear hx hy
        go_wp2
        go_quiet (fail)
        go_wp2
        go_roundw
        case rel=>exact⟨i+1,by rw[HN.out];omega,by go_num,HS.out,below_drewN' hbel _⟩
        case measure=>simp[intOf];omega
      · have hne:(x==y)=false:=by rw[beq_eq_false_iff_ne];exact hxy
        have HF:Hid (R=false):=by
          rw[←HR.out]
          refine decide_eq_false fun h=>hxy ?_
          rw[←hx,←hy,h]
        clear hx hy hxy
        go_wp2
        go_quiet (fail)
        go_wp2
        go_ret
        exact⟨by rw[HF.out];rfl,below_drewN' hbel _⟩
    · have hin:i=n:=by omega
      have HT:Hid (R=true):=by
        rw[←HR.out]
        exact decide_eq_true (same_all HL.out (fun j hj=>HE.out j (by rw[HN.out]at hj;omega)))
      have hge:¬((i:Int)<(n:Int)):=by omega
      clear hin
      go_wp2
      go_ret
      exact⟨by rw[HT.out];rfl,hbel⟩
theorem eq_c {va vb:Value}{la lb:List Int}{w:World}(ha:SliceIs w va la)(hb:SliceIs w vb lb)(hs:la.length≤1000) :
    Calls Tryz.prog 137 #[va,vb] w fun e w'=>e=.returned (.bool (decide (la=lb)))∧Below w.heap.size w w':=by
  by_cases hl:la.length=lb.length
  · rcases ha with⟨rfl,a,cap,rfl⟩|⟨g,off,cap,hg,rfl,hc⟩
    · have:lb=[]:=List.eq_nil_of_length_eq_zero (by rw[←hl];rfl)
      subst this
      obtain⟨b,d,rfl⟩:=hb.len
      exact eq_nil a b cap d w
    · rcases hb with⟨rfl,b,cap',rfl⟩|⟨g',off',cap',hg',rfl,hc'⟩
      · have:la=[]:=List.eq_nil_of_length_eq_zero (by rw[hl];rfl)
        subst this
        exact eq_nil _ b cap cap' w
      · rw[←hl]
        exact eq_in la lb hl hs g off cap g' off' cap' w hg hg' hc (fun j hj=>hc' j (by omega))
  · obtain⟨a,c,rfl⟩:=ha.len
    obtain⟨b,d,rfl⟩:=hb.len
    have:decide (la=lb)=false:=decide_eq_false fun h=>hl (by rw[h])
    rw[this]
    exact eq_len a b _ _ c d hl w
def StablePost (l:List Int)(w:World)(e:Ending)(w':World):Prop:=e=.returned (.bool (decide (l=apartI l)))∧Below w.heap.size w w'
set_option maxHeartbeats 1000000 in
theorem stablecp_c (l:List Int)(v:Value)(w:World)(hv:SliceIs w v l)(hs:l.length≤1000)(hm:marksN (fullL l)≤999999):Calls Tryz.prog 99 #[v] w (StablePost l w):=by
  have cA:=apart_c l v w hv hs hm
  have HV:=Lib.hid hv
  clear hv hm
  go_enter Tryz.func99,Tryz.ntmps99
  go_wp2_with fail
  refine cA.mono ?_
  rintro e w1 ⟨v',rfl,h1,_,hb⟩
  have cE:=eq_c (HV.out.kept hb) h1 hs
  have HB:=Lib.hid hb
  clear h1 hb cA
  go_wp2_with fail
  refine cE.mono ?_
  rintro e w2 ⟨rfl,hb2⟩
  have HB2:=Lib.hid (below_step HB.out hb2)
  clear hb2 cE
  go_wp2
  go_ret
  exact⟨rfl,HB2.out⟩
end Go.Proofs.YtfioknaadbgjlaaGreatDoor.F
namespace Go.Proofs.YtfioknaadbgjlaaGreatDoor.F
open Go.RowKit Go.Sort
theorem below_set {B g:Nat}(w:World)(i:Nat)(v:Value)(hB:B≤g):Below B w (w.setCell ⟨g,i,none⟩ v):=by
  rw[setCell_eq]
  refine⟨rfl,rfl,rfl,?_,?_⟩
  · simp[mapBlock]
  · intro k hk
    have:g≠k:=by omega
    simp[mapBlock,Array.getElem?_modify,this]
theorem OwnI.set {B g n cap i:Nat}{w:World}{xs:List Int}(x:Int)(h:OwnI B w (.slice (some ⟨g,0,none⟩) n cap) xs):OwnI B (w.setCell ⟨g,i,none⟩ (.int .i32 x)) (.slice (some ⟨g,0,none⟩) n cap) (xs.set i x):=by
  refine⟨by simp,?_⟩
  rcases h.2 with⟨hv,_⟩|⟨g',cap',cur,hv,hg,hb,hn,hm,hs,ht⟩
  · cases hv
  · cases hv
    refine Or.inr ⟨g,cap,cur.setIfInBounds i (.int .i32 x),by simp,hg,?_,by simpa using hn,hm,by simpa using hs,?_⟩
    · rw[setCell_eq]
      simp[mapBlock,Array.getElem?_modify,hb,onCells]
    · rw[Array.toList_setIfInBounds,List.length_set,List.map_set,List.take_set,ht]
def ReachPost (ms:List Int)(r:Int)(w:World)(e:Ending)(w':World):Prop:=e=.returned (.bool (mayB ms r))∧Below w.heap.size w w'
set_option maxHeartbeats 1000000 in
theorem reach_nil (a:Option Addr)(cap:Nat)(r:Int)(w:World):Calls Tryz.prog 176 #[.slice a 0 cap,.int .i32 r] w (ReachPost [] r w):=by
  go_enter Tryz.func176,Tryz.ntmps176
  go_wp2
  go_quiet (fail)
  go_wp2
  go_ret
  exact⟨rfl,below_drewN' (Below.refl _ _) _⟩
set_option maxHeartbeats 1000000 in
theorem reach_some (g off k cap:Nat)(ms:List Int)(z r:Int)(hz:ms.getLast?=some z)(w:World)(hc:w.cell? ⟨g,off+k,none⟩=some (.int .i32 z))(hk:k<100000) :
    Calls Tryz.prog 176 #[.slice (some ⟨g,off,none⟩) (k+1) cap,.int .i32 r] w (ReachPost ms r w):=by
  have cC:=fun x w=>cls_c x w
  have HM:=Lib.hid (show mayB ms r=decide (classI z<classI r) by unfold mayB;rw[hz])
  unfold ReachPost
  rw[HM.out]
  have wk:IntKind.i64.wrap (((k+1:Nat):Int)-1)=(k:Int):=by rw[IntKind.wrap_i64];omega
  have wk':IntKind.i64.wrap ((k:Int))=(k:Int):=by rw[IntKind.wrap_i64];omega
  have hne:(((k+1:Nat):Int)==0)=false:=by rw[beq_eq_false_iff_ne];omega
  have hne':(((k:Int)+1)==0)=false:=by rw[beq_eq_false_iff_ne];omega
  go_enter Tryz.func176,Tryz.ntmps176
  go_wp2
  go_quiet ((go_at_call 100;exact Calls.quiet_of_same ((cC _ _).mono fun _ _ h=>⟨h.1,h.2⟩)))
  go_wp2
  go_ret
  exact⟨rfl,below_drewN' (Below.refl _ _) _⟩
theorem reach_c (v:Value)(ms:List Int)(r:Int)(w:World)(hv:SliceIs w v ms)(hs:ms.length<100000):Calls Tryz.prog 176 #[v,.int .i32 r] w (ReachPost ms r w):=by
  rcases List.eq_nil_or_concat ms with h0|⟨m,z,h0⟩
  · subst h0
    obtain⟨a,cap,rfl⟩:=hv.len
    exact reach_nil a cap r w
  · rw[List.concat_eq_append]at h0
    subst h0
    rcases hv with⟨h0,_⟩|⟨g,off,cap,hg,rfl,hc⟩
    · simp at h0
    · have:=hc m.length (by simp)
      rw[getD_mid m [] z]at this
      rw[List.length_append,List.length_singleton]at hs ⊢
      exact reach_some g off m.length cap (m++[z]) z r (by simp) w this (by omega)
end Go.Proofs.YtfioknaadbgjlaaGreatDoor.F
namespace Go.Proofs.YtfioknaadbgjlaaGreatDoor.F
open Go.RowKit Go.Sort
def baseOf (out:List Int):Int:=match lastBase out with
  | some (p,_,_)=>(p.length:Int)
  | none=>-1
theorem base_close {out:List Int}{x:Int}(h:classI x=0):baseOf (out++[x])=(out.length:Int):=by
  unfold baseOf;rw[lastBase_at out h (fun y hy=>by cases hy)]
theorem base_mark {out:List Int}{x:Int}(h:¬classI x=0):baseOf (out++[x])=baseOf out:=by
  have hx:0<classI x:=by have:=classI_nn x;omega
  unfold baseOf
  cases hb:lastBase out with
  | none =>
    have:=lastBase_none hb
    rw[lastBase_pos (fun y hy=>by
      rcases List.mem_append.1 hy with hy|hy
      · exact this y hy
      · simp at hy;subst hy;exact hx)]
  | some q =>
    obtain⟨p,b,ms⟩:=q
    obtain⟨ho,hb0,hms⟩:=lastBase_some hb
    have e:out++[x]=p++b::(ms++[x]):=by rw[ho];simp
    rw[e,lastBase_at p hb0 (fun y hy=>by
      rcases List.mem_append.1 hy with hy|hy
      · exact hms y hy
      · simp at hy;subst hy;exact hx)]
theorem base_made {p ms:List Int}{b r:Int}(h:0<pairI b r)(hms:PosL ms):baseOf (p++pairI b r::ms)=(p.length:Int):=by
  unfold baseOf;rw[lastBase_at p (class_made h) hms]
theorem set_at {p ms:List Int}{b x:Int}:(p++b::ms).set p.length x=p++x::ms:=by simp
theorem tog_take {l:List Int}{i:Nat}(h:i<l.length):togI (l.take (i+1))=togStep (togI (l.take i)) (l.getD i 0):=by
  rw[List.take_add_one,show l[i]?.toList=[l.getD i 0] by simp[List.getD_eq_getElem?_getD,List.getElem?_eq_getElem h],togI_snoc]
def TogRel (w0:World)(l:List Int)(ov bv iv:Value)(wr:World):Prop:=
  ∃i,i≤l.length∧iv=.int .i64 (i:Nat)∧OwnI w0.heap.size wr ov (togI (l.take i))∧bv=.int .i64 (baseOf (togI (l.take i)))∧Below w0.heap.size w0 wr
def TogPost (l:List Int)(w:World)(e:Ending)(w':World):Prop:=∃v',e=.returned v'∧SliceIs w' v' (togI l)∧Below w.heap.size w w'
set_option maxHeartbeats 3000000 in
theorem together_c (l:List Int)(v:Value)(w:World)(hv:SliceIs w v l)(hs:l.length≤1000):Calls Tryz.prog 140 #[v] w (TogPost l w):=by
  obtain⟨i0,hi0,hz0,hz1,hz2⟩:=info_parts infoInt32
  obtain⟨a,cap,hva⟩:=hv.len
  have HV:=Lib.hid hv
  obtain⟨n,hn⟩:∃n,l.length=n:=⟨_,rfl⟩
  have HN:=Lib.hid hn
  subst hva
  rw[hn]at HV ⊢
  rw[hn]at hs
  clear hv hn
  go_enter Tryz.func140,Tryz.ntmps140
  go_wp2
  go_loopw [3,4,11] (fun ov bv iv wr=>TogRel w l ov bv iv wr) (fun _ _ iv _=>n-(intOf iv).toNat)
  case atStart=>exact⟨0,by omega,rfl,by simpa[togI]using OwnI.nil _ _,rfl,Below.refl _ _⟩
  case round =>
    obtain⟨i,hi,rfl,hown,rfl,hbel⟩:=hrel
    rw[HN.out]at hi
    by_cases hlt:i<n
    · have hltz:(i:Int)<(n:Int):=by omega
      obtain⟨x,hx⟩:∃x,l.getD i 0=x:=⟨_,rfl⟩
      have HST:=Lib.hid (tog_take (l:=l) (i:=i) (by rw[HN.out];exact hlt))
      rw[hx]at HST
      obtain⟨g,off,cp,hg,hvv,hc⟩:∃g off cp,g<w.heap.size∧Value.slice a n cap=.slice (some ⟨g,off,none⟩) n cp∧w.cell? ⟨g,off+i,none⟩=some (.int .i32 x):=by
        rcases HV.out with⟨h0,_⟩|⟨g,off,cp,hg,hvv,hc⟩
        · have:=HN.out;rw[h0]at this;simp at this;omega
        · exact⟨g,off,cp,hg,by rw[hvv,HN.out],by rw[hc i (by rw[HN.out];exact hlt),hx]⟩
      cases hvv
      have c1:wr.cell? ⟨g,off+i,none⟩=some (.int .i32 x):=by rw[hbel.cell (p:=⟨g,off+i,none⟩) hg];exact hc
      have hol:=togI_length (l.take i)
      rw[List.length_take,HN.out]at hol
      have hol:(togI (l.take i)).length≤i:=by omega
      obtain⟨out,hout⟩:∃out,togI (l.take i)=out:=⟨_,rfl⟩
      rw[hout]at HST hown hol ⊢
      have cC:=fun w=>cls_c x w
      have wi:IntKind.i64.wrap ((i:Int)+1)=((i+1:Nat):Int):=by rw[IntKind.wrap_i64];omega
      have HA0:Hid (classI x=0→togStep out x=out++[x]→∀ov w',OwnI w.heap.size w' ov (out++[x])→Below w.heap.size w w'→TogRel w l ov (.int .i64 (out.length:Nat)) (.int .i64 ((i+1:Nat):Int)) w'):=Lib.hid fun h0 hst ov w' ho hb =>
        ⟨i+1,by rw[HN.out];omega,rfl,by rw[HST.out,hst];exact ho,by rw[HST.out,hst,base_close h0],hb⟩
      have HA1:Hid (¬classI x=0→togStep out x=out++[x]→∀ov w',OwnI w.heap.size w' ov (out++[x])→Below w.heap.size w w'→TogRel w l ov (.int .i64 (baseOf out)) (.int .i64 ((i+1:Nat):Int)) w'):=Lib.hid fun h0 hst ov w' ho hb =>
        ⟨i+1,by rw[HN.out];omega,rfl,by rw[HST.out,hst];exact ho,by rw[HST.out,hst,base_mark h0],hb⟩
      have HMP:Hid (∀p b ms,togStep out x=p++pairI b x::ms→0<pairI b x→PosL ms→∀ov w',OwnI w.heap.size w' ov (p++pairI b x::ms)→Below w.heap.size w w'→TogRel w l ov (.int .i64 (p.length:Nat)) (.int .i64 ((i+1:Nat):Int)) w'):=Lib.hid fun p b ms hst h0 hms ov w' ho hb =>
        ⟨i+1,by rw[HN.out];omega,rfl,by rw[HST.out,hst];exact ho,by rw[HST.out,hst,base_made h0 hms],hb⟩
      have HO:=Lib.hid hown
      have HBEL:=Lib.hid hbel
      have hwB:=hbel.size
      have HXL:Hid (out.length≤i):=Lib.hid hol
      have hol:(out.length:Int)≤1000:=by omega
      have hol':out.length≤1000:=by omega
      clear hx hc hown hbel hout HST
      cases hb:lastBase out with
      | none =>
        have hst:togStep out x=out++[x]:=by unfold togStep;rw[hb]
        have hbo:baseOf out=-1:=by unfold baseOf;rw[hb]
        rw[hbo]at HA1 ⊢
        clear hb hbo
        obtain⟨ao,co,hov⟩:=(SliceIs.own HO.out).len
        subst hov
        by_cases h0:classI x=0
        · have HE:=Lib.hid (HA0.out h0 hst)
          rw[h0]at cC
          clear h0 HA0 HA1 HMP
          go_wp2_with fail
          refine(cC _).mono ?_
          rintro e w' ⟨rfl,hweq⟩
          rw[hweq]
          clear hweq w'
          have hown1:=HO.out
          have hbl1:=HBEL.out
          go_wp2_with (at_builtin;refine wpList_append_own _ rfl _ _ 113 rfl w.heap.size 21 i0 (.int .i32 0) 1 4 Tryz.underlying113 hi0 hz0 hz1 hz2 rfl (by decide) _ _ _ rfl (hown1.alloc _) ⟨wr.heap.size,0,none⟩ 1 1 [.int .i32 x] rfl rfl ?c1 ?c2 ?c3 ?c4 ?c5 ?_)
          case c1 =>
            intro j u hj
            match j,hj with
            | 0,hj=>simp at hj;subst hj;simp[Addr.add]
          case c2=>intro u hu;simp at hu;subst hu;rfl
          case c3=>unfold maxLen;omega
          case c4=>omega
          case c5=>have:=hbl1.size;simp;omega
          intro v' w9 hown' hgrow _
          have HR:=Lib.hid (HE.out v' w9 (OwnI.more (ys:=[x]) hown' (by simp) (by simp)) ((hbl1.alloc hbl1.size _).grown hgrow (by have:=hbl1.size;simp;omega) (fun j hj=>(hown1.lt j hj).1)))
          clear hown' hgrow hown1 hbl1 HE
          go_wp2
          go_roundw
          case rel=>exact HR.out
          case measure=>simp[intOf];omega
        · have HE:=Lib.hid (HA1.out h0 hst)
          have h0':(classI x==0)=false:=by rw[beq_eq_false_iff_ne];exact h0
          clear h0 HA0 HA1 HMP
          generalize classI x=cx at *
          go_wp2_with fail
          refine(cC _).mono ?_
          rintro e w' ⟨rfl,hweq⟩
          rw[hweq]
          clear hweq w'
          have hown1:=HO.out
          have hbl1:=HBEL.out
          go_wp2_with (at_builtin;refine wpList_append_own _ rfl _ _ 113 rfl w.heap.size 21 i0 (.int .i32 0) 1 4 Tryz.underlying113 hi0 hz0 hz1 hz2 rfl (by decide) _ _ _ rfl (hown1.alloc _) ⟨wr.heap.size,0,none⟩ 1 1 [.int .i32 x] rfl rfl ?c1 ?c2 ?c3 ?c4 ?c5 ?_)
          case c1 =>
            intro j u hj
            match j,hj with
            | 0,hj=>simp at hj;subst hj;simp[Addr.add]
          case c2=>intro u hu;simp at hu;subst hu;rfl
          case c3=>unfold maxLen;omega
          case c4=>omega
          case c5=>have:=hbl1.size;simp;omega
          intro v' w9 hown' hgrow _
          have HR:=Lib.hid (HE.out v' w9 (OwnI.more (ys:=[x]) hown' (by simp) (by simp)) ((hbl1.alloc hbl1.size _).grown hgrow (by have:=hbl1.size;simp;omega) (fun j hj=>(hown1.lt j hj).1)))
          clear hown' hgrow hown1 hbl1 HE
          go_wp2
          go_roundw
          case rel=>exact HR.out
          case measure=>simp[intOf];omega
      | some q =>
        obtain⟨p,b,ms⟩:=q
        obtain⟨ho,hb0,hms⟩:=lastBase_some hb
        have hbo:baseOf out=(p.length:Int):=by unfold baseOf;rw[hb]
        have hne:out≠[]:=by rw[ho];simp
        obtain⟨G,cpo,hov⟩:=OwnI.form HO.out hne
        subst hov
        obtain⟨hH,hcp,hgB,hgw⟩:=OwnI.holds HO.out
        obtain⟨k,hk⟩:∃k,p.length=k:=⟨_,rfl⟩
        obtain⟨o,hoo⟩:∃o,out.length=o:=⟨_,rfl⟩
        have hlen:=congrArg List.length ho
        rw[List.length_append,List.length_cons,hk,hoo]at hlen
        rw[hoo]at hcp HO HXL hol' HA0 ⊢
        have kc:=RW_cell (m:=0) (i:=k) hH rfl (by rw[hoo];omega)
        rw[RW_start hH,Nat.zero_add,ho,←hk,getD_mid,hk]at kc
        obtain⟨cb,fb⟩:=kc
        rw[hbo,hk]at HA1 ⊢
        have hko:k<o:=by omega
        have CR:Hid (∀(ad:Option Addr) (cq:Nat),(ad=some ⟨G,k+1,none⟩∨o-(k+1)=0)→Calls Tryz.prog 176 #[.slice ad (o-(k+1)) cq,.int .i32 x] wr (ReachPost ms x wr)):=Lib.hid fun ad cq h=>by
          refine reach_c _ ms x wr ?_ (by omega)
          rcases h with rfl|h
          · by_cases hm0:ms=[]
            · exact Or.inl ⟨hm0,_,cq,by rw[show o-(k+1)=0 by rw[hm0]at hlen;simp at hlen;omega]⟩
            · refine Or.inr ⟨G,k+1,cq,hgw,by rw[show o-(k+1)=ms.length by omega],fun j hj=>?_⟩
              have:=RW_cell (m:=0) (i:=k+1+j) hH rfl (by rw[hoo];omega)
              rw[RW_start hH,Nat.zero_add,ho]at this
              have e:=getD_three p [b] ms (k+1+j)
              rw[hk,if_neg (by omega),List.length_singleton,if_neg (by omega),show k+1+j-k-1=j by omega]at e
              rw[show p++b::ms=p++([b]++ms) from rfl,e]at this
              exact this.1
          · exact Or.inl ⟨List.eq_nil_of_length_eq_zero (by omega),ad,cq,by rw[h]⟩
        have wk:IntKind.i64.wrap ((k:Int)+1)=((k+1:Nat):Int):=by rw[IntKind.wrap_i64];omega
        have wk':IntKind.i64.wrap ((k:Int)+1)=(k:Int)+1:=by rw[IntKind.wrap_i64];omega
        have hkn:((k:Int)+1).toNat=k+1:=by omega
        have k0:(0:Int)≤(k:Int):=by omega
        have k1:(k:Int)+1≤(o:Int):=by omega
        have k1':(0:Int)≤(k:Int)+1:=by omega
        have k2:(o:Int)≤(cpo:Int):=by omega
        have kz:(k:Int)<(o:Int):=by omega
        by_cases hmay:mayB ms x=true
        · have cP:=fun w=>paircp_c b x w
          unfold PairPost at cP
          by_cases hp:0<pairI b x
          · have hst:togStep out x=p++pairI b x::ms:=by unfold togStep;rw[hb];simp only;rw[if_pos ⟨hmay,hp⟩]
            have HE:=Lib.hid (HMP.out p b ms hst hp hms)
            rw[hk]at HE
            have hdp:decide (0<pairI b x)=true:=decide_eq_true hp
            rw[hdp]at cP
            have HSET:Hid (∀y:Int,out.set k y=p++y::ms):=Lib.hid fun y=>by rw[ho,←hk];exact set_at
            obtain⟨made,hmade⟩:∃made,pairI b x=made:=⟨_,rfl⟩
            rw[hmade]at HE cP
            clear hmade hp hst hdp HA0 HA1 HMP hlen hk hoo ho hb hb0 hms hH hne hbo cC
            have CB:=Lib.hid cb
            have FB:=Lib.hid fb
            clear cb fb
            go_wp2_with fail
            all_goals by_cases hcq:cpo=k+1
            all_goals try (exfalso;omega)
            all_goals
              try rw[hcq]at HO
              refine(CR.out _ _ (by first|exact Or.inl rfl|exact Or.inr (by omega))).mono ?_
              unfold ReachPost
              rw[hmay]
              rintro e w1 ⟨rfl,hb1⟩
              have cb1:w1.cell? ⟨G,k,none⟩=some (.int .i32 b):=by rw[hb1.cell (p:=⟨G,k,none⟩) hgw];exact CB.out
              go_wp2_with fail
              refine(cP _).mono ?_
              rintro e w2 ⟨rfl,hb2⟩
              have hb12:=below_step hb1 hb2
              have HOW:=Lib.hid ((HO.out.below hb12).set (i:=k) made)
              have cb2:w2.cell? ⟨G,k,none⟩=some (.int .i32 b):=by rw[hb12.cell (p:=⟨G,k,none⟩) hgw];exact CB.out
              have fb2:w2.frozen? ⟨G,k,none⟩=false:=by
                have:=FB.out
                simp only[World.frozen?,hb12.block G hgw]at this ⊢
                exact this
              have HB3:=Lib.hid ((HBEL.out.trans (hb12.mono hwB)).trans (below_set w2 k (.int .i32 made) hgB))
              clear hb1 hb2 hb12 cb1
              go_wp2
              go_roundw
              case rel=>exact HE.out _ _ (by rw[←HSET.out made];exact HOW.out) HB3.out
              case measure=>simp[intOf];omega
          · have hst:togStep out x=out++[x]:=by unfold togStep;rw[hb];simp only;rw[if_neg fun hh=>hp hh.2]
            have hdp:decide (0<pairI b x)=false:=decide_eq_false hp
            rw[hdp]at cP
            generalize pairI b x=made at cP
            clear hdp hlen hk hoo ho hb hb0 hms hH hne hbo fb HMP
            have CB:=Lib.hid cb
            clear cb
            go_wp2_with fail
            all_goals by_cases hcq:cpo=k+1
            all_goals try (exfalso;omega)
            all_goals
              try rw[hcq]at HO
              refine(CR.out _ _ (by first|exact Or.inl rfl|exact Or.inr (by omega))).mono ?_
              unfold ReachPost
              rw[hmay]
              rintro e w1 ⟨rfl,hb1⟩
              have cb1:w1.cell? ⟨G,k,none⟩=some (.int .i32 b):=by rw[hb1.cell (p:=⟨G,k,none⟩) hgw];exact CB.out
              go_wp2_with fail
              refine(cP _).mono ?_
              rintro e w2 ⟨rfl,hb2⟩
              have hb12:=below_step hb1 hb2
              have HOW:=Lib.hid (HO.out.below hb12)
              have HB3:=Lib.hid (HBEL.out.trans (hb12.mono hwB))
              clear hb1 hb2 hb12 cb1
              by_cases h0:classI x=0
              · have HE:=Lib.hid (HA0.out h0 hst)
                rw[h0]at cC
                clear h0 HA0 HA1
                go_wp2_with fail
                refine(cC _).mono ?_
                rintro e w' ⟨rfl,hweq⟩
                rw[hweq]
                clear hweq w'
                have hown1:=HOW.out
                have hbl1:=HB3.out
                go_wp2_with (at_builtin;refine wpList_append_own _ rfl _ _ 113 rfl w.heap.size 21 i0 (.int .i32 0) 1 4 Tryz.underlying113 hi0 hz0 hz1 hz2 rfl (by decide) _ _ _ rfl (hown1.alloc _) ⟨w2.heap.size,0,none⟩ 1 1 [.int .i32 x] rfl rfl ?c1 ?c2 ?c3 ?c4 ?c5 ?_)
                case c1 =>
                  intro j u hj
                  match j,hj with
                  | 0,hj=>simp at hj;subst hj;simp[Addr.add]
                case c2=>intro u hu;simp at hu;subst hu;rfl
                case c3=>unfold maxLen;omega
                case c4=>omega
                case c5=>have:=hbl1.size;simp;omega
                intro v' w9 hown' hgrow _
                have HR:=Lib.hid (HE.out v' w9 (OwnI.more (ys:=[x]) hown' (by simp) (by simp)) ((hbl1.alloc hbl1.size _).grown hgrow (by have:=hbl1.size;simp;omega) (fun j hj=>(hown1.lt j hj).1)))
                clear hown' hgrow hown1 hbl1 HE
                go_wp2
                go_roundw
                case rel=>exact HR.out
                case measure=>simp[intOf];omega
              · have HE:=Lib.hid (HA1.out h0 hst)
                have h0':(classI x==0)=false:=by rw[beq_eq_false_iff_ne];exact h0
                clear h0 HA0 HA1
                generalize classI x=cx at *
                go_wp2_with fail
                refine(cC _).mono ?_
                rintro e w' ⟨rfl,hweq⟩
                rw[hweq]
                clear hweq w'
                have hown1:=HOW.out
                have hbl1:=HB3.out
                go_wp2_with (at_builtin;refine wpList_append_own _ rfl _ _ 113 rfl w.heap.size 21 i0 (.int .i32 0) 1 4 Tryz.underlying113 hi0 hz0 hz1 hz2 rfl (by decide) _ _ _ rfl (hown1.alloc _) ⟨w2.heap.size,0,none⟩ 1 1 [.int .i32 x] rfl rfl ?c1 ?c2 ?c3 ?c4 ?c5 ?_)
                case c1 =>
                  intro j u hj
                  match j,hj with
                  | 0,hj=>simp at hj;subst hj;simp[Addr.add]
                case c2=>intro u hu;simp at hu;subst hu;rfl
                case c3=>unfold maxLen;omega
                case c4=>omega
                case c5=>have:=hbl1.size;simp;omega
                intro v' w9 hown' hgrow _
                have HR:=Lib.hid (HE.out v' w9 (OwnI.more (ys:=[x]) hown' (by simp) (by simp)) ((hbl1.alloc hbl1.size _).grown hgrow (by have:=hbl1.size;simp;omega) (fun j hj=>(hown1.lt j hj).1)))
                clear hown' hgrow hown1 hbl1 HE
                go_wp2
                go_roundw
                case rel=>exact HR.out
                case measure=>simp[intOf];omega
        · have hst:togStep out x=out++[x]:=by unfold togStep;rw[hb];simp only;rw[if_neg fun hh=>hmay hh.1]
          have hmf:mayB ms x=false:=by simpa using hmay
          clear hlen hk hoo ho hb hb0 hms hH hne hbo cb fb hmay HMP
          go_wp2_with fail
          all_goals by_cases hcq:cpo=k+1
          all_goals try (exfalso;omega)
          all_goals
            try rw[hcq]at HO
            refine(CR.out _ _ (by first|exact Or.inl rfl|exact Or.inr (by omega))).mono ?_
            unfold ReachPost
            rw[hmf]
            rintro e w1 ⟨rfl,hb1⟩
            have HOW:=Lib.hid (HO.out.below hb1)
            have HB3:=Lib.hid (HBEL.out.trans (hb1.mono hwB))
            clear hb1
            by_cases h0:classI x=0
            · have HE:=Lib.hid (HA0.out h0 hst)
              rw[h0]at cC
              clear h0 HA0 HA1
              go_wp2_with fail
              refine(cC _).mono ?_
              rintro e w' ⟨rfl,hweq⟩
              rw[hweq]
              clear hweq w'
              have hown1:=HOW.out
              have hbl1:=HB3.out
              go_wp2_with (at_builtin;refine wpList_append_own _ rfl _ _ 113 rfl w.heap.size 21 i0 (.int .i32 0) 1 4 Tryz.underlying113 hi0 hz0 hz1 hz2 rfl (by decide) _ _ _ rfl (hown1.alloc _) ⟨w1.heap.size,0,none⟩ 1 1 [.int .i32 x] rfl rfl ?c1 ?c2 ?c3 ?c4 ?c5 ?_)
              case c1 =>
                intro j u hj
                match j,hj with
                | 0,hj=>simp at hj;subst hj;simp[Addr.add]
              case c2=>intro u hu;simp at hu;subst hu;rfl
              case c3=>unfold maxLen;omega
              case c4=>omega
              case c5=>have:=hbl1.size;simp;omega
              intro v' w9 hown' hgrow _
              have HR:=Lib.hid (HE.out v' w9 (OwnI.more (ys:=[x]) hown' (by simp) (by simp)) ((hbl1.alloc hbl1.size _).grown hgrow (by have:=hbl1.size;simp;omega) (fun j hj=>(hown1.lt j hj).1)))
              clear hown' hgrow hown1 hbl1 HE
              go_wp2
              go_roundw
              case rel=>exact HR.out
              case measure=>simp[intOf];omega
            · have HE:=Lib.hid (HA1.out h0 hst)
              have h0':(classI x==0)=false:=by rw[beq_eq_false_iff_ne];exact h0
              clear h0 HA0 HA1
              generalize classI x=cx at *
              go_wp2_with fail
              refine(cC _).mono ?_
              rintro e w' ⟨rfl,hweq⟩
              rw[hweq]
              clear hweq w'
              have hown1:=HOW.out
              have hbl1:=HB3.out
              go_wp2_with (at_builtin;refine wpList_append_own _ rfl _ _ 113 rfl w.heap.size 21 i0 (.int .i32 0) 1 4 Tryz.underlying113 hi0 hz0 hz1 hz2 rfl (by decide) _ _ _ rfl (hown1.alloc _) ⟨w1.heap.size,0,none⟩ 1 1 [.int .i32 x] rfl rfl ?c1 ?c2 ?c3 ?c4 ?c5 ?_)
              case c1 =>
                intro j u hj
                match j,hj with
                | 0,hj=>simp at hj;subst hj;simp[Addr.add]
              case c2=>intro u hu;simp at hu;subst hu;rfl
              case c3=>unfold maxLen;omega
              case c4=>omega
              case c5=>have:=hbl1.size;simp;omega
              intro v' w9 hown' hgrow _
              have HR:=Lib.hid (HE.out v' w9 (OwnI.more (ys:=[x]) hown' (by simp) (by simp)) ((hbl1.alloc hbl1.size _).grown hgrow (by have:=hbl1.size;simp;omega) (fun j hj=>(hown1.lt j hj).1)))
              clear hown' hgrow hown1 hbl1 HE
              go_wp2
              go_roundw
              case rel=>exact HR.out
              case measure=>simp[intOf];omega
    · have hin:i=n:=by omega
      subst hin
      have HT:Hid (l.take i=l):=Lib.hid (List.take_of_length_le (by rw[HN.out];omega))
      rw[HT.out]at hown ⊢
      have hge:¬((i:Int)<(i:Int)):=by omega
      have HX:=Lib.hid (show SliceIs wr u3 (togI l) from SliceIs.own hown)
      clear hown
      go_wp2
      go_ret
      exact⟨_,rfl,HX.out,hbel⟩
end Go.Proofs.YtfioknaadbgjlaaGreatDoor.F
namespace Go.Proofs.YtfioknaadbgjlaaGreatDoor.F
open Go.RowKit Go.Sort
def SliceOk (w:World)(v:Value)(l:List Int):Prop:=SliceIs w v l∧(v=.slice none 0 0∨∃ad cap,v=.slice (some ad) l.length cap)
theorem SliceOk.kept {w w':World}{v:Value}{l:List Int}(h:SliceOk w v l)(hb:Below w.heap.size w w'):SliceOk w' v l:=⟨h.1.kept hb,h.2⟩
theorem SliceOk.nil (w:World):SliceOk w (.slice none 0 0) []:=⟨SliceIs.nil w,Or.inl rfl⟩
theorem SliceOk.own {B:Nat}{w:World}{v:Value}{xs:List Int}(h:OwnI B w v xs):SliceOk w v xs:=by
  refine⟨SliceIs.own h,?_⟩
  rcases h.2 with⟨hv,_⟩|⟨g',cap',cur,hv,_⟩
  · exact Or.inl hv
  · exact Or.inr ⟨_,cap',hv⟩
theorem own_empty (B:Nat)(w:World)(hB:B≤w.heap.size):OwnI B (w.alloc (.cells #[] 21)) (.slice (some ⟨w.heap.size,0,none⟩) 0 0) []:=
  ⟨rfl,Or.inr ⟨w.heap.size,0,#[],rfl,hB,heap_alloc_new _ _,Nat.le_refl _,by unfold maxLen;omega,rfl,rfl⟩⟩
theorem addr_add (g off j:Nat):(⟨g,off,none⟩:Addr).add j=⟨g,off+j,none⟩:=by
  unfold Addr.add
  split
  · rename_i h;subst h;rfl
  · rfl
theorem append_ok {ops:Array Oper}{rest:List Oper}{o:Oper}{a:Act}{Q:Exit→Act→World→Prop}{w:World}(hgd:o.guard=none)(s x:Operand)
    (ho:o.op=.call { callee:=.builtin .append,args:=#[s,x],argTypes:=#[113,113] }) (B:Nat) (v:Value) (xs:List Int) (hs:a.eval s=v) (hown:OwnI B w v xs)
    (vx:Value) (L:List Int) (hx:a.eval x=vx) (hsrc:SliceOk w vx L) (hlen:xs.length+L.length≤100000) (hB:B≤w.heap.size)
    (h:∀v' w',OwnI B w' v' (xs++L)→Below B w w'→wpList Tryz.prog ops Q rest (a.put o.dst v') w'):wpList Tryz.prog ops Q (o::rest) a w:=by
  obtain⟨i0,hi0,hz0,hz1,hz2⟩:=info_parts infoInt32
  have key:∀ad c,vx=.slice (some ad) L.length c→(∀j,j<L.length→w.cell? (ad.add j)=some (.int .i32 (L.getD j 0)))→wpList Tryz.prog ops Q (o::rest) a w:=fun ad c hv hc=>by
    refine wpList_append_own _ hgd s x 113 ho B 21 i0 (.int .i32 0) 1 4 Tryz.underlying113 hi0 hz0 hz1 hz2 rfl (by decide) v xs.length (xs.map (Value.int .i32)) hs hown ad L.length c (L.map (Value.int .i32)) (hx.trans hv) (by simp) ?_ ?_ (by unfold maxLen;omega) (by omega) hB ?_
    · intro j u hj
      by_cases hjl:j<L.length
      · rw[hc j hjl]
        simp[hjl,List.getD_eq_getElem?_getD]at hj ⊢
        exact hj
      · rw[List.getElem?_eq_none (by simpa using hjl)]at hj;cases hj
    · intro u hu
      obtain⟨y,_,rfl⟩:=List.mem_map.1 hu
      rfl
    · intro v' w' h1 h2 h3
      exact h v' w' (OwnI.more (ys:=L) h1 (by simp) (by simp)) ((Below.refl B w).grown h2 hB (fun k hk=>(hown.lt k hk).1))
  rcases hsrc.1 with⟨hl0,a',cap',hv⟩|⟨g,off,cap,hg,hv,hc⟩
  · subst hl0
    rcases hsrc.2 with h0|⟨ad,cp,h0⟩
    · refine wpList_append_own_none hgd s x 113 ho B 21 i0 1 Tryz.underlying113 hi0 v xs.length (xs.map (Value.int .i32)) hs hown (hx.trans h0) ?_
      exact h v w (by rw[List.append_nil];exact hown) (Below.refl B w)
    · exact key ad cp h0 (fun j hj=>by simp at hj)
  · exact key _ cap hv (fun j hj=>by rw[addr_add];exact hc j hj)
theorem marks_one (r:Int):marksN (full1 r)≤1:=by
  have h1:∀x:Int,marksN [x]≤1:=fun x=>by unfold marksN;rw[List.countP_cons];split<;>simp
  have h0:∀x:Int,classI x=0→marksN [x]=0:=fun x hx=>by unfold marksN;rw[List.countP_cons,if_neg (by rw[hx];simp)];rfl
  cases hs:splitI r with
  | none=>rw[full1_none hs];exact h1 r
  | some p =>
    obtain⟨a,b⟩:=p
    have hc:=splitI_cases hs
    simp only at hc
    cases h2:splitI a with
    | none =>
      have e:full1 r=[a]++[b]:=by unfold full1;rw[hs];simp only;rw[h2];rfl
      have ha:classI a=0:=classI_far (by omega)
      have:=h1 b
      have:=h0 a ha
      rw[e]
      unfold marksN at *
      rw[List.countP_append];omega
    | some q =>
      obtain⟨q1,q2⟩:=q
      have hc2:=splitI_cases h2
      simp only at hc2
      have e:full1 r=[q1]++([q2]++[b]):=by unfold full1;rw[hs];simp only;rw[h2];rfl
      have ha:classI q1=0:=classI_far (by omega)
      have hb:classI q2=0:=classI_far (by omega)
      have:=h1 b
      have:=h0 q1 ha
      have:=h0 q2 hb
      rw[e]
      unfold marksN at *
      rw[List.countP_append,List.countP_append];omega
theorem marks_full:∀l:List Int,marksN (fullL l)≤l.length
  | []=>by simp[marksN,fullL]
  | r::l=>by
    have h1:=marks_one r
    have h2:=marks_full l
    rw[fullL_cons,List.length_cons]
    unfold marksN at *
    rw[List.countP_append];omega
end Go.Proofs.YtfioknaadbgjlaaGreatDoor.F
namespace Go.Proofs.YtfioknaadbgjlaaGreatDoor.F
open Go.RowKit Go.Sort
def lenOf:Value→Nat
  | .slice _ n _=>n
  | _=>0
def Fits (l:List Int):Prop:=∀x∈l,-2147483648≤x∧x≤2147483647
theorem full_longer:∀l:List Int,l.length≤(fullL l).length
  | []=>by simp
  | r::l=>by
    have h1:=full1_pos r
    have h2:=full_longer l
    rw[fullL_cons,List.length_append,List.length_cons];omega
theorem OwnI.cell {B g n cap j:Nat}{w:World}{xs:List Int}(h:OwnI B w (.slice (some ⟨g,0,none⟩) n cap) xs)(hn:xs.length=n)(hj:j<n) :
    w.cell? ⟨g,j,none⟩=some (.int .i32 (xs.getD j 0))∧w.frozen? ⟨g,j,none⟩=false:=by
  subst hn
  have:=h.holds.1 j (by simpa using hj)
  rw[toArray_at,Nat.zero_add]at this
  exact this
theorem OwnI.part {B g n cap:Nat}{w:World}{xs ys zs:List Int}(h:OwnI B w (.slice (some ⟨g,0,none⟩) n cap) (xs++(ys++zs)))(hn:(xs++(ys++zs)).length=n)(cp:Nat) :
    SliceOk w (.slice (some ⟨g,xs.length,none⟩) ys.length cp) ys:=by
  have hb:=h
  subst hn
  refine⟨Or.inr ⟨g,xs.length,cp,hb.holds.2.2.2,rfl,fun j hj=>?_⟩,Or.inr ⟨_,cp,rfl⟩⟩
  have:=(h.cell (j:=xs.length+j) rfl (by simp;omega)).1
  rw[getD_three,if_neg (by omega),if_pos (by omega),Nat.add_sub_cancel_left]at this
  exact this
theorem OwnI.mono {B B':Nat}{w:World}{v:Value}{xs:List Int}(h:OwnI B' w v xs)(hB:B≤B'):OwnI B w v xs:=by
  refine⟨h.1,?_⟩
  rcases h.2 with h0|⟨g,cap,cur,hv,hg,rest⟩
  · exact Or.inl h0
  · exact Or.inr ⟨g,cap,cur,hv,Nat.le_trans hB hg,rest⟩
theorem passes_next (c:Int→Int):∀(k:Nat) (l:List Int),passes c (k+1) l=passM c (passes c k l)
  | 0,l=>rfl
  | k+1,l=>passes_next c k (passM c l)
def BubOut (w0:World)(B g n co:Nat)(F:List Int)(kv:Value)(wr:World):Prop:=
  ∃k,k≤n∧kv=.int .i64 (k:Nat)∧OwnI B wr (.slice (some ⟨g,0,none⟩) n co) (passes classI k F)∧Below B w0 wr
def BubIn (w0:World)(B g n co:Nat)(cur:List Int)(iv:Value)(wr:World):Prop:=
  ∃(P:List Int) (x:Int) (T:List Int),iv=.int .i64 ((P.length+1:Nat):Int)∧P.length+1+T.length=n∧passM classI cur=P++passM classI (x::T)∧OwnI B wr (.slice (some ⟨g,0,none⟩) n co) (P++x::T)∧Below B w0 wr
theorem OwnI.drewN {B:Nat}{w:World}{v:Value}{xs:List Int}(h:OwnI B w v xs)(q:Nat):OwnI B (w.drewN q) v xs:=h.below (below_drewN' (Below.refl _ _) q)
theorem cell_two (w:World)(cur:Array Value)(e:TypeId)(k:Nat):(w.alloc (.cells cur e)).cell? ⟨w.heap.size,k,none⟩=cur[k]?:=by
  simp only[World.cell?,heap_alloc_new]
  rfl
def R3Rel (w0:World)(l:List Int)(ov iv:Value)(wr:World):Prop:=
  ∃D R:List Int,OwnI w0.heap.size wr ov (D++R)∧iv=.int .i64 (D.length:Nat)∧(∀x∈D,splitI x=none)∧D++fullL R=fullL l∧Fits R∧Below w0.heap.size w0 wr
set_option maxHeartbeats 4000000 in
theorem refApart_c (l:List Int)(v:Value)(w:World)(hv:SliceOk w v l)(hs:l.length≤300)(hf:Fits l):Calls Tryz.prog 192 #[v] w (ApartPost l w):=by
  obtain⟨a,cap,hva⟩:=hv.1.len
  have HV:=Lib.hid hv
  have HF:=Lib.hid hf
  obtain⟨T,hT⟩:∃T,(fullL l).length=T:=⟨_,rfl⟩
  have HT:=Lib.hid hT
  have hT9:T≤900:=by have:=fullL_length l;omega
  have HLL:=Lib.hid hs
  obtain⟨nl,hnl⟩:∃n,l.length=n:=⟨_,rfl⟩
  have HNL:=Lib.hid hnl
  subst hva
  rw[hnl]at HV ⊢
  clear hv hf hT hs hnl
  have own0:=own_empty w.heap.size w (Nat.le_refl _)
  have hb0:Below w.heap.size w (w.alloc (.cells #[] 21)):=(Below.refl _ _).alloc (Nat.le_refl _) _
  have HS0:=Lib.hid (HV.out.kept hb0)
  have hl0:([]:List Int).length+l.length≤100000:=by have:=HLL.out;rw[List.length_nil];omega
  have hs0:=hb0.size
  go_enter Tryz.func192,Tryz.ntmps192
  go_wp2_with (at_builtin;refine append_ok rfl _ _ rfl w.heap.size _ [] rfl own0 _ l rfl HS0.out hl0 hs0 ?_)
  intro v1 w1 own1 hb1
  try rw[List.nil_append]at own1
  have HST:Hid (R3Rel w l v1 (.int .i64 0) w1):=Lib.hid ⟨[],l,own1,rfl,(fun x hx=>nomatch hx),rfl,HF.out,hb0.trans hb1⟩
  clear own0 hb0 HS0 hl0 hs0 own1 hb1
  go_wp2
  go_loopw [3,4] (fun ov iv wr=>R3Rel w l ov iv wr) (fun ov iv _=>(T-lenOf ov)+(T-(intOf iv).toNat))
  case atStart=>exact HST.out
  case round =>
    obtain⟨D,R,hown,rfl,hD,hDR,hfit,hbel⟩:=hrel
    obtain⟨i,hi⟩:∃i,D.length=i:=⟨_,rfl⟩
    have hlen:=congrArg List.length hDR
    rw[List.length_append,HT.out,hi]at hlen
    have hR9:=full_longer R
    obtain⟨n,hn⟩:∃n,(D++R).length=n:=⟨_,rfl⟩
    have hn':=hn
    rw[List.length_append,hi]at hn'
    rw[hi]
    cases R with
    | nil =>
      have hDF:D=fullL l:=by rw[←hDR];simp[fullL]
      rw[List.append_nil]at hown hn
      have hnT:n=T:=by rw[←HT.out,←hDF,hn]
      have hin:i=n:=by rw[←hi,hn]
      rw[hin]
      have HO:=Lib.hid hown
      have OK:=Lib.hid (SliceOk.own hown)
      obtain⟨ao,co,hov⟩:=(SliceIs.own hown).len
      rw[hn]at hov
      by_cases hn0:n=0
      · have hD0:D=[]:=List.eq_nil_of_length_eq_zero (by omega)
        have hA0:apartI l=[]:=by unfold apartI;rw[←hDF,hD0];rfl
        have HX:Hid (ApartPost l w (.returned u3) wr):=Lib.hid ⟨u3,rfl,by rw[hA0];rw[hD0]at OK;exact OK.out.1,by
          rw[hA0];rw[hD0]at OK;exact OK.out.2,hbel⟩
        subst hn0
        subst hov
        clear hown hDR hD hfit hbel hDF hnT hin hi hn hn' hlen hR9
        go_wp2
        refine wp_loop_rounds 1 ?_
        rw[rounds_succ]
        go_wp2
        go_ret
        exact HX.out
      · obtain⟨g,co',hov'⟩:=OwnI.form hown (by intro h;rw[h]at hn;simp at hn;omega)
        rw[hn]at hov'
        rw[hov]at hov'
        cases hov'
        subst hov
        have HFn:Hid ((fullL l).length=n):=Lib.hid (by rw[←hDF,hn])
        have HS1:Hid (BubOut w w.heap.size g n co (fullL l) (.int .i64 ((0:Nat):Int)) wr):=Lib.hid ⟨0,by omega,rfl,by rw[←hDF];exact hown,hbel⟩
        have hnn:¬((n:Int)<(n:Int)):=by omega
        have hn9:n≤900:=by omega
        have n1:1≤n:=by omega
        have HC:Hid (n≤co∧w.heap.size≤g∧g<wr.heap.size):=Lib.hid (by
          have:=OwnI.holds (by rw[hn];exact hown)
          rw[hn]at this
          exact this.2)
        clear hown hDR hD hfit hbel hDF hnT hin hi hn hn' hlen hR9 HO OK
        go_wp2
        go_loopw [9] (fun kv wr=>BubOut w w.heap.size g n co (fullL l) kv wr) (fun kv _=>n-(intOf kv).toNat)
        case atStart=>exact HS1.out
        case round =>
          obtain⟨k,hk,rfl,hown,hbel⟩:=hrel
          by_cases hkn:k<n
          · have hkz:(k:Int)<(n:Int):=by omega
            obtain⟨cur,hcur⟩:∃cur,passes classI k (fullL l)=cur:=⟨_,rfl⟩
            have hcl:cur.length=n:=by rw[←hcur,passes_length,HFn.out]
            have HNX:Hid (passes classI (k+1) (fullL l)=passM classI cur):=Lib.hid (by rw[passes_next,hcur])
            rw[hcur]at hown
            have HS2:Hid (BubIn w w.heap.size g n co cur (.int .i64 ((0+1:Nat):Int)) wr):=by
              cases cur with
              | nil=>simp at hcl;omega
              | cons x T=>exact Lib.hid ⟨[],x,T,rfl,by simp at hcl ⊢;omega,rfl,hown,hbel⟩
            have wk:IntKind.i64.wrap ((k:Int)+1)=((k+1:Nat):Int):=by rw[IntKind.wrap_i64];omega
            clear hown hbel hcur hcl
            go_wp2
            go_loopw [10] (fun iv wr=>BubIn w w.heap.size g n co cur iv wr) (fun iv _=>n-(intOf iv).toNat)
            case atStart=>exact HS2.out
            case round =>
              obtain⟨P,x,L,rfl,hlen,hpass,hown,hbel⟩:=hrel
              obtain⟨ip,hip⟩:∃ip,P.length=ip:=⟨_,rfl⟩
              rw[hip]at hlen ⊢
              cases L with
              | nil =>
                have hin:ip+1=n:=by simpa using hlen
                have HE:Hid (BubOut w w.heap.size g n co (fullL l) (.int .i64 ((k+1:Nat):Int)) wr):=Lib.hid ⟨k+1,by omega,rfl,by rw[HNX.out,hpass,passM_one];exact hown,hbel⟩
                rw[hin]
                have hge:¬((n:Int)<(n:Int)):=by omega
                clear hown hbel hpass hlen hip hin
                go_wp2
                go_roundw
                case rel=>exact HE.out
                case measure=>simp[intOf];omega
              | cons y L =>
                simp only[List.length_cons]at hlen
                have hll:(P++x::y::L).length=n:=by simp;omega
                have k1:=hown.cell (j:=ip) hll (by omega)
                have k2:=hown.cell (j:=ip+1) hll (by omega)
                rw[←hip,getD_mid,hip]at k1
                have v2:(P++x::y::L).getD (ip+1) 0=y:=by rw[←hip];exact getD_two P [] L x y
                rw[v2]at k2
                obtain⟨c1,f1⟩:=k1
                obtain⟨c2,f2⟩:=k2
                have cC:=fun z w=>class_c z w
                have bx:=class_bounds x
                have b_y:=class_bounds y
                have iz:((ip+1:Nat):Int)<(n:Int):=by omega
                have iz':(ip:Int)+1<(n:Int):=by omega
                have iz0:(ip:Int)<(n:Int):=by omega
                have e0:((ip:Int)+1).toNat=ip+1:=by omega
                have wj:IntKind.i64.wrap (((ip+1:Nat):Int)-1)=(ip:Int):=by rw[IntKind.wrap_i64];omega
                have wj':IntKind.i64.wrap ((ip:Int))=(ip:Int):=by rw[IntKind.wrap_i64];omega
                have wn:IntKind.i64.wrap ((ip:Int)+1+1)=((ip+2:Nat):Int):=by rw[IntKind.wrap_i64];omega
                have wn':IntKind.i64.wrap (((ip+1:Nat):Int)+1)=((ip+2:Nat):Int):=by rw[IntKind.wrap_i64];omega
                have p0:(0:Int)≤(ip:Int)+1:=by omega
                have HOW:=Lib.hid hown
                have HBL:=Lib.hid hbel
                have HSTAY:Hid (¬(0<classI y∧classI y<classI x)→∀q,BubIn w w.heap.size g n co cur (.int .i64 ((ip+2:Nat):Int)) (wr.drewN q)):=Lib.hid fun hw q =>
                  ⟨P++[x],y,L,by rw[List.length_append,hip];rfl,by rw[List.length_append,hip];simp;omega,by rw[hpass,passM_not classI L (wrong_no classI hw)];simp,by have:=HOW.out.drewN q;simpa using this,below_drewN' HBL.out q⟩
                by_cases hy0:0<classI y
                · by_cases hyx:classI y<classI x
                  · have HE:Hid (∀q,BubIn w w.heap.size g n co cur (.int .i64 ((ip+2:Nat):Int)) (((wr.drewN q).setCell ⟨g,ip+1,none⟩ (.int .i32 x)).setCell ⟨g,ip,none⟩ (.int .i32 y))):=Lib.hid fun q=>by
                      have o2:=((HOW.out.drewN q).set (i:=ip+1) x).set (i:=ip) y
                      have e:((P++x::y::L).set (ip+1) x).set ip y=(P++[y])++x::L:=by
                        rw[←hip]
                        have e1:(P++x::y::L).set (P.length+1) x=P++x::x::L:=by
                          simp
                        rw[e1,set_mid];simp
                      rw[e]at o2
                      have hgB:=HC.out.2.1
                      exact⟨P++[y],x,L,by rw[List.length_append,hip];rfl,by rw[List.length_append,hip];simp;omega,by rw[hpass,passM_yes classI L (wrong_yes classI ⟨hy0,hyx⟩)];simp,o2,((below_drewN' HBL.out q).trans (below_set _ _ _ hgB)).trans (below_set _ _ _ hgB)⟩
                    have hyx':classI x>classI y:=hyx
                    clear hown hbel hpass hlen hip hll v2 HSTAY bx b_y
                    go_wp2_with fail
                    go_quiet ((go_at_call 161;exact Calls.quiet_of_same ((cC _ _).mono fun _ _ h=>⟨h.1,h.2.symm⟩)))
                    have HEQ:=Lib.hid (HE.out nq)
                    have c1':(wr.drewN nq).cell? ⟨g,ip,none⟩=some (.int .i32 x):=c1
                    have c2':(wr.drewN nq).cell? ⟨g,ip+1,none⟩=some (.int .i32 y):=c2
                    have f1':(wr.drewN nq).frozen? ⟨g,ip,none⟩=false:=f1
                    have f2':(wr.drewN nq).frozen? ⟨g,ip+1,none⟩=false:=f2
                    clear c1 c2 f1 f2 HE cC HOW HBL
                    generalize wr.drewN nq=wr3 at *
                    go_wp2
                    go_roundw
                    case rel=>exact HEQ.out
                    case measure=>simp[intOf];omega
                  · have HE:=Lib.hid (HSTAY.out (fun h=>hyx h.2))
                    have hyx':¬(classI x>classI y):=hyx
                    clear hown hbel hpass hlen hip hll v2 HSTAY bx b_y
                    go_wp2_with fail
                    go_quiet ((go_at_call 161;exact Calls.quiet_of_same ((cC _ _).mono fun _ _ h=>⟨h.1,h.2.symm⟩)))
                    go_wp2
                    go_roundw
                    case rel=>exact HE.out _
                    case measure=>simp[intOf];omega
                · have HE:=Lib.hid (HSTAY.out (fun h=>hy0 h.1))
                  have cY:=fun w=>class_c y w
                  rw[show classI y=0 by omega]at cY
                  clear hown hbel hpass hlen hip hll v2 HSTAY bx b_y cC hy0
                  go_wp2_with fail
                  go_quiet ((go_at_call 161;exact Calls.quiet_of_same ((cY _).mono fun _ _ h=>⟨h.1,h.2.symm⟩)))
                  go_wp2
                  go_roundw
                  case rel=>exact HE.out _
                  case measure=>simp[intOf];omega
          · have hkn':k=n:=by omega
            subst hkn'
            have hp:passes classI k (fullL l)=apartI l:=by unfold apartI;rw[←passes_all,HFn.out]
            rw[hp]at hown
            have hal:(apartI l).length=k:=by unfold apartI;rw[(sortM_perm classI (fullL l)).length_eq,HFn.out]
            have HX:Hid (ApartPost l w (.returned (.slice (some ⟨g,0,none⟩) k co)) wr):=Lib.hid ⟨_,rfl,SliceIs.own hown,Or.inr ⟨_,co,by rw[hal]⟩,hbel⟩
            have hge:¬((k:Int)<(k:Int)):=by omega
            clear hown hbel hp hal
            go_wp2
            go_ret
            exact HX.out
    | cons x R =>
      obtain⟨g,co,hov⟩:=OwnI.form hown (by simp)
      rw[hn]at hov
      subst hov
      simp only[List.length_cons]at hn' hR9
      have hx:=hfit x (by simp)
      have cS:=fun w=>split_c x hx.1 hx.2 w
      have hco:n≤co:=by have:=(OwnI.holds (by rw[hn];exact hown)).2.1;rw[hn]at this;exact this
      have hgB:w.heap.size≤g∧g<wr.heap.size:=(OwnI.holds (by rw[hn];exact hown)).2.2
      have c1:=(hown.cell (j:=i) hn (by omega)).1
      rw[←hi,getD_mid,hi]at c1
      have iz:(i:Int)<(n:Int):=by omega
      have HO:=Lib.hid hown
      have HBEL:=Lib.hid hbel
      have HI:=Lib.hid hi
      have HNN:=Lib.hid hn
      cases hsp:splitI x with
      | none =>
        rw[splitR_of_none hsp]at cS
        have HR:Hid (∀w',Below wr.heap.size wr w'→R3Rel w l (.slice (some ⟨g,0,none⟩) n co) (.int .i64 ((i+1:Nat):Int)) w'):=Lib.hid fun w' hb =>
          ⟨D++[x],R,by have:=HO.out.below hb;simpa using this,by rw[List.length_append,hi];rfl,fun y hy=>by
            rcases List.mem_append.1 hy with hy|hy
            · exact hD y hy
            · simp at hy;subst hy;exact hsp,by rw[←hDR,fullL_cons,full1_none hsp];simp,fun y hy=>hfit y (by simp[hy]),HBEL.out.trans (hb.mono HBEL.out.size)⟩
        have wi:IntKind.i64.wrap ((i:Int)+1)=((i+1:Nat):Int):=by rw[IntKind.wrap_i64];omega
        have hTi:i<T:=by omega
        clear hown hi hlen hn hn' hDR hD hfit hbel hsp hx hR9
        go_wp2_with fail
        refine(cS _).mono ?_
        rintro e w2 ⟨rfl,hb2⟩
        have HE:=Lib.hid (HR.out w2 hb2)
        clear hb2 HR
        go_wp2
        go_roundw
        case rel=>exact HE.out
        case measure=>simp[intOf,lenOf];omega
      | some pq =>
        rw[splitR_of_some hsp]at cS
        obtain⟨p,q⟩:=pq
        simp only at cS
        have hc:=splitI_cases hsp
        simp only at hc
        have hl1:=full1_length x
        have h1p:=full1_pos p
        have h1q:=full1_pos q
        have hfx:full1 x=full1 p++full1 q:=full1_some hsp
        have hfl:(fullL (x::R)).length=(full1 p).length+(full1 q).length+(fullL R).length:=by rw[fullL_cons,hfx,List.length_append,List.length_append]
        have hRR:=full_longer R
        have HR:Hid (∀v' w',OwnI w.heap.size w' v' ((D++[p,q])++R)→Below w.heap.size w w'→R3Rel w l v' (.int .i64 i) w'):=Lib.hid fun v' w' ho hb =>
          ⟨D,p::q::R,by simpa using ho,by rw[hi],hD,by rw[←hDR,fullL_cons,fullL_cons,fullL_cons,hfx];simp,fun y hy=>by
            simp at hy
            rcases hy with rfl|rfl|hy
            · omega
            · omega
            · exact hfit y (by simp[hy]),hb⟩
        have hTn:n<T:=by omega
        have HLR:Hid (R.length=n-(i+1)):=Lib.hid (by omega)
        have S1:Hid (∀w',Below wr.heap.size wr w'→SliceOk w' (.slice (some ⟨g,0,none⟩) i co) D):=Lib.hid fun w' hb=>by
          have:=OwnI.part (xs:=[]) (ys:=D) (zs:=x::R) (HO.out.below hb) (by simpa using hn) co
          rw[hi]at this
          exact this
        have S3:Hid (∀w',Below wr.heap.size wr w'→∀(ad:Addr) (cp:Nat),ad=⟨g,i+1,none⟩∨n-(i+1)=0→SliceOk w' (.slice (some ad) (n-(i+1)) cp) R):=Lib.hid fun w' hb ad cp had=>by
          rcases had with rfl|h0
          · have ho:OwnI w.heap.size w' (.slice (some ⟨g,0,none⟩) n co) ((D++[x])++(R++[])):=by have:=HO.out.below hb;simpa using this
            have:=OwnI.part ho (by simpa using hn) cp
            rw[List.length_append,hi,List.length_singleton,HLR.out]at this
            exact this
          · exact⟨Or.inl ⟨List.eq_nil_of_length_eq_zero (by rw[HLR.out];exact h0),some ad,cp,by rw[h0]⟩,Or.inr ⟨ad,cp,by rw[HLR.out]⟩⟩
        have HB0:Hid (w.heap.size≤wr.heap.size):=Lib.hid (by omega)
        have wi:IntKind.i64.wrap ((i:Int)+1)=((i+1:Nat):Int):=by rw[IntKind.wrap_i64];omega
        have i0:(0:Int)≤(i:Int):=by omega
        have i1:(i:Int)+1≤(n:Int):=by omega
        have inc:(i:Int)≤(co:Int):=by omega
        have hi9:i≤900:=by omega
        have hn9:n≤900:=by omega
        clear hown hi hlen hn hn' hDR hD hfit hbel hsp hx hR9 hc hl1 h1p h1q hfx hfl hRR
        go_wp2_with fail
        refine(cS _).mono ?_
        rintro e w2 ⟨rfl,hb2⟩
        have hsz2:=hb2.size
        have own0:=own_empty w2.heap.size w2 (Nat.le_refl _)
        have hx3:=hb2.alloc hb2.size (.cells #[] 21)
        have HS1:=Lib.hid (S1.out _ hx3)
        have hl1:([]:List Int).length+D.length≤100000:=by rw[HI.out,List.length_nil];omega
        have hs1:w2.heap.size≤(w2.alloc (.cells #[] 21)).heap.size:=by simp
        clear hb2 c1
        go_wp2_with (at_builtin;refine append_ok rfl _ _ rfl w2.heap.size _ [] rfl own0 _ D rfl HS1.out hl1 hs1 ?_)
        intro v3 w3 own3 hb3
        try rw[List.nil_append]at own3
        have hx3':=hx3.trans (hb3.mono hsz2)
        have hs3:w2.heap.size≤w3.heap.size:=by have:=hb3.size;simp at this;omega
        have own3':OwnI w2.heap.size (w3.alloc (.cells #[.int .i32 p,.int .i32 q] 21)) v3 D:=World.ownsRow.alloc own3 _
        have hx4:=hx3'.alloc hx3'.size (.cells #[.int .i32 p,.int .i32 q] 21)
        have HS2:Hid (SliceOk (w3.alloc (.cells #[.int .i32 p,.int .i32 q] 21)) (.slice (some ⟨w3.heap.size,0,none⟩) 2 2) [p,q]):=Lib.hid (by
          refine⟨Or.inr ⟨w3.heap.size,0,2,by simp,rfl,fun j hj=>?_⟩,Or.inr ⟨_,2,rfl⟩⟩
          match j,hj with
          | 0,_=>exact cell_two _ _ _ _
          | 1,_=>exact cell_two _ _ _ _)
        have hl2:D.length+[p,q].length≤100000:=by rw[HI.out];simp;omega
        have hs2:w2.heap.size≤(w3.alloc (.cells #[.int .i32 p,.int .i32 q] 21)).heap.size:=by simp;omega
        clear own0 HS1 hl1 hs1 own3 hb3 hx3 hx3'
        go_wp2_with (at_builtin;refine append_ok rfl _ _ rfl w2.heap.size _ D rfl own3' _ [p,q] rfl HS2.out hl2 hs2 ?_)
        intro v5 w5 own5 hb5
        have hx5:=hx4.trans (hb5.mono hsz2)
        have HS3:=Lib.hid (S3.out _ hx5)
        have hl3:(D++[p,q]).length+R.length≤100000:=by rw[List.length_append,HI.out,HLR.out];simp;omega
        have hs5:w2.heap.size≤w5.heap.size:=by have:=hb5.size;simp at this;omega
        have HX5:=Lib.hid (HBEL.out.trans (hx5.mono HBEL.out.size))
        have HSW:Hid (w.heap.size≤w2.heap.size):=Lib.hid (by have:=HB0.out;omega)
        clear own3' HS2 hl2 hs2 hb5 hx4 hx5 hs3
        rcases(show co=i+1∨i+1<co by omega) with hcq|hcq
        have hcq':co≤i+1:=by omega
        rotate_left
        have hcq':¬(co≤i+1):=by omega
        have hcq2:¬(co=i+1):=by omega
        all_goals
          go_wp2_with (at_builtin;refine append_ok rfl _ _ rfl w2.heap.size _ (D++[p,q]) rfl own5 _ R rfl (HS3.out _ _ (by first|exact Or.inl rfl|exact Or.inr (by omega))) hl3 hs5 ?_)
          intro v6 w6 own6 hb6
          have own6':OwnI w.heap.size w6 v6 ((D++[p,q])++R):=OwnI.mono (by simpa using own6) HSW.out
          have HE:=Lib.hid (HR.out v6 w6 own6' (HX5.out.trans (hb6.mono HSW.out)))
          obtain⟨a6,c6,hv6⟩:=(SliceIs.own own6').len
          have hl6:((D++[p,q])++R).length=n+1:=by rw[List.length_append,List.length_append,HI.out,HLR.out];simp;omega
          rw[hl6]at hv6
          subst hv6
          clear own6 own6' hb6 own5 HS3 hl3 hs5 HX5 hl6
          go_wp2
          go_roundw
          case rel=>exact HE.out
          case measure=>simp[intOf,lenOf];omega
end Go.Proofs.YtfioknaadbgjlaaGreatDoor.F
namespace Go.Proofs.YtfioknaadbgjlaaGreatDoor.F
open Go.RowKit Go.Sort
theorem base_found {out:List Int}{b:Int}(hb:-1≤b)(hn:b<out.length)(hpos:∀j:Nat,b<j→j<out.length→0<classI (out.getD j 0))(hst:b=-1∨classI (out.getD b.toNat 0)=0) :
    baseOf out=b:=by
  unfold baseOf
  rcases hst with h|h
  · subst h
    rw[lastBase_pos fun x hx=>by
      obtain⟨t,ht,rfl⟩:=mem_getD hx
      exact hpos t (by omega) ht]
  · by_cases h0:b=-1
    · subst h0
      rw[lastBase_pos fun x hx=>by
        obtain⟨t,ht,rfl⟩:=mem_getD hx
        exact hpos t (by omega) ht]
    · obtain⟨k,rfl⟩:∃k:Nat,b=(k:Int):=⟨b.toNat,by omega⟩
      have hk:k<out.length:=by omega
      have e:out=out.take k++out.getD k 0::out.drop (k+1):=by
        rw[show out.getD k 0=out[k] by simp[List.getD_eq_getElem?_getD,List.getElem?_eq_getElem hk],←List.drop_eq_getElem_cons hk,List.take_append_drop]
      have hl:(out.take k).length=k:=by rw[List.length_take];omega
      rw[Int.toNat_natCast]at h
      rw[e,lastBase_at (out.take k) h (fun x hx=>by
        obtain⟨t,h1,h2,rfl⟩:=mem_drop_getD hx
        exact hpos t (by omega) h2)]
      simp only
      rw[hl]
theorem keep_drew {w5 w':World}{G k g o:Nat}{z x:Value}(h:Below w5.heap.size w5 w'∧w'.cell? ⟨G,k,none⟩=some z∧w'.cell? ⟨g,o,none⟩=some x) :
    Below w5.heap.size w5 w'.drew∧w'.drew.cell? ⟨G,k,none⟩=some z∧w'.drew.cell? ⟨g,o,none⟩=some x:=⟨h.1.drew,h.2.1,h.2.2⟩
theorem keep_step {w5 wx w':World}{G k g o:Nat}{z x:Value}(hG:G<w5.heap.size)(hg:g<w5.heap.size)(h:Below w5.heap.size w5 wx∧wx.cell? ⟨G,k,none⟩=some z∧wx.cell? ⟨g,o,none⟩=some x)(hb:Below wx.heap.size wx w') :
    Below w5.heap.size w5 w'∧w'.cell? ⟨G,k,none⟩=some z∧w'.cell? ⟨g,o,none⟩=some x:=
  ⟨below_step h.1 hb,by rw[hb.cell (p:=⟨G,k,none⟩) (by have:=h.1.size;show G<_;omega)];exact h.2.1,by rw[hb.cell (p:=⟨g,o,none⟩) (by have:=h.1.size;show g<_;omega)];exact h.2.2⟩
def RTRel (w0:World)(l:List Int)(ov iv:Value)(wr:World):Prop:=
  ∃i,i≤l.length∧iv=.int .i64 (i:Nat)∧OwnI w0.heap.size wr ov (togI (l.take i))∧Below w0.heap.size w0 wr
def BaseRel (out:List Int)(w0:World)(bv:Value)(wr:World):Prop:=
  ∃b:Int,bv=.int .i64 b∧-1≤b∧b<out.length∧(∀j:Nat,b<j→j<out.length→0<classI (out.getD j 0))∧wr=w0
theorem fits_step {out:List Int}{r:Int}(h:Fits out)(hr:-2147483648≤r∧r≤2147483647):Fits (togStep out r):=by
  have happ:Fits (out++[r]):=fun x hx=>by
    rcases List.mem_append.1 hx with hx|hx
    · exact h x hx
    · simp at hx;subst hx;exact hr
  unfold togStep
  cases hb:lastBase out with
  | none=>exact happ
  | some q =>
    obtain⟨p,b,ms⟩:=q
    simp only
    by_cases hc:mayB ms r=true∧0<pairI b r
    · rw[if_pos hc]
      have ho:=(lastBase_some hb).1
      intro x hx
      rcases List.mem_append.1 hx with hx|hx
      · exact h x (by rw[ho];simp[hx])
      · rcases List.mem_cons.1 hx with rfl|hx
        · rcases pair_kinds hc.2 with hk|hk|hk<;>omega
        · exact h x (by rw[ho];simp[hx])
    · rw[if_neg hc];exact happ
theorem fits_tog:∀(l out:List Int),Fits out→Fits l→Fits (l.foldl togStep out)
  | [],out,h,_=>h
  | r::l,out,h,hl=>fits_tog l (togStep out r) (fits_step h (hl r (by simp))) (fun x hx=>hl x (by simp[hx]))
theorem fits_togI {l:List Int}(h:Fits l):Fits (togI l):=fits_tog l [] (fun x hx=>by cases hx) h
set_option maxHeartbeats 4000000 in
theorem refTog_c (l:List Int)(v:Value)(w:World)(hv:SliceIs w v l)(hs:l.length≤300)(hf:Fits l):Calls Tryz.prog 197 #[v] w (TogPost l w):=by
  obtain⟨a,cap,hva⟩:=hv.len
  have HV:=Lib.hid hv
  have HF:=Lib.hid hf
  obtain⟨n,hn⟩:∃n,l.length=n:=⟨_,rfl⟩
  have HN:=Lib.hid hn
  subst hva
  rw[hn]at HV ⊢
  rw[hn]at hs
  clear hv hf hn
  go_enter Tryz.func197,Tryz.ntmps197
  go_wp2
  go_loopw [3,4] (fun ov iv wr=>RTRel w l ov iv wr) (fun _ iv _=>n-(intOf iv).toNat)
  case atStart=>exact⟨0,by omega,rfl,by simpa[togI]using OwnI.nil _ _,Below.refl _ _⟩
  case round =>
    obtain⟨i,hi,rfl,hown,hbel⟩:=hrel
    rw[HN.out]at hi
    by_cases hlt:i<n
    · have hltz:(i:Int)<(n:Int):=by omega
      obtain⟨x,hx⟩:∃x,l.getD i 0=x:=⟨_,rfl⟩
      have HST:=Lib.hid (tog_take (l:=l) (i:=i) (by rw[HN.out];exact hlt))
      rw[hx]at HST
      obtain⟨g,off,cp,hg,hvv,hc⟩:∃g off cp,g<w.heap.size∧Value.slice a n cap=.slice (some ⟨g,off,none⟩) n cp∧w.cell? ⟨g,off+i,none⟩=some (.int .i32 x):=by
        rcases HV.out with⟨h0,_⟩|⟨g,off,cp,hg,hvv,hc⟩
        · have:=HN.out;rw[h0]at this;simp at this;omega
        · exact⟨g,off,cp,hg,by rw[hvv,HN.out],by rw[hc i (by rw[HN.out];exact hlt),hx]⟩
      cases hvv
      have c1:wr.cell? ⟨g,off+i,none⟩=some (.int .i32 x):=by rw[hbel.cell (p:=⟨g,off+i,none⟩) hg];exact hc
      have hxr:-2147483648≤x∧x≤2147483647:=HF.out x (by rw[←hx];simp[List.getD_eq_getElem?_getD,List.getElem?_eq_getElem (show i<l.length by rw[HN.out];exact hlt)])
      have HXR:=Lib.hid hxr
      have hol:=togI_length (l.take i)
      rw[List.length_take,HN.out]at hol
      have hol:(togI (l.take i)).length≤i:=by omega
      have HFO:Hid (Fits (togI (l.take i))):=Lib.hid (fits_togI fun y hy=>HF.out y (List.mem_of_mem_take hy))
      obtain⟨out,hout⟩:∃out,togI (l.take i)=out:=⟨_,rfl⟩
      rw[hout]at HST hown hol HFO
      have wi:IntKind.i64.wrap ((i:Int)+1)=((i+1:Nat):Int):=by rw[IntKind.wrap_i64];omega
      have HAP:Hid (togStep out x=out++[x]→∀ov w',OwnI w.heap.size w' ov (out++[x])→Below w.heap.size w w'→RTRel w l ov (.int .i64 ((i+1:Nat):Int)) w'):=Lib.hid fun hst ov w' ho hb =>
        ⟨i+1,by rw[HN.out];omega,rfl,by rw[HST.out,hst];exact ho,hb⟩
      have HMP:Hid (∀p b ms,togStep out x=p++pairI b x::ms→∀ov w',OwnI w.heap.size w' ov (p++pairI b x::ms)→Below w.heap.size w w'→RTRel w l ov (.int .i64 ((i+1:Nat):Int)) w'):=Lib.hid fun p b ms hst ov w' ho hb =>
        ⟨i+1,by rw[HN.out];omega,rfl,by rw[HST.out,hst];exact ho,hb⟩
      have HO:=Lib.hid hown
      have HBEL:=Lib.hid hbel
      have hwB:=hbel.size
      obtain⟨o,hoo⟩:∃o,out.length=o:=⟨_,rfl⟩
      have HOO:=Lib.hid hoo
      obtain⟨ao,co,hov⟩:=(SliceIs.own hown).len
      rw[hoo]at hov hol
      subst hov
      have ho9:o≤300:=by omega
      have wo:IntKind.i64.wrap ((o:Int)-1)=(o:Int)-1:=by rw[IntKind.wrap_i64];omega
      have HBS:Hid (BaseRel out wr (.int .i64 ((o:Int)-1)) wr):=Lib.hid ⟨(o:Int)-1,rfl,by omega,by omega,fun j h1 h2=>by omega,rfl⟩
      clear hx hc hown hbel hout HST hxr hoo
      rename World=>wv
      by_cases hne:out=[]
      · subst hne
        have ho0:o=0:=by rw[←HOO.out];rfl
        subst ho0
        have hst:togStep [] x=[]++[x]:=rfl
        have HBW:Hid (∀q,Below w.heap.size w (wv.drewN q)):=Lib.hid fun q=>below_drewN' HBEL.out q
        have HC1:=Lib.hid c1
        go_wp2
        refine wp_loop_rounds 1 ?_
        rw[rounds_succ]
        go_wp2
        go_quiet (fail)
        have hownq:=HO.out.drewN nq
        have hbq:=HBW.out nq
        have hcq:(wv.drewN nq).cell? ⟨g,off+i,none⟩=some (.int .i32 x):=HC1.out
        clear c1 hwB HBS
        generalize wv.drewN nq=w5 at *
        have ownA:OwnI w.heap.size (w5.alloc (.cells #[.int .i32 x] 21)) _ ([]:List Int):=World.ownsRow.alloc hownq _
        have belA:=(hbq).alloc (hbq).size (.cells #[.int .i32 x] 21)
        have HSX:Hid (SliceOk (w5.alloc (.cells #[.int .i32 x] 21)) (.slice (some ⟨w5.heap.size,0,none⟩) 1 1) [x]):=Lib.hid (by
          refine⟨Or.inr ⟨w5.heap.size,0,1,by simp,rfl,fun j hj=>?_⟩,Or.inr ⟨_,1,rfl⟩⟩
          match j,hj with
          | 0,_=>exact cell_two _ _ _ _)
        have hlA:([]:List Int).length+[x].length≤100000:=by simp
        have hsA:w.heap.size≤(w5.alloc (.cells #[.int .i32 x] 21)).heap.size:=belA.size
        have cx1:w5.cell? ⟨g,off+i,none⟩=some (.int .i32 x):=hcq
        go_wp2_with (at_builtin;refine append_ok rfl _ _ rfl w.heap.size _ ([]:List Int) rfl ownA _ [x] rfl HSX.out hlA hsA ?_)
        intro v9 w9 own9 hb9
        have HE:=Lib.hid (HAP.out hst v9 w9 own9 (belA.trans hb9))
        clear ownA belA HSX hlA hsA cx1 own9 hb9
        go_wp2
        go_roundw
        case rel=>exact HE.out
        case measure=>simp[intOf];omega
      · obtain⟨G,co',hov'⟩:=OwnI.form HO.out hne
        rw[HOO.out]at hov'
        cases hov'
        have o1:1≤o:=by have:=List.length_pos_iff.2 hne;rw[HOO.out]at this;omega
        have hGG:Hid (w.heap.size≤G∧G<wv.heap.size):=Lib.hid (by have:=OwnI.holds (by rw[HOO.out];exact HO.out);exact this.2.2)
        go_wp2
        go_loopw [5] (fun bv w'=>BaseRel out wv bv w') (fun bv _=>(intOf bv+1).toNat)
        case atStart=>exact HBS.out
        case round =>
          obtain⟨b,rfl,hb1,hbo,hpos,hweq⟩:=hrel
          rw[hweq]
          clear hweq
          rw[HOO.out]at hbo
          have HPOS:=Lib.hid hpos
          clear hpos
          by_cases hb0:0≤b
          · obtain⟨k,rfl⟩:∃k:Nat,b=(k:Int):=⟨b.toNat,by omega⟩
            have hko:k<o:=by omega
            obtain⟨z,hz⟩:∃z,out.getD k 0=z:=⟨_,rfl⟩
            have kc:=HO.out.cell (j:=k) HOO.out hko
            rw[hz]at kc
            obtain⟨cz,fz⟩:=kc
            have cC:=fun y w=>class_c y w
            have cZ:=fun w=>class_c z w
            have bz:=class_bounds z
            have wk:IntKind.i64.wrap ((k:Int)-1)=(k:Int)-1:=by rw[IntKind.wrap_i64];omega
            by_cases hcz:0<classI z
            · have HE:Hid (BaseRel out wv (.int .i64 ((k:Int)-1)) wv):=Lib.hid ⟨(k:Int)-1,rfl,by omega,by rw[HOO.out];omega,fun j h1 h2=>by
                by_cases hj:j=k
                · subst hj;rw[hz];exact hcz
                · exact HPOS.out j (by omega) h2,rfl⟩
              clear HBS hz bz cC
              generalize classI z=cz0 at *
              go_wp2_with fail
              refine(cZ _).mono ?_
              rintro e w' ⟨rfl,hw'⟩
              rw[←hw']
              clear hw' w'
              go_wp2
              go_roundw
              case rel=>exact HE.out
              case measure=>first|(simp[intOf];done)|(simp[intOf];omega)
            · have hz0:classI z=0:=by omega
              have hbase:baseOf out=(k:Int):=base_found (by omega) (by rw[HOO.out];omega) HPOS.out (Or.inr (by rw[Int.toNat_natCast,hz];exact hz0))
              rw[hz0]at cZ
              have hq:∃p ms,lastBase out=some (p,z,ms)∧p.length=k∧out=p++z::ms:=by
                unfold baseOf at hbase
                cases hb:lastBase out with
                | none=>rw[hb]at hbase;exfalso;revert hbase;simp;try omega
                | some q =>
                  obtain⟨p,b',ms⟩:=q
                  rw[hb]at hbase
                  simp only at hbase
                  have hpk:p.length=k:=by omega
                  have ho:=(lastBase_some hb).1
                  have:b'=z:=by rw[←hz,ho,←hpk,getD_mid]
                  subst this
                  exact⟨p,ms,rfl,hpk,ho⟩
              obtain⟨p,ms,hlb,hpk,hout⟩:=hq
              have hlen:=congrArg List.length hout
              rw[HOO.out,List.length_append,List.length_cons,hpk]at hlen
              have hzr:-2147483648≤z∧z≤2147483647:=HFO.out z (by rw[hout];simp)
              have cP:=fun w=>pair_c z x hzr.1 hzr.2 HXR.out.1 HXR.out.2 w
              have HMK:Hid (mayB ms x=true→0<pairI z x→∀ov w',OwnI w.heap.size w' ov (p++pairI z x::ms)→Below w.heap.size w w'→RTRel w l ov (.int .i64 ((i+1:Nat):Int)) w'):=Lib.hid fun h1 h2=>HMP.out p z ms (by unfold togStep;rw[hlb];simp only;rw[if_pos ⟨h1,h2⟩])
              have HNO:Hid ((mayB ms x=false∨¬0<pairI z x)→togStep out x=out++[x]):=Lib.hid fun h=>by
                unfold togStep;rw[hlb];simp only
                rw[if_neg fun hh=>by
                  rcases h with h|h
                  · rw[h]at hh;exact absurd hh.1 (by decide)
                  · exact h hh.2]
              have HSET:Hid (∀y:Int,out.set k y=p++y::ms):=Lib.hid fun y=>by rw[hout,←hpk];exact set_at
              have HOUT:=Lib.hid hout
              clear hout
              have HZ:=Lib.hid (show out.getD k 0=z from hz)
              have kz:(k:Int)<(o:Int):=by omega
              have kz0:(0:Int)≤(k:Int):=by omega
              have HC1:=Lib.hid c1
              have HCZ:=Lib.hid cz
              clear hbase hz hzr hz0 bz hcz hlb HBS HPOS
              by_cases hms:k=o-1
              · have hm0:ms=[]:=List.eq_nil_of_length_eq_zero (by omega)
                have hmay:mayB ms x=true:=by rw[hm0];rfl
                obtain rfl:o=k+1:=by omega
                clear hlen hms hm0 wo hbo hb1
                have wo2:IntKind.i64.wrap (((k+1:Nat):Int)-1)=(k:Int):=by rw[IntKind.wrap_i64];omega
                go_wp2_with fail
                refine(cZ _).mono ?_
                rintro e w' ⟨rfl,hw'⟩
                rw[←hw']
                clear hw' w'
                go_wp2
                go_quiet (fail)
                have cz5:(wv.drewN nq).cell? ⟨G,k,none⟩=some (.int .i32 z):=HCZ.out
                have cx5:(wv.drewN nq).cell? ⟨g,off+i,none⟩=some (.int .i32 x):=HC1.out
                have HO5:=Lib.hid (HO.out.drewN nq)
                have HB5:=Lib.hid (below_drewN' HBEL.out nq)
                have HG5:Hid (G<(wv.drewN nq).heap.size∧g<(wv.drewN nq).heap.size):=Lib.hid ⟨by have h1:=hGG.out.2;have h2:=(below_drewN' (Below.refl 0 wv) nq).size;omega,by have h2:=(below_drewN' (Below.refl 0 wv) nq).size;omega⟩
                clear c1 cz hwB cC cZ HBEL HO
                generalize wv.drewN nq=w5 at *
                have hS:Below w5.heap.size w5 w5:=Below.refl _ _
                obtain⟨made,hmade⟩:∃made,pairI z x=made:=⟨_,rfl⟩
                rw[hmade]at cP HMK HNO
                clear hmade
                go_wp2
                have HGG:=HG5.out
                obtain⟨hG5,hg5⟩:=HGG
                have hS0:Below w5.heap.size w5 w5∧w5.cell? ⟨G,k,none⟩=some (.int .i32 z)∧w5.cell? ⟨g,off+i,none⟩=some (.int .i32 x):=⟨Below.refl _ _,cz5,cx5⟩
                have ki:(i:Int)<(n:Int):=hltz
                have ki0:(0:Int)≤(i:Int):=by omega
                have kz9:(k:Int)<((k+1:Nat):Int):=by omega
                have kz8:(k:Int)<(k:Int)+1:=by omega
                go_region_held3 (fun w'=>Below w5.heap.size w5 w'∧w'.cell? ⟨G,k,none⟩=some (.int .i32 z)∧w'.cell? ⟨g,off+i,none⟩=some (.int .i32 x)) (first|assumption|exact keep_drew ‹_›|exact keep_step hG5 hg5 ‹_› ‹_›) (first|(go_at_call 217;refine(cP _).mono ?_;rintro e w' ⟨rfl,hb⟩))
                have hSw:Below w5.heap.size w5 w'∧w'.cell? ⟨G,k,none⟩=some (.int .i32 z)∧w'.cell? ⟨g,off+i,none⟩=some (.int .i32 x):=by first|assumption|exact keep_step hG5 hg5 ‹_› ‹_›
                have ownW:=HO5.out.below hSw.1
                have belW:=HB5.out.trans (hSw.1.mono HB5.out.size)
                have cxW:=hSw.2.2
                clear hSw hS0 hS cz5 cx5
                by_cases hmd:0<made
                · have own0:=own_empty w'.heap.size w' (Nat.le_refl _)
                  have belA:=belW.alloc belW.size (.cells #[] 21)
                  have hbA:Below w'.heap.size w' (w'.alloc (.cells #[] 21)):=(Below.refl _ _).alloc (Nat.le_refl _) _
                  have HSX:=Lib.hid ((SliceOk.own ownW).kept hbA)
                  have hlA:([]:List Int).length+out.length≤100000:=by rw[HOO.out,List.length_nil];omega
                  have hsA:=hbA.size
                  have HWS:Hid (w.heap.size≤w'.heap.size):=Lib.hid belW.size
                  clear hbA belW cxW
                  go_wp2_with (at_builtin;refine append_ok rfl _ _ rfl w'.heap.size _ [] rfl own0 _ out rfl HSX.out hlA hsA ?_)
                  intro v9 w9 own9 hb9
                  try rw[List.nil_append]at own9
                  obtain⟨G9,co9,hv9⟩:=OwnI.form own9 hne
                  rw[HOO.out]at hv9
                  subst hv9
                  obtain⟨cc9,ff9⟩:=own9.cell (j:=k) HOO.out (by omega)
                  have hg9:w'.heap.size≤G9:=(OwnI.holds (by rw[HOO.out];exact own9)).2.2.1
                  have own9':=own9.set (i:=k) made
                  rw[HSET.out made]at own9'
                  have HE:=Lib.hid (HMK.out hmay hmd _ _ (OwnI.mono own9' HWS.out) ((belA.trans (hb9.mono HWS.out)).trans (below_set w9 k (.int .i32 made) (Nat.le_trans HWS.out hg9))))
                  have hmz:made>0:=hmd
                  clear own0 belA HSX hlA hsA own9 own9' hb9 hg9 ownW
                  go_wp2
                  go_roundw
                  case rel=>exact HE.out
                  case measure=>simp[intOf];omega
                · have hst:=HNO.out (Or.inr (by omega))
                  have hmz:¬(made>0):=hmd
                  clear HMK
                  have ownA:OwnI w.heap.size (w'.alloc (.cells #[.int .i32 x] 21)) _ out:=World.ownsRow.alloc ownW _
                  have belA:=(belW).alloc (belW).size (.cells #[.int .i32 x] 21)
                  have HSX:Hid (SliceOk (w'.alloc (.cells #[.int .i32 x] 21)) (.slice (some ⟨w'.heap.size,0,none⟩) 1 1) [x]):=Lib.hid (by
                    refine⟨Or.inr ⟨w'.heap.size,0,1,by simp,rfl,fun j hj=>?_⟩,Or.inr ⟨_,1,rfl⟩⟩
                    match j,hj with
                    | 0,_=>exact cell_two _ _ _ _)
                  have hlA:out.length+[x].length≤100000:=by rw[HOO.out];simp;omega
                  have hsA:w.heap.size≤(w'.alloc (.cells #[.int .i32 x] 21)).heap.size:=belA.size
                  have cx1:w'.cell? ⟨g,off+i,none⟩=some (.int .i32 x):=cxW
                  go_wp2_with (at_builtin;refine append_ok rfl _ _ rfl w.heap.size _ out rfl ownA _ [x] rfl HSX.out hlA hsA ?_)
                  intro v9 w9 own9 hb9
                  have HE:=Lib.hid (HAP.out hst v9 w9 own9 (belA.trans hb9))
                  clear ownA belA HSX hlA hsA cx1 own9 hb9
                  go_wp2
                  go_roundw
                  case rel=>exact HE.out
                  case measure=>simp[intOf];omega
              · have hmne:ms≠[]:=by intro h;rw[h]at hlen;simp at hlen;omega
                obtain⟨om,rfl⟩:∃om,o=om+1:=⟨o-1,by omega⟩
                obtain⟨ms',zl,hml⟩:∃ms' zl,ms=ms'++[zl]:=by
                  rcases List.eq_nil_or_concat ms with h|⟨ms',zl,h⟩
                  · exact absurd h hmne
                  · exact⟨ms',zl,by rw[h,List.concat_eq_append]⟩
                have hzl:out.getD om 0=zl:=by
                  have e1:out=(p++z::ms')++zl::[]:=by rw[HOUT.out,hml];simp
                  have e2:(p++z::ms').length=om:=by
                    have:=congrArg List.length e1
                    rw[HOO.out,List.length_append]at this
                    simp at this
                    simp;omega
                  rw[e1,←e2,getD_mid]
                have kl:=HO.out.cell (j:=om) HOO.out (by omega)
                rw[hzl]at kl
                obtain⟨cl,fl⟩:=kl
                have hmb:mayB ms x=decide (classI zl<classI x):=by unfold mayB;rw[hml];simp
                have hkm:((k:Int)==(om:Int))=false:=by rw[beq_eq_false_iff_ne];omega
                have hkm':¬((k:Int)=(om:Int)):=by omega
                have wo2:IntKind.i64.wrap (((om+1:Nat):Int)-1)=(om:Int):=by rw[IntKind.wrap_i64];omega
                have wo3:IntKind.i64.wrap ((om:Int))=(om:Int):=by rw[IntKind.wrap_i64];omega
                have lz:(om:Int)<((om+1:Nat):Int):=by omega
                have lz0:(om:Int)<(om:Int)+1:=by omega
                have lz1:(0:Int)≤(om:Int):=by omega
                have kz7:(k:Int)<(om:Int)+1:=by omega
                have cCC:=fun y w=>class_c y w
                clear hlen hms hmne hml hzl wo hbo hb1
                by_cases hcl:classI zl<classI x
                · have hmay:mayB ms x=true:=by rw[hmb];exact decide_eq_true hcl
                  clear hmb
                  go_wp2_with fail
                  refine(cZ _).mono ?_
                  rintro e w' ⟨rfl,hw'⟩
                  rw[←hw']
                  clear hw' w'
                  go_wp2
                  go_quiet ((go_at_call 161;exact Calls.quiet_of_same ((cCC _ _).mono fun _ _ h=>⟨h.1,h.2.symm⟩)))
                  clear cCC cl fl
                  have cz5:(wv.drewN nq).cell? ⟨G,k,none⟩=some (.int .i32 z):=HCZ.out
                  have cx5:(wv.drewN nq).cell? ⟨g,off+i,none⟩=some (.int .i32 x):=HC1.out
                  have HO5:=Lib.hid (HO.out.drewN nq)
                  have HB5:=Lib.hid (below_drewN' HBEL.out nq)
                  have HG5:Hid (G<(wv.drewN nq).heap.size∧g<(wv.drewN nq).heap.size):=Lib.hid ⟨by have h1:=hGG.out.2;have h2:=(below_drewN' (Below.refl 0 wv) nq).size;omega,by have h2:=(below_drewN' (Below.refl 0 wv) nq).size;omega⟩
                  clear c1 cz hwB cC cZ HBEL HO
                  generalize wv.drewN nq=w5 at *
                  have hS:Below w5.heap.size w5 w5:=Below.refl _ _
                  obtain⟨made,hmade⟩:∃made,pairI z x=made:=⟨_,rfl⟩
                  rw[hmade]at cP HMK HNO
                  clear hmade
                  go_wp2
                  have HGG:=HG5.out
                  obtain⟨hG5,hg5⟩:=HGG
                  have hS0:Below w5.heap.size w5 w5∧w5.cell? ⟨G,k,none⟩=some (.int .i32 z)∧w5.cell? ⟨g,off+i,none⟩=some (.int .i32 x):=⟨Below.refl _ _,cz5,cx5⟩
                  have ki:(i:Int)<(n:Int):=hltz
                  have ki0:(0:Int)≤(i:Int):=by omega
                  go_region_held3 (fun w'=>Below w5.heap.size w5 w'∧w'.cell? ⟨G,k,none⟩=some (.int .i32 z)∧w'.cell? ⟨g,off+i,none⟩=some (.int .i32 x)) (first|assumption|exact keep_drew ‹_›|exact keep_step hG5 hg5 ‹_› ‹_›) (first|(go_at_call 217;refine(cP _).mono ?_;rintro e w' ⟨rfl,hb⟩))
                  have hSw:Below w5.heap.size w5 w'∧w'.cell? ⟨G,k,none⟩=some (.int .i32 z)∧w'.cell? ⟨g,off+i,none⟩=some (.int .i32 x):=by first|assumption|exact keep_step hG5 hg5 ‹_› ‹_›
                  have ownW:=HO5.out.below hSw.1
                  have belW:=HB5.out.trans (hSw.1.mono HB5.out.size)
                  have cxW:=hSw.2.2
                  clear hSw hS0 hS cz5 cx5
                  by_cases hmd:0<made
                  · have own0:=own_empty w'.heap.size w' (Nat.le_refl _)
                    have belA:=belW.alloc belW.size (.cells #[] 21)
                    have hbA:Below w'.heap.size w' (w'.alloc (.cells #[] 21)):=(Below.refl _ _).alloc (Nat.le_refl _) _
                    have HSX:=Lib.hid ((SliceOk.own ownW).kept hbA)
                    have hlA:([]:List Int).length+out.length≤100000:=by rw[HOO.out,List.length_nil];omega
                    have hsA:=hbA.size
                    have HWS:Hid (w.heap.size≤w'.heap.size):=Lib.hid belW.size
                    clear hbA belW cxW
                    go_wp2_with (at_builtin;refine append_ok rfl _ _ rfl w'.heap.size _ [] rfl own0 _ out rfl HSX.out hlA hsA ?_)
                    intro v9 w9 own9 hb9
                    try rw[List.nil_append]at own9
                    obtain⟨G9,co9,hv9⟩:=OwnI.form own9 hne
                    rw[HOO.out]at hv9
                    subst hv9
                    obtain⟨cc9,ff9⟩:=own9.cell (j:=k) HOO.out (by omega)
                    have hg9:w'.heap.size≤G9:=(OwnI.holds (by rw[HOO.out];exact own9)).2.2.1
                    have own9':=own9.set (i:=k) made
                    rw[HSET.out made]at own9'
                    have HE:=Lib.hid (HMK.out hmay hmd _ _ (OwnI.mono own9' HWS.out) ((belA.trans (hb9.mono HWS.out)).trans (below_set w9 k (.int .i32 made) (Nat.le_trans HWS.out hg9))))
                    have hmz:made>0:=hmd
                    clear own0 belA HSX hlA hsA own9 own9' hb9 hg9 ownW
                    go_wp2
                    go_roundw
                    case rel=>exact HE.out
                    case measure=>simp[intOf];omega
                  · have hst:=HNO.out (Or.inr (by omega))
                    have hmz:¬(made>0):=hmd
                    clear HMK
                    have ownA:OwnI w.heap.size (w'.alloc (.cells #[.int .i32 x] 21)) _ out:=World.ownsRow.alloc ownW _
                    have belA:=(belW).alloc (belW).size (.cells #[.int .i32 x] 21)
                    have HSX:Hid (SliceOk (w'.alloc (.cells #[.int .i32 x] 21)) (.slice (some ⟨w'.heap.size,0,none⟩) 1 1) [x]):=Lib.hid (by
                      refine⟨Or.inr ⟨w'.heap.size,0,1,by simp,rfl,fun j hj=>?_⟩,Or.inr ⟨_,1,rfl⟩⟩
                      match j,hj with
                      | 0,_=>exact cell_two _ _ _ _)
                    have hlA:out.length+[x].length≤100000:=by rw[HOO.out];simp;omega
                    have hsA:w.heap.size≤(w'.alloc (.cells #[.int .i32 x] 21)).heap.size:=belA.size
                    have cx1:w'.cell? ⟨g,off+i,none⟩=some (.int .i32 x):=cxW
                    go_wp2_with (at_builtin;refine append_ok rfl _ _ rfl w.heap.size _ out rfl ownA _ [x] rfl HSX.out hlA hsA ?_)
                    intro v9 w9 own9 hb9
                    have HE:=Lib.hid (HAP.out hst v9 w9 own9 (belA.trans hb9))
                    clear ownA belA HSX hlA hsA cx1 own9 hb9
                    go_wp2
                    go_roundw
                    case rel=>exact HE.out
                    case measure=>simp[intOf];omega
                · have hst:=HNO.out (Or.inl (by rw[hmb];exact decide_eq_false hcl))
                  have hcl':¬(classI x>classI zl):=hcl
                  clear hmb HMK HNO
                  go_wp2_with fail
                  refine(cZ _).mono ?_
                  rintro e w' ⟨rfl,hw'⟩
                  rw[←hw']
                  clear hw' w'
                  go_wp2
                  go_quiet ((go_at_call 161;exact Calls.quiet_of_same ((cCC _ _).mono fun _ _ h=>⟨h.1,h.2.symm⟩)))
                  have hcq:(wv.drewN nq).cell? ⟨g,off+i,none⟩=some (.int .i32 x):=HC1.out
                  have hownq:=HO.out.drewN nq
                  have hbq:=below_drewN' HBEL.out nq
                  clear c1 cz hwB cC cZ cCC cl fl
                  generalize wv.drewN nq=w5 at *
                  have ownA:OwnI w.heap.size (w5.alloc (.cells #[.int .i32 x] 21)) _ out:=World.ownsRow.alloc hownq _
                  have belA:=(hbq).alloc (hbq).size (.cells #[.int .i32 x] 21)
                  have HSX:Hid (SliceOk (w5.alloc (.cells #[.int .i32 x] 21)) (.slice (some ⟨w5.heap.size,0,none⟩) 1 1) [x]):=Lib.hid (by
                    refine⟨Or.inr ⟨w5.heap.size,0,1,by simp,rfl,fun j hj=>?_⟩,Or.inr ⟨_,1,rfl⟩⟩
                    match j,hj with
                    | 0,_=>exact cell_two _ _ _ _)
                  have hlA:out.length+[x].length≤100000:=by rw[HOO.out];simp;omega
                  have hsA:w.heap.size≤(w5.alloc (.cells #[.int .i32 x] 21)).heap.size:=belA.size
                  have cx1:w5.cell? ⟨g,off+i,none⟩=some (.int .i32 x):=hcq
                  go_wp2_with (at_builtin;refine append_ok rfl _ _ rfl w.heap.size _ out rfl ownA _ [x] rfl HSX.out hlA hsA ?_)
                  intro v9 w9 own9 hb9
                  have HE:=Lib.hid (HAP.out hst v9 w9 own9 (belA.trans hb9))
                  clear ownA belA HSX hlA hsA cx1 own9 hb9
                  go_wp2
                  go_roundw
                  case rel=>exact HE.out
                  case measure=>simp[intOf];omega
          · have hbm:b=-1:=by omega
            subst hbm
            have hbase:baseOf out=-1:=base_found (by omega) (by rw[HOO.out];omega) HPOS.out (Or.inl rfl)
            have hst:togStep out x=out++[x]:=by
              unfold togStep
              cases hb:lastBase out with
              | none=>rfl
              | some q =>
                obtain⟨p,b',ms⟩:=q
                unfold baseOf at hbase
                rw[hb]at hbase
                simp only at hbase
                omega
            have HC1:=Lib.hid c1
            clear hbase HBS HPOS hb0
            go_wp2
            go_quiet (fail)
            have hcq:(wv.drewN nq).cell? ⟨g,off+i,none⟩=some (.int .i32 x):=HC1.out
            have hownq:=HO.out.drewN nq
            have hbq:=below_drewN' HBEL.out nq
            clear c1 hwB
            generalize wv.drewN nq=w5 at *
            have ownA:OwnI w.heap.size (w5.alloc (.cells #[.int .i32 x] 21)) _ out:=World.ownsRow.alloc hownq _
            have belA:=(hbq).alloc (hbq).size (.cells #[.int .i32 x] 21)
            have HSX:Hid (SliceOk (w5.alloc (.cells #[.int .i32 x] 21)) (.slice (some ⟨w5.heap.size,0,none⟩) 1 1) [x]):=Lib.hid (by
              refine⟨Or.inr ⟨w5.heap.size,0,1,by simp,rfl,fun j hj=>?_⟩,Or.inr ⟨_,1,rfl⟩⟩
              match j,hj with
              | 0,_=>exact cell_two _ _ _ _)
            have hlA:out.length+[x].length≤100000:=by rw[HOO.out];simp;omega
            have hsA:w.heap.size≤(w5.alloc (.cells #[.int .i32 x] 21)).heap.size:=belA.size
            have cx1:w5.cell? ⟨g,off+i,none⟩=some (.int .i32 x):=hcq
            go_wp2_with (at_builtin;refine append_ok rfl _ _ rfl w.heap.size _ out rfl ownA _ [x] rfl HSX.out hlA hsA ?_)
            intro v9 w9 own9 hb9
            have HE:=Lib.hid (HAP.out hst v9 w9 own9 (belA.trans hb9))
            clear ownA belA HSX hlA hsA cx1 own9 hb9
            go_wp2
            go_roundw
            case rel=>exact HE.out
            case measure=>simp[intOf];omega
    · have hin:i=n:=by omega
      subst hin
      have HT:Hid (l.take i=l):=Lib.hid (List.take_of_length_le (by rw[HN.out];omega))
      rw[HT.out]at hown
      have hge:¬((i:Int)<(i:Int)):=by omega
      have HX:=Lib.hid (show SliceIs wr u3 (togI l) from SliceIs.own hown)
      clear hown
      go_wp2
      go_ret
      exact⟨_,rfl,HX.out,hbel⟩
end Go.Proofs.YtfioknaadbgjlaaGreatDoor.F
namespace Go.Proofs.YtfioknaadbgjlaaGreatDoor.F
open Go.RowKit
def resT:List Int:=[34,37,42,47,58,60,62,63,92,124]
def reservedI (r:Int):Bool:=decide (r∈resT∨(0≤r∧r<32)∨r=127)
theorem res_yes {r:Int}(h:r∈resT):reservedI r=true:=decide_eq_true (Or.inl h)
theorem res_no {r:Int}(h:∀k:Nat,k<10→r≠resT.getD k 0):reservedI r=decide ((0≤r∧r<32)∨r=127):=by
  have:r∉resT:=fun hm=>by
    obtain⟨k,hk,e⟩:=List.getElem_of_mem hm
    exact h k hk (by rw[←e];simp[List.getD_eq_getElem?_getD,List.getElem?_eq_getElem hk])
  unfold reservedI
  simp[this]
theorem res_more {r:Int}{i:Nat}(h:∀k:Nat,k<i→r≠resT.getD k 0)(h':r≠resT.getD i 0):∀k:Nat,k<i+1→r≠resT.getD k 0:=by
  intro k hk
  by_cases e:k=i
  · subst e;exact h'
  · exact h k (by omega)
set_option maxHeartbeats 4000000 in
theorem refRes_c (r:Int)(w:World):Calls Tryz.prog 160 #[.int .i64 r] w fun e w'=>e=.returned (.bool (reservedI r))∧w'=w:=by
  obtain⟨X,hX⟩:∃X,reservedI r=X:=⟨_,rfl⟩
  rw[hX]
  have H0:=Lib.hid hX
  clear hX
  go_enter Tryz.func160,Tryz.ntmps160
  go_wp2
  go_loop [4] (fun iv=>∃i:Nat,i≤10∧iv=.int .i64 i∧∀k:Nat,k<i→r≠resT.getD k 0) (fun iv=>10-(intOf iv).toNat)
  case atStart=>exact⟨0,by omega,rfl,fun k hk=>by omega⟩
  case round =>
    obtain⟨i,hi,rfl,hno⟩:=hrel
    have HNO:=Lib.hid hno
    clear hno
    by_cases h10:i=10
    · subst h10
      have HX:=Lib.hid (show X=decide ((0≤r∧r<32)∨r=127) from H0.out.symm.trans (res_no HNO.out))
      by_cases h1:0≤r
      · by_cases h2:r<32
        · have HY:=Lib.hid (show X=true by rw[HX.out];exact decide_eq_true (Or.inl ⟨h1,h2⟩))
          go_wp2
          go_ret
          exact⟨by rw[HY.out];rfl,rfl⟩
        · by_cases h3:r=127
          · subst h3
            have HY:=Lib.hid (show X=true by rw[HX.out];rfl)
            clear h1 h2
            go_wp2
            go_ret
            exact⟨by rw[HY.out];rfl,rfl⟩
          · have HY:=Lib.hid (show X=false by rw[HX.out];exact decide_eq_false (by omega))
            have e3:(r==127)=false:=by rw[beq_eq_false_iff_ne];exact h3
            go_wp2
            go_ret
            exact⟨by rw[HY.out];rfl,rfl⟩
      · have HY:=Lib.hid (show X=false by rw[HX.out];exact decide_eq_false (by omega))
        have e3:(r==127)=false:=by rw[beq_eq_false_iff_ne];omega
        go_wp2
        go_ret
        exact⟨by rw[HY.out];rfl,rfl⟩
    · obtain rfl|rfl|rfl|rfl|rfl|rfl|rfl|rfl|rfl|rfl:i=0∨i=1∨i=2∨i=3∨i=4∨i=5∨i=6∨i=7∨i=8∨i=9:=by omega
      · have hB:=Go.PlainAid.get_bt ⟨#[34,37,42,47,58,60,62,63,92,124]⟩
        have hb:Go.PlainAid.bt ⟨#[34,37,42,47,58,60,62,63,92,124]⟩ 0=34:=by decide +kernel
        by_cases hr:r=34
        · have HY:=Lib.hid (show X=true from H0.out.symm.trans (res_yes (by rw[hr];decide)))
          clear h10 hi
          subst hr
          go_wp2
          go_ret
          exact⟨by rw[HY.out];rfl,rfl⟩
        · have hr':(r==34)=false:=by rw[beq_eq_false_iff_ne];exact hr
          have HM:=Lib.hid (res_more HNO.out (show r≠resT.getD 0 0 from hr))
          clear h10 hi hr
          go_wp2
          go_round
          case rel=>exact⟨1,by omega,by go_num,HM.out⟩
          case measure=>simp[intOf]
      · have hB:=Go.PlainAid.get_bt ⟨#[34,37,42,47,58,60,62,63,92,124]⟩
        have hb:Go.PlainAid.bt ⟨#[34,37,42,47,58,60,62,63,92,124]⟩ 1=37:=by decide +kernel
        by_cases hr:r=37
        · have HY:=Lib.hid (show X=true from H0.out.symm.trans (res_yes (by rw[hr];decide)))
          clear h10 hi
          subst hr
          go_wp2
          go_ret
          exact⟨by rw[HY.out];rfl,rfl⟩
        · have hr':(r==37)=false:=by rw[beq_eq_false_iff_ne];exact hr
          have HM:=Lib.hid (res_more HNO.out (show r≠resT.getD 1 0 from hr))
          clear h10 hi hr
          go_wp2
          go_round
          case rel=>exact⟨2,by omega,by go_num,HM.out⟩
          case measure=>simp[intOf]
      · have hB:=Go.PlainAid.get_bt ⟨#[34,37,42,47,58,60,62,63,92,124]⟩
        have hb:Go.PlainAid.bt ⟨#[34,37,42,47,58,60,62,63,92,124]⟩ 2=42:=by decide +kernel
        by_cases hr:r=42
        · have HY:=Lib.hid (show X=true from H0.out.symm.trans (res_yes (by rw[hr];decide)))
          clear h10 hi
          subst hr
          go_wp2
          go_ret
          exact⟨by rw[HY.out];rfl,rfl⟩
        · have hr':(r==42)=false:=by rw[beq_eq_false_iff_ne];exact hr
          have HM:=Lib.hid (res_more HNO.out (show r≠resT.getD 2 0 from hr))
          clear h10 hi hr
          go_wp2
          go_round
          case rel=>exact⟨3,by omega,by go_num,HM.out⟩
          case measure=>simp[intOf]
      · have hB:=Go.PlainAid.get_bt ⟨#[34,37,42,47,58,60,62,63,92,124]⟩
        have hb:Go.PlainAid.bt ⟨#[34,37,42,47,58,60,62,63,92,124]⟩ 3=47:=by decide +kernel
        by_cases hr:r=47
        · have HY:=Lib.hid (show X=true from H0.out.symm.trans (res_yes (by rw[hr];decide)))
          clear h10 hi
          subst hr
          go_wp2
          go_ret
          exact⟨by rw[HY.out];rfl,rfl⟩
        · have hr':(r==47)=false:=by rw[beq_eq_false_iff_ne];exact hr
          have HM:=Lib.hid (res_more HNO.out (show r≠resT.getD 3 0 from hr))
          clear h10 hi hr
          go_wp2
          go_round
          case rel=>exact⟨4,by omega,by go_num,HM.out⟩
          case measure=>simp[intOf]
      · have hB:=Go.PlainAid.get_bt ⟨#[34,37,42,47,58,60,62,63,92,124]⟩
        have hb:Go.PlainAid.bt ⟨#[34,37,42,47,58,60,62,63,92,124]⟩ 4=58:=by decide +kernel
        by_cases hr:r=58
        · have HY:=Lib.hid (show X=true from H0.out.symm.trans (res_yes (by rw[hr];decide)))
          clear h10 hi
          subst hr
          go_wp2
          go_ret
          exact⟨by rw[HY.out];rfl,rfl⟩
        · have hr':(r==58)=false:=by rw[beq_eq_false_iff_ne];exact hr
          have HM:=Lib.hid (res_more HNO.out (show r≠resT.getD 4 0 from hr))
          clear h10 hi hr
          go_wp2
          go_round
          case rel=>exact⟨5,by omega,by go_num,HM.out⟩
          case measure=>simp[intOf]
      · have hB:=Go.PlainAid.get_bt ⟨#[34,37,42,47,58,60,62,63,92,124]⟩
        have hb:Go.PlainAid.bt ⟨#[34,37,42,47,58,60,62,63,92,124]⟩ 5=60:=by decide +kernel
        by_cases hr:r=60
        · have HY:=Lib.hid (show X=true from H0.out.symm.trans (res_yes (by rw[hr];decide)))
          clear h10 hi
          subst hr
          go_wp2
          go_ret
          exact⟨by rw[HY.out];rfl,rfl⟩
        · have hr':(r==60)=false:=by rw[beq_eq_false_iff_ne];exact hr
          have HM:=Lib.hid (res_more HNO.out (show r≠resT.getD 5 0 from hr))
          clear h10 hi hr
          go_wp2
          go_round
          case rel=>exact⟨6,by omega,by go_num,HM.out⟩
          case measure=>simp[intOf]
      · have hB:=Go.PlainAid.get_bt ⟨#[34,37,42,47,58,60,62,63,92,124]⟩
        have hb:Go.PlainAid.bt ⟨#[34,37,42,47,58,60,62,63,92,124]⟩ 6=62:=by decide +kernel
        by_cases hr:r=62
        · have HY:=Lib.hid (show X=true from H0.out.symm.trans (res_yes (by rw[hr];decide)))
          clear h10 hi
          subst hr
          go_wp2
          go_ret
          exact⟨by rw[HY.out];rfl,rfl⟩
        · have hr':(r==62)=false:=by rw[beq_eq_false_iff_ne];exact hr
          have HM:=Lib.hid (res_more HNO.out (show r≠resT.getD 6 0 from hr))
          clear h10 hi hr
          go_wp2
          go_round
          case rel=>exact⟨7,by omega,by go_num,HM.out⟩
          case measure=>simp[intOf]
      · have hB:=Go.PlainAid.get_bt ⟨#[34,37,42,47,58,60,62,63,92,124]⟩
        have hb:Go.PlainAid.bt ⟨#[34,37,42,47,58,60,62,63,92,124]⟩ 7=63:=by decide +kernel
        by_cases hr:r=63
        · have HY:=Lib.hid (show X=true from H0.out.symm.trans (res_yes (by rw[hr];decide)))
          clear h10 hi
          subst hr
          go_wp2
          go_ret
          exact⟨by rw[HY.out];rfl,rfl⟩
        · have hr':(r==63)=false:=by rw[beq_eq_false_iff_ne];exact hr
          have HM:=Lib.hid (res_more HNO.out (show r≠resT.getD 7 0 from hr))
          clear h10 hi hr
          go_wp2
          go_round
          case rel=>exact⟨8,by omega,by go_num,HM.out⟩
          case measure=>simp[intOf]
      · have hB:=Go.PlainAid.get_bt ⟨#[34,37,42,47,58,60,62,63,92,124]⟩
        have hb:Go.PlainAid.bt ⟨#[34,37,42,47,58,60,62,63,92,124]⟩ 8=92:=by decide +kernel
        by_cases hr:r=92
        · have HY:=Lib.hid (show X=true from H0.out.symm.trans (res_yes (by rw[hr];decide)))
          clear h10 hi
          subst hr
          go_wp2
          go_ret
          exact⟨by rw[HY.out];rfl,rfl⟩
        · have hr':(r==92)=false:=by rw[beq_eq_false_iff_ne];exact hr
          have HM:=Lib.hid (res_more HNO.out (show r≠resT.getD 8 0 from hr))
          clear h10 hi hr
          go_wp2
          go_round
          case rel=>exact⟨9,by omega,by go_num,HM.out⟩
          case measure=>simp[intOf]
      · have hB:=Go.PlainAid.get_bt ⟨#[34,37,42,47,58,60,62,63,92,124]⟩
        have hb:Go.PlainAid.bt ⟨#[34,37,42,47,58,60,62,63,92,124]⟩ 9=124:=by decide +kernel
        by_cases hr:r=124
        · have HY:=Lib.hid (show X=true from H0.out.symm.trans (res_yes (by rw[hr];decide)))
          clear h10 hi
          subst hr
          go_wp2
          go_ret
          exact⟨by rw[HY.out];rfl,rfl⟩
        · have hr':(r==124)=false:=by rw[beq_eq_false_iff_ne];exact hr
          have HM:=Lib.hid (res_more HNO.out (show r≠resT.getD 9 0 from hr))
          clear h10 hi hr
          go_wp2
          go_round
          case rel=>exact⟨10,by omega,by go_num,HM.out⟩
          case measure=>simp[intOf]
end Go.Proofs.YtfioknaadbgjlaaGreatDoor.F
namespace Go.Proofs.YtfioknaadbgjlaaGreatDoor.F
open Go.RowKit
theorem below_drewN9 {B:Nat}{a w:World}(h:Below B a w):∀q,Below B a (w.drewN q)
  | 0=>h
  | q+1=>(below_drewN9 h q).drew
def hexT:List UInt8:=[48,49,50,51,52,53,54,55,56,57,97,98,99,100,101,102]
def escB (x:UInt8):List UInt8:=[37,hexT.getD (x.toNat/16) 0,hexT.getD (x.toNat%16) 0]
def escL (l:List UInt8):List UInt8:=l.flatMap escB
theorem hex_at:∀u:Nat,u<16→((⟨#[48,49,50,51,52,53,54,55,56,57,97,98,99,100,101,102]⟩:ByteArray).extract u (u+1)).data.toList=[hexT.getD u 0]:=by decide +kernel
theorem escL_length:∀l:List UInt8,(escL l).length=3*l.length
  | []=>rfl
  | x::l=>by
    have ih:=escL_length l
    simp only[escL,List.flatMap_cons,List.length_append]at ih ⊢
    rw[ih];simp[escB];omega
theorem esc_step {b:ByteArray}{i x:Nat}(hi:i<b.size)(hx:Go.PlainAid.bt b i=(x:Int)):escL (b.data.toList.take (i+1))=escL (b.data.toList.take i)++[37,hexT.getD (x/16) 0,hexT.getD (x%16) 0]:=by
  have hl:i<b.data.toList.length:=by simpa using hi
  have h1:=Go.PlainAid.get_bt b i hi
  rw[hx]at h1
  have h2:(b[i]'hi).toNat=x:=by omega
  have h3:b.data.toList[i]=b[i]'hi:=by simp[ByteArray.getElem_eq_getElem_data]
  rw[List.take_add_one,List.getElem?_eq_getElem hl,h3]
  simp only[escL,List.flatMap_append,Option.toList_some,List.flatMap_cons,List.flatMap_nil,List.append_nil,escB,h2]
def EscRel (b:ByteArray)(w0:World)(sv iv:Value)(wr:World):Prop:=
  ∃(i:Nat) (s:ByteArray),i≤b.size∧sv=.string s∧iv=.int .i64 i∧s.data.toList=escL (b.data.toList.take i)∧∃q,wr=w0.drewN q
set_option maxHeartbeats 2000000 in
theorem refEsc_c (b:ByteArray)(hs:b.size≤100000)(w:World):Calls Tryz.prog 163 #[.string b] w fun e w'=>(∃s:ByteArray,e=.returned (.string s)∧s.data.toList=escL b.data.toList)∧Below w.heap.size w w':=by
  have hB:=Go.PlainAid.get_bt b
  go_enter Tryz.func163,Tryz.ntmps163
  go_wp2
  go_loopw [3,5] (fun sv iv wr=>EscRel b w sv iv wr) (fun _ iv _=>b.size-(intOf iv).toNat)
  case atStart=>exact⟨0,⟨#[]⟩,by omega,rfl,rfl,by simp[escL],0,rfl⟩
  case round =>
    obtain⟨i,s,hi,rfl,rfl,hsl,q,rfl⟩:=hrel
    have HSL:=Lib.hid hsl
    have hss:s.size≤300000:=by
      have h1:=congrArg List.length hsl
      rw[escL_length,List.length_take]at h1
      simp at h1
      omega
    clear hsl
    by_cases hlt:i<b.size
    · have hz:(i:Int)<(b.size:Int):=by omega
      obtain⟨A,hA⟩:∃A:Int,Go.PlainAid.bt b i=A:=⟨_,rfl⟩
      have a0:0≤A:=by have:=Go.PlainAid.bt_nonneg b i;omega
      have a1:A≤255:=by have:=Go.PlainAid.bt_le b i;omega
      obtain⟨x,hx⟩:∃x:Nat,A=(x:Int):=⟨A.toNat,by omega⟩
      subst hx
      obtain⟨u,hu⟩:∃u:Nat,x/16=u:=⟨_,rfl⟩
      obtain⟨v,hv⟩:∃v:Nat,x%16=v:=⟨_,rfl⟩
      have hu1:(x:Int)/16=(u:Int):=by omega
      have hv1:(x:Int)%16=(v:Int):=by omega
      have hu9:u≤15:=by omega
      have hv9:v≤15:=by omega
      have wu:IntKind.u8.wrap ((u:Int)+1)=((u+1:Nat):Int):=by rw[IntKind.wrap_u8];omega
      have wv:IntKind.u8.wrap ((v:Int)+1)=((v+1:Nat):Int):=by rw[IntKind.wrap_u8];omega
      have u0:(0:Int)≤(u:Int):=by omega
      have v0:(0:Int)≤(v:Int):=by omega
      have u1:(u:Int)≤((u+1:Nat):Int):=by omega
      have v1:(v:Int)≤((v+1:Nat):Int):=by omega
      have u2:((u+1:Nat):Int)≤16:=by omega
      have v2:((v+1:Nat):Int)≤16:=by omega
      have HU:=hex_at u (by omega)
      have HV:=hex_at v (by omega)
      have HST:=Lib.hid (esc_step hlt hA)
      rw[hu,hv]at HST
      have HR:Hid (∀nq,EscRel b w (.string (s++(⟨#[37]⟩++(⟨#[48,49,50,51,52,53,54,55,56,57,97,98,99,100,101,102]⟩:ByteArray).extract u (u+1)++(⟨#[48,49,50,51,52,53,54,55,56,57,97,98,99,100,101,102]⟩:ByteArray).extract v (v+1)))) (.int .i64 ((i+1:Nat):Int)) ((w.drewN q).drewN nq)):=Lib.hid fun nq =>
        ⟨i+1,_,by omega,rfl,rfl,by rw[HST.out,←HSL.out];simp only[ByteArray.data_append,Array.toList_append,HU,HV];simp,q+nq,by rw[World.drewN_drewN]⟩
      have wi:IntKind.i64.wrap ((i:Int)+1)=((i+1:Nat):Int):=by rw[IntKind.wrap_i64];omega
      clear HU HV hu hv
      generalize w.drewN q=wq at *
      go_wp2
      go_quiet (fail)
      go_wp2
      go_roundw
      case rel=>exact HR.out _
      case measure=>simp[intOf];omega
    · have hie:i=b.size:=by omega
      have HX:=Lib.hid (show s.data.toList=escL b.data.toList by rw[HSL.out,List.take_of_length_le (by simp;omega)])
      have hge:¬((i:Int)<(b.size:Int)):=by omega
      clear hie hlt
      go_wp2
      go_ret
      exact⟨⟨s,rfl,HX.out⟩,below_drewN9 (Below.refl _ _) q⟩
end Go.Proofs.YtfioknaadbgjlaaGreatDoor.F
namespace Go.Proofs.YtfioknaadbgjlaaGreatDoor.F
open Go.RowKit Go.Sort
def regularB (l:List UInt8):Bool:=match runesL l with
  | none=>false
  | some rs=>decide (apartI rs=rs)
theorem runesL_isR:∀(n:Nat) (l:List UInt8) (rs:List Int),l.length≤n→runesL l=some rs→∀x∈rs,isR x=true
  | n,[],rs,_,h,x,hx=>by rw[runesL_nil]at h;cases h;cases hx
  | 0,a::l,rs,h0,_,_,_=>by simp at h0
  | n+1,a::l,rs,hn,h,x,hx=>by
    rw[runesL_step (by simp)]at h
    rcases nextL_facts (a::l) with h0|⟨_,hd,hR,h1,h4,hle,he⟩
    · rw[h0,if_pos rfl]at h;cases h
    · rw[if_neg (by omega)]at h
      obtain⟨rest,hr,rfl⟩:=Option.map_eq_some_iff.1 h
      rcases List.mem_cons.1 hx with rfl|hx
      · exact hR
      · exact runesL_isR n _ rest (by rw[List.length_drop];simp at hn ⊢;omega) hr x hx
theorem runes_fit {l:List UInt8}{rs:List Int}(h:runesL l=some rs):Fits rs∧rs.length≤l.length:=
  ⟨fun x hx=>by have:=isR_is (runesL_isR l.length l rs (Nat.le_refl _) h x hx);omega,runesL_len l.length l rs (Nat.le_refl _) h⟩
theorem runes_none {l:List UInt8}(h:runesL l=some []):l=[]:=by
  cases l with
  | nil=>rfl
  | cons a l =>
    rw[runesL_step (by simp)]at h
    split at h
    · cases h
    · obtain⟨rest,_,h'⟩:=Option.map_eq_some_iff.1 h
      cases h'
theorem SliceIs.ok {w:World}{v:Value}{l:List Int}(h:SliceIs w v l)(hne:l≠[]):SliceOk w v l:=by
  refine⟨h,?_⟩
  rcases h with⟨h0,_⟩|⟨g,off,cap,_,hv,_⟩
  · exact absurd h0 hne
  · exact Or.inr ⟨_,cap,hv⟩
set_option maxHeartbeats 1000000 in
theorem refAll_empty (w:World):Calls Tryz.prog 190 #[.string ⟨#[]⟩] w fun e w'=>e=.returned (.tuple #[.slice none 0 0,.bool true])∧Below w.heap.size w w':=by
  go_enter Tryz.func190,Tryz.ntmps190
  go_wp2
  refine wp_loop_rounds 1 ?_
  rw[rounds_succ]
  go_wp2
  go_ret2
  exact⟨rfl,Below.refl _ _⟩
theorem refAll_ok (b:ByteArray)(rs:List Int)(hr:runesL b.data.toList=some rs)(hs:b.size≤4000)(w:World) :
    Calls Tryz.prog 190 #[.string b] w fun e w'=>∃v,e=.returned (.tuple #[v,.bool true])∧SliceOk w' v rs∧Below w.heap.size w w':=by
  by_cases h0:rs=[]
  · subst h0
    have hb:b=⟨#[]⟩:=ByteArray.ext (Array.toList_inj.1 (runes_none hr))
    subst hb
    refine(refAll_empty w).mono ?_
    rintro e w' ⟨rfl,hb⟩
    exact⟨_,rfl,SliceOk.nil _,hb⟩
  · refine(refAll_c b hs w).mono ?_
    rintro e w' ⟨v,he,hs1,hb⟩
    rw[hr]at he hs1
    exact⟨v,he,SliceIs.ok hs1 h0,hb⟩
set_option maxHeartbeats 1000000 in
theorem regular_c (b:ByteArray)(hs:b.size≤300)(w:World):Calls Tryz.prog 158 #[.string b] w fun e w'=>e=.returned (.bool (regularB b.data.toList))∧Below w.heap.size w w':=by
  have cA:=refAll_c b (by omega) w
  have hz:b.data.toList.length=b.size:=by simp
  cases hr:runesL b.data.toList with
  | none =>
    have HX:=Lib.hid (show regularB b.data.toList=false by unfold regularB;rw[hr])
    rw[hr]at cA
    clear hr hz
    go_enter Tryz.func158,Tryz.ntmps158
    go_wp2_with fail
    refine cA.mono ?_
    rintro e w1 ⟨v1,he,hs1,hb1⟩
    have he':e=.returned (.tuple #[v1,.bool false]):=he
    subst he'
    clear he hs1 cA
    go_wp2
    go_ret
    exact⟨by rw[HX.out];rfl,hb1⟩
  | some rs =>
    have HX:=Lib.hid (show regularB b.data.toList=decide (apartI rs=rs) by unfold regularB;rw[hr])
    obtain⟨hf,hl⟩:=runes_fit hr
    have HF:=Lib.hid hf
    have HL:Hid (rs.length≤300):=Lib.hid (by omega)
    have cO:=refAll_ok b rs hr (by omega) w
    clear hr hz hf hl cA
    go_enter Tryz.func158,Tryz.ntmps158
    go_wp2_with fail
    refine cO.mono ?_
    rintro e w1 ⟨v1,rfl,hs1,hb1⟩
    have cR:=refApart_c rs v1 w1 hs1 HL.out HF.out
    unfold ApartPost at cR
    clear cO
    go_wp2_with fail
    refine cR.mono ?_
    rintro e w2 ⟨v2,rfl,hs2,_,hb2⟩
    have cS:=same_c hs2 (hs1.1.kept hb2) (by have:=apart_length rs;have:=HL.out;omega)
    have hb12:=below_step hb1 hb2
    generalize decide (apartI rs=rs)=D at *
    clear cR hs1 hs2 hb1 hb2
    go_wp2_with fail
    refine cS.mono ?_
    rintro e w3 ⟨rfl,hb3⟩
    have HB:=Lib.hid (below_step hb12 hb3)
    clear hb12 hb3 cS
    go_wp2
    go_ret
    exact⟨by rw[HX.out];rfl,HB.out⟩
def joinedI (hfs:Bool)(l:List Int):List Int:=if hfs=true then togI l else l
set_option maxHeartbeats 1000000 in
theorem joined_c (enc:Int)(good:Bool)(l:List Int)(v:Value)(w:World)(hv:SliceIs w v l)(hs:l.length≤300)(hf:Fits l) :
    Calls Tryz.prog 162 #[.int .i64 enc,.bool good,v] w fun e w'=>e=.returned (.string ⟨(joinL (joinedI (decide (enc=8)&&good) l)).toArray⟩)∧Below w.heap.size w w':=by
  have HV:=Lib.hid hv
  by_cases h8:enc=8∧good=true
  · obtain⟨rfl,rfl⟩:=h8
    have HX:=Lib.hid (show joinedI (decide ((8:Int)=8)&&true) l=togI l from rfl)
    have cT:=refTog_c l v w hv hs hf
    unfold TogPost at cT
    have HJ:Hid (∀w1 v1,SliceIs w1 v1 (togI l)→Calls Tryz.prog 198 #[v1] w1 fun e w'=>e=.returned (.string ⟨(joinL (togI l)).toArray⟩)∧Below w1.heap.size w1 w'):=Lib.hid fun w1 v1 h=>refJoin_c h (by have:=togI_length l;omega)
    rw[HX.out]
    clear hv hs hf
    go_enter Tryz.func162,Tryz.ntmps162
    go_wp2_with fail
    refine cT.mono ?_
    rintro e w1 ⟨v1,rfl,hs1,hb1⟩
    have cJ:=HJ.out w1 v1 hs1
    clear cT hs1
    go_wp2_with fail
    refine cJ.mono ?_
    rintro e w2 ⟨rfl,hb2⟩
    have HB:=Lib.hid (below_step hb1 hb2)
    clear hb1 hb2 cJ
    go_wp2
    go_ret
    exact⟨rfl,HB.out⟩
  · have hd:(decide (enc=8)&&good)=false:=by
      cases good
      · simp
      · simp at h8 ⊢;exact h8
    have HX:=Lib.hid (show joinedI (decide (enc=8)&&good) l=l by rw[hd];rfl)
    rw[HX.out]
    have cJ:=refJoin_c hv (by omega)
    clear hv hs hf hd
    by_cases he8:enc=8
    · have hg:good=false:=by cases good with|false=>rfl|true=>exact absurd ⟨he8,rfl⟩ h8
      subst he8 hg
      clear h8
      go_enter Tryz.func162,Tryz.ntmps162
      go_wp2_with fail
      refine cJ.mono ?_
      rintro e w2 ⟨rfl,hb2⟩
      go_wp2
      go_ret
      exact⟨rfl,hb2⟩
    · have he:(enc==8)=false:=by rw[beq_eq_false_iff_ne];exact he8
      clear h8
      go_enter Tryz.func162,Tryz.ntmps162
      go_wp2_with fail
      refine cJ.mono ?_
      rintro e w2 ⟨rfl,hb2⟩
      go_wp2
      go_ret
      exact⟨rfl,hb2⟩
end Go.Proofs.YtfioknaadbgjlaaGreatDoor.F
