/- Kit. -/
import Derived.Test.YtfioknaadbgjlaaGreatDoorNK1
import Derived.Test.YtfioknaadbgjlaaGreatDoorNK2
set_option maxRecDepth 100000
set_option linter.unusedVariables false
set_option linter.unusedSimpArgs false
namespace Go.Proofs.YtfioknaadbgjlaaGreatDoor.F
open Go.RowKit
set_option maxHeartbeats 1000000 in
theorem nth_c (b:ByteArray)(rs:List Int)(n:Int)(hr:runesL b.data.toList=some rs)(hs:b.size≤4000)(hn:-1000≤n)(hn':n≤1000)(w:World) :
    Calls Tryz.prog 216 #[.string b,.int .i64 n] w fun e w'=>e=.returned (.int .i64 (nthI rs n))∧Below w.heap.size w w':=by
  have cA:=refAll_c b hs w
  rw[hr]at cA
  have hch:=runesL_chars _ _ rs (Nat.le_refl _) hr
  clear hr hs
  by_cases h0:n<0
  · have HX:=Lib.hid (show nthI rs n=-1 by unfold nthI;rw[if_pos (Or.inl h0)])
    go_enter Tryz.func216,Tryz.ntmps216
    go_wp2_with fail
    refine cA.mono ?_
    rintro e w1 ⟨v,he,hsl,hb⟩
    have he':e=.returned (.tuple #[v,.bool true]):=he
    subst he'
    clear he hsl
    go_wp2
    go_ret
    exact⟨by rw[HX.out];rfl,hb⟩
  · by_cases h1:(rs.length:Int)≤n
    · have HX:=Lib.hid (show nthI rs n=-1 by unfold nthI;rw[if_pos (Or.inr h1)])
      go_enter Tryz.func216,Tryz.ntmps216
      go_wp2_with fail
      refine cA.mono ?_
      rintro e w1 ⟨v,he,hsl,hb⟩
      have he':e=.returned (.tuple #[v,.bool true]):=he
      subst he'
      obtain⟨a,cap,hv⟩:=hsl.len
      have hv':v=.slice a rs.length cap:=hv
      subst hv'
      clear he hsl hv
      go_wp2
      go_ret
      exact⟨by rw[HX.out];rfl,hb⟩
    · obtain⟨k,rfl⟩:∃k:Nat,n=(k:Int):=⟨n.toNat,by omega⟩
      have hk:k<rs.length:=by omega
      obtain⟨x,hx⟩:∃x,rs.getD k 0=x:=⟨_,rfl⟩
      have HX:=Lib.hid (show nthI rs (k:Int)=x by
        unfold nthI
        rw[if_neg (by omega),show((k:Int)).toNat=k by omega,hx])
      have hxr:=isR_is (hch x (by rw[←hx,List.getD_eq_getElem?_getD,List.getElem?_eq_getElem hk];exact List.getElem_mem hk))
      have hx0:0≤x:=by omega
      have hx1:x≤1114111:=by omega
      clear hxr hch
      have hkz:(k:Int)<(rs.length:Int):=by omega
      clear h1 h0
      go_enter Tryz.func216,Tryz.ntmps216
      go_wp2_with fail
      refine cA.mono ?_
      rintro e w1 ⟨v,he,hsl,hb⟩
      have he':e=.returned (.tuple #[v,.bool true]):=he
      subst he'
      rcases hsl with⟨hnil,_⟩|⟨g,off,cap,hg,hv,hc⟩
      · have:rs=[]:=hnil
        rw[this]at hk
        simp at hk
      · have hv':v=.slice (some ⟨g,off,none⟩) rs.length cap:=hv
        subst hv'
        have c1:w1.cell? ⟨g,off+k,none⟩=some (.int .i32 x):=by rw[hc k hk];exact congrArg some (by rw[←hx];rfl)
        clear he hc hx hv hg
        go_wp2
        go_ret
        exact⟨by rw[HX.out];rfl,hb⟩
theorem rows_latin2 (n:Int)(b:ByteArray)(hb:b.data.toList=joinL latin2R)(hn:-1000≤n)(hn':n≤1000)(w:World) :
    Calls Tryz.prog 216 #[.string b,.int .i64 n] w fun e w'=>e=.returned (.int .i64 (nthI latin2R n))∧Below w.heap.size w w':=
  nth_c b latin2R n (by rw[hb,runes_join];decide +kernel) (by
    have h1:=joinL_length latin2R
    have h2:b.data.toList.length=b.size:=by simp
    rw[hb]at h2
    have h3:latin2R.length=96:=rfl
    omega) hn hn' w
theorem rows_cp437 (n:Int)(b:ByteArray)(hb:b.data.toList=joinL cp437R)(hn:-1000≤n)(hn':n≤1000)(w:World) :
    Calls Tryz.prog 216 #[.string b,.int .i64 n] w fun e w'=>e=.returned (.int .i64 (nthI cp437R n))∧Below w.heap.size w w':=
  nth_c b cp437R n (by rw[hb,runes_join];decide +kernel) (by
    have h1:=joinL_length cp437R
    have h2:b.data.toList.length=b.size:=by simp
    rw[hb]at h2
    have h3:cp437R.length=128:=rfl
    omega) hn hn' w
theorem rows_cp850 (n:Int)(b:ByteArray)(hb:b.data.toList=joinL cp850R)(hn:-1000≤n)(hn':n≤1000)(w:World) :
    Calls Tryz.prog 216 #[.string b,.int .i64 n] w fun e w'=>e=.returned (.int .i64 (nthI cp850R n))∧Below w.heap.size w w':=
  nth_c b cp850R n (by rw[hb,runes_join];decide +kernel) (by
    have h1:=joinL_length cp850R
    have h2:b.data.toList.length=b.size:=by simp
    rw[hb]at h2
    have h3:cp850R.length=128:=rfl
    omega) hn hn' w
set_option maxHeartbeats 1000000 in
theorem one_low (enc b:Int)(h2:b<128)(w:World):Calls Tryz.prog 195 #[.int .i64 enc,.int .i64 b] w fun e w'=>e=.returned (.int .i64 (oneI enc b))∧Below w.heap.size w w':=by
  have HX:=Lib.hid (show oneI enc b=b by unfold oneI;rw[if_pos (Or.inl h2)])
  go_enter Tryz.func195,Tryz.ntmps195
  go_wp2
  go_ret
  exact⟨by rw[HX.out];rfl,Below.refl _ _⟩
set_option maxHeartbeats 1000000 in
theorem one_0 (b:Int)(h1:128≤b)(h2:b≤255)(w:World):Calls Tryz.prog 195 #[.int .i64 0,.int .i64 b] w fun e w'=>e=.returned (.int .i64 (oneI 0 b))∧Below w.heap.size w w':=by
  have HX:=Lib.hid (show oneI 0 b=-1 by unfold oneI;(repeat' split)<;>first|rfl|omega)
  have t0:¬(b<(128:Int)):=by omega
  go_enter Tryz.func195,Tryz.ntmps195
  go_wp2
  go_ret
  exact⟨by rw[HX.out];rfl,Below.refl _ _⟩
set_option maxHeartbeats 1000000 in
theorem one_1 (b:Int)(h1:128≤b)(h2:b≤255)(w:World):Calls Tryz.prog 195 #[.int .i64 1,.int .i64 b] w fun e w'=>e=.returned (.int .i64 (oneI 1 b))∧Below w.heap.size w w':=by
  have HX:=Lib.hid (show oneI 1 b=b by unfold oneI;(repeat' split)<;>first|rfl|omega)
  have t0:¬(b<(128:Int)):=by omega
  go_enter Tryz.func195,Tryz.ntmps195
  go_wp2
  go_ret
  exact⟨by rw[HX.out];rfl,Below.refl _ _⟩
set_option maxHeartbeats 1000000 in
theorem one_2a (b:Int)(h1:128≤b)(h2:b≤159)(w:World):Calls Tryz.prog 195 #[.int .i64 2,.int .i64 b] w fun e w'=>e=.returned (.int .i64 (oneI 2 b))∧Below w.heap.size w w':=by
  have HX:=Lib.hid (show oneI 2 b=b by unfold oneI;(repeat' split)<;>first|rfl|omega)
  have t0:¬(b<(128:Int)):=by omega
  have t1:b<(160:Int):=by omega
  go_enter Tryz.func195,Tryz.ntmps195
  go_wp2
  go_ret
  exact⟨by rw[HX.out];rfl,Below.refl _ _⟩
set_option maxHeartbeats 1000000 in
theorem one_2b (b:Int)(h1:160≤b)(h2:b≤255)(w:World):Calls Tryz.prog 195 #[.int .i64 2,.int .i64 b] w fun e w'=>e=.returned (.int .i64 (oneI 2 b))∧Below w.heap.size w w':=by
  have HX:=Lib.hid (show oneI 2 b=nthI latin2R (b-160) by unfold oneI;(repeat' split)<;>first|rfl|omega)
  have t0:¬(b<(128:Int)):=by omega
  have t1:¬(b<(160:Int)):=by omega
  go_enter Tryz.func195,Tryz.ntmps195
  go_wp2_with (go_at_call 216;refine(rows_latin2 _ _ (by decide +kernel) (by omega) (by omega) _).mono ?_;rintro e w' ⟨rfl,hb⟩)
  go_ret
  exact⟨by rw[HX.out];rfl,hb⟩
set_option maxHeartbeats 1000000 in
theorem one_4 (b:Int)(h1:128≤b)(h2:b≤255)(w:World):Calls Tryz.prog 195 #[.int .i64 4,.int .i64 b] w fun e w'=>e=.returned (.int .i64 (oneI 4 b))∧Below w.heap.size w w':=by
  have HX:=Lib.hid (show oneI 4 b=nthI cp437R (b-128) by unfold oneI;(repeat' split)<;>first|rfl|omega)
  have t0:¬(b<(128:Int)):=by omega
  go_enter Tryz.func195,Tryz.ntmps195
  go_wp2_with (go_at_call 216;refine(rows_cp437 _ _ (by decide +kernel) (by omega) (by omega) _).mono ?_;rintro e w' ⟨rfl,hb⟩)
  go_ret
  exact⟨by rw[HX.out];rfl,hb⟩
set_option maxHeartbeats 1000000 in
theorem one_5 (b:Int)(h1:128≤b)(h2:b≤255)(w:World):Calls Tryz.prog 195 #[.int .i64 5,.int .i64 b] w fun e w'=>e=.returned (.int .i64 (oneI 5 b))∧Below w.heap.size w w':=by
  have HX:=Lib.hid (show oneI 5 b=nthI cp850R (b-128) by unfold oneI;(repeat' split)<;>first|rfl|omega)
  have t0:¬(b<(128:Int)):=by omega
  go_enter Tryz.func195,Tryz.ntmps195
  go_wp2_with (go_at_call 216;refine(rows_cp850 _ _ (by decide +kernel) (by omega) (by omega) _).mono ?_;rintro e w' ⟨rfl,hb⟩)
  go_ret
  exact⟨by rw[HX.out];rfl,hb⟩
set_option maxHeartbeats 1000000 in
theorem one_6a (b:Int)(h1:128≤b)(h2:b≤160)(w:World):Calls Tryz.prog 195 #[.int .i64 6,.int .i64 b] w fun e w'=>e=.returned (.int .i64 (oneI 6 b))∧Below w.heap.size w w':=by
  have HX:=Lib.hid (show oneI 6 b=-1 by unfold oneI;(repeat' split)<;>first|rfl|omega)
  have t0:¬(b<(128:Int)):=by omega
  have t1:¬((161:Int)≤b):=by omega
  have t2:b≤(223:Int):=by omega
  go_enter Tryz.func195,Tryz.ntmps195
  go_wp2
  go_ret
  exact⟨by rw[HX.out];rfl,Below.refl _ _⟩
set_option maxHeartbeats 1000000 in
theorem one_6b (b:Int)(h1:161≤b)(h2:b≤223)(w:World):Calls Tryz.prog 195 #[.int .i64 6,.int .i64 b] w fun e w'=>e=.returned (.int .i64 (oneI 6 b))∧Below w.heap.size w w':=by
  have HX:=Lib.hid (show oneI 6 b=65377+b-161 by unfold oneI;(repeat' split)<;>first|rfl|omega)
  have t0:¬(b<(128:Int)):=by omega
  have t1:(161:Int)≤b:=by omega
  have t2:b≤(223:Int):=by omega
  go_enter Tryz.func195,Tryz.ntmps195
  go_wp2
  go_ret
  exact⟨by rw[HX.out];rfl,Below.refl _ _⟩
set_option maxHeartbeats 1000000 in
theorem one_6c (b:Int)(h1:224≤b)(h2:b≤255)(w:World):Calls Tryz.prog 195 #[.int .i64 6,.int .i64 b] w fun e w'=>e=.returned (.int .i64 (oneI 6 b))∧Below w.heap.size w w':=by
  have HX:=Lib.hid (show oneI 6 b=-1 by unfold oneI;(repeat' split)<;>first|rfl|omega)
  have t0:¬(b<(128:Int)):=by omega
  have t1:(161:Int)≤b:=by omega
  have t2:¬(b≤(223:Int)):=by omega
  go_enter Tryz.func195,Tryz.ntmps195
  go_wp2
  go_ret
  exact⟨by rw[HX.out];rfl,Below.refl _ _⟩
set_option maxHeartbeats 1000000 in
theorem one_3_164 (w:World):Calls Tryz.prog 195 #[.int .i64 3,.int .i64 164] w fun e w'=>e=.returned (.int .i64 8364)∧Below w.heap.size w w':=by
  have ia0:∀w:World,(Instr.index 258 (.agg #[.int .i64 164,.int .i64 166,.int .i64 168,.int .i64 180,.int .i64 184,.int .i64 188,.int .i64 189,.int .i64 190]) (.int .i64 0)).run Tryz.prog w=.ok (.int .i64 164) w:=fun _=>by kernel_rfl
  have ia1:∀w:World,(Instr.index 258 (.agg #[.int .i64 164,.int .i64 166,.int .i64 168,.int .i64 180,.int .i64 184,.int .i64 188,.int .i64 189,.int .i64 190]) (.int .i64 1)).run Tryz.prog w=.ok (.int .i64 166) w:=fun _=>by kernel_rfl
  have ia2:∀w:World,(Instr.index 258 (.agg #[.int .i64 164,.int .i64 166,.int .i64 168,.int .i64 180,.int .i64 184,.int .i64 188,.int .i64 189,.int .i64 190]) (.int .i64 2)).run Tryz.prog w=.ok (.int .i64 168) w:=fun _=>by kernel_rfl
  have ia3:∀w:World,(Instr.index 258 (.agg #[.int .i64 164,.int .i64 166,.int .i64 168,.int .i64 180,.int .i64 184,.int .i64 188,.int .i64 189,.int .i64 190]) (.int .i64 3)).run Tryz.prog w=.ok (.int .i64 180) w:=fun _=>by kernel_rfl
  have ia4:∀w:World,(Instr.index 258 (.agg #[.int .i64 164,.int .i64 166,.int .i64 168,.int .i64 180,.int .i64 184,.int .i64 188,.int .i64 189,.int .i64 190]) (.int .i64 4)).run Tryz.prog w=.ok (.int .i64 184) w:=fun _=>by kernel_rfl
  have ia5:∀w:World,(Instr.index 258 (.agg #[.int .i64 164,.int .i64 166,.int .i64 168,.int .i64 180,.int .i64 184,.int .i64 188,.int .i64 189,.int .i64 190]) (.int .i64 5)).run Tryz.prog w=.ok (.int .i64 188) w:=fun _=>by kernel_rfl
  have ia6:∀w:World,(Instr.index 258 (.agg #[.int .i64 164,.int .i64 166,.int .i64 168,.int .i64 180,.int .i64 184,.int .i64 188,.int .i64 189,.int .i64 190]) (.int .i64 6)).run Tryz.prog w=.ok (.int .i64 189) w:=fun _=>by kernel_rfl
  have ia7:∀w:World,(Instr.index 258 (.agg #[.int .i64 164,.int .i64 166,.int .i64 168,.int .i64 180,.int .i64 184,.int .i64 188,.int .i64 189,.int .i64 190]) (.int .i64 7)).run Tryz.prog w=.ok (.int .i64 190) w:=fun _=>by kernel_rfl
  have ib0:∀w:World,(Instr.index 258 (.agg #[.int .i64 8364,.int .i64 352,.int .i64 353,.int .i64 381,.int .i64 382,.int .i64 338,.int .i64 339,.int .i64 376]) (.int .i64 0)).run Tryz.prog w=.ok (.int .i64 8364) w:=fun _=>by kernel_rfl
  go_enter Tryz.func195,Tryz.ntmps195
  go_wp2
  go_rounds 1
  go_ret
  exact⟨rfl,Below.refl _ _⟩
set_option maxHeartbeats 1000000 in
theorem one_3_166 (w:World):Calls Tryz.prog 195 #[.int .i64 3,.int .i64 166] w fun e w'=>e=.returned (.int .i64 352)∧Below w.heap.size w w':=by
  have ia0:∀w:World,(Instr.index 258 (.agg #[.int .i64 164,.int .i64 166,.int .i64 168,.int .i64 180,.int .i64 184,.int .i64 188,.int .i64 189,.int .i64 190]) (.int .i64 0)).run Tryz.prog w=.ok (.int .i64 164) w:=fun _=>by kernel_rfl
  have ia1:∀w:World,(Instr.index 258 (.agg #[.int .i64 164,.int .i64 166,.int .i64 168,.int .i64 180,.int .i64 184,.int .i64 188,.int .i64 189,.int .i64 190]) (.int .i64 1)).run Tryz.prog w=.ok (.int .i64 166) w:=fun _=>by kernel_rfl
  have ia2:∀w:World,(Instr.index 258 (.agg #[.int .i64 164,.int .i64 166,.int .i64 168,.int .i64 180,.int .i64 184,.int .i64 188,.int .i64 189,.int .i64 190]) (.int .i64 2)).run Tryz.prog w=.ok (.int .i64 168) w:=fun _=>by kernel_rfl
  have ia3:∀w:World,(Instr.index 258 (.agg #[.int .i64 164,.int .i64 166,.int .i64 168,.int .i64 180,.int .i64 184,.int .i64 188,.int .i64 189,.int .i64 190]) (.int .i64 3)).run Tryz.prog w=.ok (.int .i64 180) w:=fun _=>by kernel_rfl
  have ia4:∀w:World,(Instr.index 258 (.agg #[.int .i64 164,.int .i64 166,.int .i64 168,.int .i64 180,.int .i64 184,.int .i64 188,.int .i64 189,.int .i64 190]) (.int .i64 4)).run Tryz.prog w=.ok (.int .i64 184) w:=fun _=>by kernel_rfl
  have ia5:∀w:World,(Instr.index 258 (.agg #[.int .i64 164,.int .i64 166,.int .i64 168,.int .i64 180,.int .i64 184,.int .i64 188,.int .i64 189,.int .i64 190]) (.int .i64 5)).run Tryz.prog w=.ok (.int .i64 188) w:=fun _=>by kernel_rfl
  have ia6:∀w:World,(Instr.index 258 (.agg #[.int .i64 164,.int .i64 166,.int .i64 168,.int .i64 180,.int .i64 184,.int .i64 188,.int .i64 189,.int .i64 190]) (.int .i64 6)).run Tryz.prog w=.ok (.int .i64 189) w:=fun _=>by kernel_rfl
  have ia7:∀w:World,(Instr.index 258 (.agg #[.int .i64 164,.int .i64 166,.int .i64 168,.int .i64 180,.int .i64 184,.int .i64 188,.int .i64 189,.int .i64 190]) (.int .i64 7)).run Tryz.prog w=.ok (.int .i64 190) w:=fun _=>by kernel_rfl
  have ib1:∀w:World,(Instr.index 258 (.agg #[.int .i64 8364,.int .i64 352,.int .i64 353,.int .i64 381,.int .i64 382,.int .i64 338,.int .i64 339,.int .i64 376]) (.int .i64 1)).run Tryz.prog w=.ok (.int .i64 352) w:=fun _=>by kernel_rfl
  go_enter Tryz.func195,Tryz.ntmps195
  go_wp2
  go_rounds 2
  go_ret
  exact⟨rfl,Below.refl _ _⟩
set_option maxHeartbeats 1000000 in
theorem one_3_168 (w:World):Calls Tryz.prog 195 #[.int .i64 3,.int .i64 168] w fun e w'=>e=.returned (.int .i64 353)∧Below w.heap.size w w':=by
  have ia0:∀w:World,(Instr.index 258 (.agg #[.int .i64 164,.int .i64 166,.int .i64 168,.int .i64 180,.int .i64 184,.int .i64 188,.int .i64 189,.int .i64 190]) (.int .i64 0)).run Tryz.prog w=.ok (.int .i64 164) w:=fun _=>by kernel_rfl
  have ia1:∀w:World,(Instr.index 258 (.agg #[.int .i64 164,.int .i64 166,.int .i64 168,.int .i64 180,.int .i64 184,.int .i64 188,.int .i64 189,.int .i64 190]) (.int .i64 1)).run Tryz.prog w=.ok (.int .i64 166) w:=fun _=>by kernel_rfl
  have ia2:∀w:World,(Instr.index 258 (.agg #[.int .i64 164,.int .i64 166,.int .i64 168,.int .i64 180,.int .i64 184,.int .i64 188,.int .i64 189,.int .i64 190]) (.int .i64 2)).run Tryz.prog w=.ok (.int .i64 168) w:=fun _=>by kernel_rfl
  have ia3:∀w:World,(Instr.index 258 (.agg #[.int .i64 164,.int .i64 166,.int .i64 168,.int .i64 180,.int .i64 184,.int .i64 188,.int .i64 189,.int .i64 190]) (.int .i64 3)).run Tryz.prog w=.ok (.int .i64 180) w:=fun _=>by kernel_rfl
  have ia4:∀w:World,(Instr.index 258 (.agg #[.int .i64 164,.int .i64 166,.int .i64 168,.int .i64 180,.int .i64 184,.int .i64 188,.int .i64 189,.int .i64 190]) (.int .i64 4)).run Tryz.prog w=.ok (.int .i64 184) w:=fun _=>by kernel_rfl
  have ia5:∀w:World,(Instr.index 258 (.agg #[.int .i64 164,.int .i64 166,.int .i64 168,.int .i64 180,.int .i64 184,.int .i64 188,.int .i64 189,.int .i64 190]) (.int .i64 5)).run Tryz.prog w=.ok (.int .i64 188) w:=fun _=>by kernel_rfl
  have ia6:∀w:World,(Instr.index 258 (.agg #[.int .i64 164,.int .i64 166,.int .i64 168,.int .i64 180,.int .i64 184,.int .i64 188,.int .i64 189,.int .i64 190]) (.int .i64 6)).run Tryz.prog w=.ok (.int .i64 189) w:=fun _=>by kernel_rfl
  have ia7:∀w:World,(Instr.index 258 (.agg #[.int .i64 164,.int .i64 166,.int .i64 168,.int .i64 180,.int .i64 184,.int .i64 188,.int .i64 189,.int .i64 190]) (.int .i64 7)).run Tryz.prog w=.ok (.int .i64 190) w:=fun _=>by kernel_rfl
  have ib2:∀w:World,(Instr.index 258 (.agg #[.int .i64 8364,.int .i64 352,.int .i64 353,.int .i64 381,.int .i64 382,.int .i64 338,.int .i64 339,.int .i64 376]) (.int .i64 2)).run Tryz.prog w=.ok (.int .i64 353) w:=fun _=>by kernel_rfl
  go_enter Tryz.func195,Tryz.ntmps195
  go_wp2
  go_rounds 3
  go_ret
  exact⟨rfl,Below.refl _ _⟩
set_option maxHeartbeats 1000000 in
theorem one_3_180 (w:World):Calls Tryz.prog 195 #[.int .i64 3,.int .i64 180] w fun e w'=>e=.returned (.int .i64 381)∧Below w.heap.size w w':=by
  have ia0:∀w:World,(Instr.index 258 (.agg #[.int .i64 164,.int .i64 166,.int .i64 168,.int .i64 180,.int .i64 184,.int .i64 188,.int .i64 189,.int .i64 190]) (.int .i64 0)).run Tryz.prog w=.ok (.int .i64 164) w:=fun _=>by kernel_rfl
  have ia1:∀w:World,(Instr.index 258 (.agg #[.int .i64 164,.int .i64 166,.int .i64 168,.int .i64 180,.int .i64 184,.int .i64 188,.int .i64 189,.int .i64 190]) (.int .i64 1)).run Tryz.prog w=.ok (.int .i64 166) w:=fun _=>by kernel_rfl
  have ia2:∀w:World,(Instr.index 258 (.agg #[.int .i64 164,.int .i64 166,.int .i64 168,.int .i64 180,.int .i64 184,.int .i64 188,.int .i64 189,.int .i64 190]) (.int .i64 2)).run Tryz.prog w=.ok (.int .i64 168) w:=fun _=>by kernel_rfl
  have ia3:∀w:World,(Instr.index 258 (.agg #[.int .i64 164,.int .i64 166,.int .i64 168,.int .i64 180,.int .i64 184,.int .i64 188,.int .i64 189,.int .i64 190]) (.int .i64 3)).run Tryz.prog w=.ok (.int .i64 180) w:=fun _=>by kernel_rfl
  have ia4:∀w:World,(Instr.index 258 (.agg #[.int .i64 164,.int .i64 166,.int .i64 168,.int .i64 180,.int .i64 184,.int .i64 188,.int .i64 189,.int .i64 190]) (.int .i64 4)).run Tryz.prog w=.ok (.int .i64 184) w:=fun _=>by kernel_rfl
  have ia5:∀w:World,(Instr.index 258 (.agg #[.int .i64 164,.int .i64 166,.int .i64 168,.int .i64 180,.int .i64 184,.int .i64 188,.int .i64 189,.int .i64 190]) (.int .i64 5)).run Tryz.prog w=.ok (.int .i64 188) w:=fun _=>by kernel_rfl
  have ia6:∀w:World,(Instr.index 258 (.agg #[.int .i64 164,.int .i64 166,.int .i64 168,.int .i64 180,.int .i64 184,.int .i64 188,.int .i64 189,.int .i64 190]) (.int .i64 6)).run Tryz.prog w=.ok (.int .i64 189) w:=fun _=>by kernel_rfl
  have ia7:∀w:World,(Instr.index 258 (.agg #[.int .i64 164,.int .i64 166,.int .i64 168,.int .i64 180,.int .i64 184,.int .i64 188,.int .i64 189,.int .i64 190]) (.int .i64 7)).run Tryz.prog w=.ok (.int .i64 190) w:=fun _=>by kernel_rfl
  have ib3:∀w:World,(Instr.index 258 (.agg #[.int .i64 8364,.int .i64 352,.int .i64 353,.int .i64 381,.int .i64 382,.int .i64 338,.int .i64 339,.int .i64 376]) (.int .i64 3)).run Tryz.prog w=.ok (.int .i64 381) w:=fun _=>by kernel_rfl
  go_enter Tryz.func195,Tryz.ntmps195
  go_wp2
  go_rounds 4
  go_ret
  exact⟨rfl,Below.refl _ _⟩
set_option maxHeartbeats 1000000 in
theorem one_3_184 (w:World):Calls Tryz.prog 195 #[.int .i64 3,.int .i64 184] w fun e w'=>e=.returned (.int .i64 382)∧Below w.heap.size w w':=by
  have ia0:∀w:World,(Instr.index 258 (.agg #[.int .i64 164,.int .i64 166,.int .i64 168,.int .i64 180,.int .i64 184,.int .i64 188,.int .i64 189,.int .i64 190]) (.int .i64 0)).run Tryz.prog w=.ok (.int .i64 164) w:=fun _=>by kernel_rfl
  have ia1:∀w:World,(Instr.index 258 (.agg #[.int .i64 164,.int .i64 166,.int .i64 168,.int .i64 180,.int .i64 184,.int .i64 188,.int .i64 189,.int .i64 190]) (.int .i64 1)).run Tryz.prog w=.ok (.int .i64 166) w:=fun _=>by kernel_rfl
  have ia2:∀w:World,(Instr.index 258 (.agg #[.int .i64 164,.int .i64 166,.int .i64 168,.int .i64 180,.int .i64 184,.int .i64 188,.int .i64 189,.int .i64 190]) (.int .i64 2)).run Tryz.prog w=.ok (.int .i64 168) w:=fun _=>by kernel_rfl
  have ia3:∀w:World,(Instr.index 258 (.agg #[.int .i64 164,.int .i64 166,.int .i64 168,.int .i64 180,.int .i64 184,.int .i64 188,.int .i64 189,.int .i64 190]) (.int .i64 3)).run Tryz.prog w=.ok (.int .i64 180) w:=fun _=>by kernel_rfl
  have ia4:∀w:World,(Instr.index 258 (.agg #[.int .i64 164,.int .i64 166,.int .i64 168,.int .i64 180,.int .i64 184,.int .i64 188,.int .i64 189,.int .i64 190]) (.int .i64 4)).run Tryz.prog w=.ok (.int .i64 184) w:=fun _=>by kernel_rfl
  have ia5:∀w:World,(Instr.index 258 (.agg #[.int .i64 164,.int .i64 166,.int .i64 168,.int .i64 180,.int .i64 184,.int .i64 188,.int .i64 189,.int .i64 190]) (.int .i64 5)).run Tryz.prog w=.ok (.int .i64 188) w:=fun _=>by kernel_rfl
  have ia6:∀w:World,(Instr.index 258 (.agg #[.int .i64 164,.int .i64 166,.int .i64 168,.int .i64 180,.int .i64 184,.int .i64 188,.int .i64 189,.int .i64 190]) (.int .i64 6)).run Tryz.prog w=.ok (.int .i64 189) w:=fun _=>by kernel_rfl
  have ia7:∀w:World,(Instr.index 258 (.agg #[.int .i64 164,.int .i64 166,.int .i64 168,.int .i64 180,.int .i64 184,.int .i64 188,.int .i64 189,.int .i64 190]) (.int .i64 7)).run Tryz.prog w=.ok (.int .i64 190) w:=fun _=>by kernel_rfl
  have ib4:∀w:World,(Instr.index 258 (.agg #[.int .i64 8364,.int .i64 352,.int .i64 353,.int .i64 381,.int .i64 382,.int .i64 338,.int .i64 339,.int .i64 376]) (.int .i64 4)).run Tryz.prog w=.ok (.int .i64 382) w:=fun _=>by kernel_rfl
  go_enter Tryz.func195,Tryz.ntmps195
  go_wp2
  go_rounds 5
  go_ret
  exact⟨rfl,Below.refl _ _⟩
set_option maxHeartbeats 1000000 in
theorem one_3_188 (w:World):Calls Tryz.prog 195 #[.int .i64 3,.int .i64 188] w fun e w'=>e=.returned (.int .i64 338)∧Below w.heap.size w w':=by
  have ia0:∀w:World,(Instr.index 258 (.agg #[.int .i64 164,.int .i64 166,.int .i64 168,.int .i64 180,.int .i64 184,.int .i64 188,.int .i64 189,.int .i64 190]) (.int .i64 0)).run Tryz.prog w=.ok (.int .i64 164) w:=fun _=>by kernel_rfl
  have ia1:∀w:World,(Instr.index 258 (.agg #[.int .i64 164,.int .i64 166,.int .i64 168,.int .i64 180,.int .i64 184,.int .i64 188,.int .i64 189,.int .i64 190]) (.int .i64 1)).run Tryz.prog w=.ok (.int .i64 166) w:=fun _=>by kernel_rfl
  have ia2:∀w:World,(Instr.index 258 (.agg #[.int .i64 164,.int .i64 166,.int .i64 168,.int .i64 180,.int .i64 184,.int .i64 188,.int .i64 189,.int .i64 190]) (.int .i64 2)).run Tryz.prog w=.ok (.int .i64 168) w:=fun _=>by kernel_rfl
  have ia3:∀w:World,(Instr.index 258 (.agg #[.int .i64 164,.int .i64 166,.int .i64 168,.int .i64 180,.int .i64 184,.int .i64 188,.int .i64 189,.int .i64 190]) (.int .i64 3)).run Tryz.prog w=.ok (.int .i64 180) w:=fun _=>by kernel_rfl
  have ia4:∀w:World,(Instr.index 258 (.agg #[.int .i64 164,.int .i64 166,.int .i64 168,.int .i64 180,.int .i64 184,.int .i64 188,.int .i64 189,.int .i64 190]) (.int .i64 4)).run Tryz.prog w=.ok (.int .i64 184) w:=fun _=>by kernel_rfl
  have ia5:∀w:World,(Instr.index 258 (.agg #[.int .i64 164,.int .i64 166,.int .i64 168,.int .i64 180,.int .i64 184,.int .i64 188,.int .i64 189,.int .i64 190]) (.int .i64 5)).run Tryz.prog w=.ok (.int .i64 188) w:=fun _=>by kernel_rfl
  have ia6:∀w:World,(Instr.index 258 (.agg #[.int .i64 164,.int .i64 166,.int .i64 168,.int .i64 180,.int .i64 184,.int .i64 188,.int .i64 189,.int .i64 190]) (.int .i64 6)).run Tryz.prog w=.ok (.int .i64 189) w:=fun _=>by kernel_rfl
  have ia7:∀w:World,(Instr.index 258 (.agg #[.int .i64 164,.int .i64 166,.int .i64 168,.int .i64 180,.int .i64 184,.int .i64 188,.int .i64 189,.int .i64 190]) (.int .i64 7)).run Tryz.prog w=.ok (.int .i64 190) w:=fun _=>by kernel_rfl
  have ib5:∀w:World,(Instr.index 258 (.agg #[.int .i64 8364,.int .i64 352,.int .i64 353,.int .i64 381,.int .i64 382,.int .i64 338,.int .i64 339,.int .i64 376]) (.int .i64 5)).run Tryz.prog w=.ok (.int .i64 338) w:=fun _=>by kernel_rfl
  go_enter Tryz.func195,Tryz.ntmps195
  go_wp2
  go_rounds 6
  go_ret
  exact⟨rfl,Below.refl _ _⟩
set_option maxHeartbeats 1000000 in
theorem one_3_189 (w:World):Calls Tryz.prog 195 #[.int .i64 3,.int .i64 189] w fun e w'=>e=.returned (.int .i64 339)∧Below w.heap.size w w':=by
  have ia0:∀w:World,(Instr.index 258 (.agg #[.int .i64 164,.int .i64 166,.int .i64 168,.int .i64 180,.int .i64 184,.int .i64 188,.int .i64 189,.int .i64 190]) (.int .i64 0)).run Tryz.prog w=.ok (.int .i64 164) w:=fun _=>by kernel_rfl
  have ia1:∀w:World,(Instr.index 258 (.agg #[.int .i64 164,.int .i64 166,.int .i64 168,.int .i64 180,.int .i64 184,.int .i64 188,.int .i64 189,.int .i64 190]) (.int .i64 1)).run Tryz.prog w=.ok (.int .i64 166) w:=fun _=>by kernel_rfl
  have ia2:∀w:World,(Instr.index 258 (.agg #[.int .i64 164,.int .i64 166,.int .i64 168,.int .i64 180,.int .i64 184,.int .i64 188,.int .i64 189,.int .i64 190]) (.int .i64 2)).run Tryz.prog w=.ok (.int .i64 168) w:=fun _=>by kernel_rfl
  have ia3:∀w:World,(Instr.index 258 (.agg #[.int .i64 164,.int .i64 166,.int .i64 168,.int .i64 180,.int .i64 184,.int .i64 188,.int .i64 189,.int .i64 190]) (.int .i64 3)).run Tryz.prog w=.ok (.int .i64 180) w:=fun _=>by kernel_rfl
  have ia4:∀w:World,(Instr.index 258 (.agg #[.int .i64 164,.int .i64 166,.int .i64 168,.int .i64 180,.int .i64 184,.int .i64 188,.int .i64 189,.int .i64 190]) (.int .i64 4)).run Tryz.prog w=.ok (.int .i64 184) w:=fun _=>by kernel_rfl
  have ia5:∀w:World,(Instr.index 258 (.agg #[.int .i64 164,.int .i64 166,.int .i64 168,.int .i64 180,.int .i64 184,.int .i64 188,.int .i64 189,.int .i64 190]) (.int .i64 5)).run Tryz.prog w=.ok (.int .i64 188) w:=fun _=>by kernel_rfl
  have ia6:∀w:World,(Instr.index 258 (.agg #[.int .i64 164,.int .i64 166,.int .i64 168,.int .i64 180,.int .i64 184,.int .i64 188,.int .i64 189,.int .i64 190]) (.int .i64 6)).run Tryz.prog w=.ok (.int .i64 189) w:=fun _=>by kernel_rfl
  have ia7:∀w:World,(Instr.index 258 (.agg #[.int .i64 164,.int .i64 166,.int .i64 168,.int .i64 180,.int .i64 184,.int .i64 188,.int .i64 189,.int .i64 190]) (.int .i64 7)).run Tryz.prog w=.ok (.int .i64 190) w:=fun _=>by kernel_rfl
  have ib6:∀w:World,(Instr.index 258 (.agg #[.int .i64 8364,.int .i64 352,.int .i64 353,.int .i64 381,.int .i64 382,.int .i64 338,.int .i64 339,.int .i64 376]) (.int .i64 6)).run Tryz.prog w=.ok (.int .i64 339) w:=fun _=>by kernel_rfl
  go_enter Tryz.func195,Tryz.ntmps195
  go_wp2
  go_rounds 7
  go_ret
  exact⟨rfl,Below.refl _ _⟩
set_option maxHeartbeats 1000000 in
theorem one_3_190 (w:World):Calls Tryz.prog 195 #[.int .i64 3,.int .i64 190] w fun e w'=>e=.returned (.int .i64 376)∧Below w.heap.size w w':=by
  have ia0:∀w:World,(Instr.index 258 (.agg #[.int .i64 164,.int .i64 166,.int .i64 168,.int .i64 180,.int .i64 184,.int .i64 188,.int .i64 189,.int .i64 190]) (.int .i64 0)).run Tryz.prog w=.ok (.int .i64 164) w:=fun _=>by kernel_rfl
  have ia1:∀w:World,(Instr.index 258 (.agg #[.int .i64 164,.int .i64 166,.int .i64 168,.int .i64 180,.int .i64 184,.int .i64 188,.int .i64 189,.int .i64 190]) (.int .i64 1)).run Tryz.prog w=.ok (.int .i64 166) w:=fun _=>by kernel_rfl
  have ia2:∀w:World,(Instr.index 258 (.agg #[.int .i64 164,.int .i64 166,.int .i64 168,.int .i64 180,.int .i64 184,.int .i64 188,.int .i64 189,.int .i64 190]) (.int .i64 2)).run Tryz.prog w=.ok (.int .i64 168) w:=fun _=>by kernel_rfl
  have ia3:∀w:World,(Instr.index 258 (.agg #[.int .i64 164,.int .i64 166,.int .i64 168,.int .i64 180,.int .i64 184,.int .i64 188,.int .i64 189,.int .i64 190]) (.int .i64 3)).run Tryz.prog w=.ok (.int .i64 180) w:=fun _=>by kernel_rfl
  have ia4:∀w:World,(Instr.index 258 (.agg #[.int .i64 164,.int .i64 166,.int .i64 168,.int .i64 180,.int .i64 184,.int .i64 188,.int .i64 189,.int .i64 190]) (.int .i64 4)).run Tryz.prog w=.ok (.int .i64 184) w:=fun _=>by kernel_rfl
  have ia5:∀w:World,(Instr.index 258 (.agg #[.int .i64 164,.int .i64 166,.int .i64 168,.int .i64 180,.int .i64 184,.int .i64 188,.int .i64 189,.int .i64 190]) (.int .i64 5)).run Tryz.prog w=.ok (.int .i64 188) w:=fun _=>by kernel_rfl
  have ia6:∀w:World,(Instr.index 258 (.agg #[.int .i64 164,.int .i64 166,.int .i64 168,.int .i64 180,.int .i64 184,.int .i64 188,.int .i64 189,.int .i64 190]) (.int .i64 6)).run Tryz.prog w=.ok (.int .i64 189) w:=fun _=>by kernel_rfl
  have ia7:∀w:World,(Instr.index 258 (.agg #[.int .i64 164,.int .i64 166,.int .i64 168,.int .i64 180,.int .i64 184,.int .i64 188,.int .i64 189,.int .i64 190]) (.int .i64 7)).run Tryz.prog w=.ok (.int .i64 190) w:=fun _=>by kernel_rfl
  have ib7:∀w:World,(Instr.index 258 (.agg #[.int .i64 8364,.int .i64 352,.int .i64 353,.int .i64 381,.int .i64 382,.int .i64 338,.int .i64 339,.int .i64 376]) (.int .i64 7)).run Tryz.prog w=.ok (.int .i64 376) w:=fun _=>by kernel_rfl
  go_enter Tryz.func195,Tryz.ntmps195
  go_wp2
  go_rounds 8
  go_ret
  exact⟨rfl,Below.refl _ _⟩
set_option maxHeartbeats 1000000 in
theorem one_3 (b:Int)(h1:128≤b)(h2:b≤255)(n164:b≠164)(n166:b≠166)(n168:b≠168)(n180:b≠180)(n184:b≠184)(n188:b≠188)(n189:b≠189)(n190:b≠190)(w:World):Calls Tryz.prog 195 #[.int .i64 3,.int .i64 b] w fun e w'=>e=.returned (.int .i64 b)∧Below w.heap.size w w':=by
  have ia0:∀w:World,(Instr.index 258 (.agg #[.int .i64 164,.int .i64 166,.int .i64 168,.int .i64 180,.int .i64 184,.int .i64 188,.int .i64 189,.int .i64 190]) (.int .i64 0)).run Tryz.prog w=.ok (.int .i64 164) w:=fun _=>by kernel_rfl
  have ia1:∀w:World,(Instr.index 258 (.agg #[.int .i64 164,.int .i64 166,.int .i64 168,.int .i64 180,.int .i64 184,.int .i64 188,.int .i64 189,.int .i64 190]) (.int .i64 1)).run Tryz.prog w=.ok (.int .i64 166) w:=fun _=>by kernel_rfl
  have ia2:∀w:World,(Instr.index 258 (.agg #[.int .i64 164,.int .i64 166,.int .i64 168,.int .i64 180,.int .i64 184,.int .i64 188,.int .i64 189,.int .i64 190]) (.int .i64 2)).run Tryz.prog w=.ok (.int .i64 168) w:=fun _=>by kernel_rfl
  have ia3:∀w:World,(Instr.index 258 (.agg #[.int .i64 164,.int .i64 166,.int .i64 168,.int .i64 180,.int .i64 184,.int .i64 188,.int .i64 189,.int .i64 190]) (.int .i64 3)).run Tryz.prog w=.ok (.int .i64 180) w:=fun _=>by kernel_rfl
  have ia4:∀w:World,(Instr.index 258 (.agg #[.int .i64 164,.int .i64 166,.int .i64 168,.int .i64 180,.int .i64 184,.int .i64 188,.int .i64 189,.int .i64 190]) (.int .i64 4)).run Tryz.prog w=.ok (.int .i64 184) w:=fun _=>by kernel_rfl
  have ia5:∀w:World,(Instr.index 258 (.agg #[.int .i64 164,.int .i64 166,.int .i64 168,.int .i64 180,.int .i64 184,.int .i64 188,.int .i64 189,.int .i64 190]) (.int .i64 5)).run Tryz.prog w=.ok (.int .i64 188) w:=fun _=>by kernel_rfl
  have ia6:∀w:World,(Instr.index 258 (.agg #[.int .i64 164,.int .i64 166,.int .i64 168,.int .i64 180,.int .i64 184,.int .i64 188,.int .i64 189,.int .i64 190]) (.int .i64 6)).run Tryz.prog w=.ok (.int .i64 189) w:=fun _=>by kernel_rfl
  have ia7:∀w:World,(Instr.index 258 (.agg #[.int .i64 164,.int .i64 166,.int .i64 168,.int .i64 180,.int .i64 184,.int .i64 188,.int .i64 189,.int .i64 190]) (.int .i64 7)).run Tryz.prog w=.ok (.int .i64 190) w:=fun _=>by kernel_rfl
  have m164:(b==(164:Int))=false:=by rw[beq_eq_false_iff_ne];exact n164
  have m166:(b==(166:Int))=false:=by rw[beq_eq_false_iff_ne];exact n166
  have m168:(b==(168:Int))=false:=by rw[beq_eq_false_iff_ne];exact n168
  have m180:(b==(180:Int))=false:=by rw[beq_eq_false_iff_ne];exact n180
  have m184:(b==(184:Int))=false:=by rw[beq_eq_false_iff_ne];exact n184
  have m188:(b==(188:Int))=false:=by rw[beq_eq_false_iff_ne];exact n188
  have m189:(b==(189:Int))=false:=by rw[beq_eq_false_iff_ne];exact n189
  have m190:(b==(190:Int))=false:=by rw[beq_eq_false_iff_ne];exact n190
  have t0:¬(b<(128:Int)):=by omega
  clear n164 n166 n168 n180 n184 n188 n189 n190
  go_enter Tryz.func195,Tryz.ntmps195
  go_wp2
  go_rounds 9
  go_ret
  exact⟨rfl,Below.refl _ _⟩
theorem one_c (enc b:Int)(he:0≤enc)(he':enc≤6)(hb:b≤255)(w:World):Calls Tryz.prog 195 #[.int .i64 enc,.int .i64 b] w fun e w'=>e=.returned (.int .i64 (oneI enc b))∧Below w.heap.size w w':=by
  by_cases h0:b<128
  · exact one_low enc b h0 w
  · obtain rfl|rfl|rfl|rfl|rfl|rfl|rfl:enc=0∨enc=1∨enc=2∨enc=3∨enc=4∨enc=5∨enc=6:=by omega
    · exact one_0 b (by omega) hb w
    · exact one_1 b (by omega) hb w
    · by_cases h:b≤159
      · exact one_2a b (by omega) h w
      · exact one_2b b (by omega) hb w
    · have hL:oneI 3 b=latin9I b:=by unfold oneI;rw[if_neg (by omega),if_neg (by omega),if_pos rfl]
      rw[hL]
      unfold latin9I
      by_cases n164:b=164
      · subst n164;exact one_3_164 w
      rw[if_neg n164]
      by_cases n166:b=166
      · subst n166;exact one_3_166 w
      rw[if_neg n166]
      by_cases n168:b=168
      · subst n168;exact one_3_168 w
      rw[if_neg n168]
      by_cases n180:b=180
      · subst n180;exact one_3_180 w
      rw[if_neg n180]
      by_cases n184:b=184
      · subst n184;exact one_3_184 w
      rw[if_neg n184]
      by_cases n188:b=188
      · subst n188;exact one_3_188 w
      rw[if_neg n188]
      by_cases n189:b=189
      · subst n189;exact one_3_189 w
      rw[if_neg n189]
      by_cases n190:b=190
      · subst n190;exact one_3_190 w
      rw[if_neg n190]
      exact one_3 b (by omega) hb n164 n166 n168 n180 n184 n188 n189 n190 w
    · exact one_4 b (by omega) hb w
    · exact one_5 b (by omega) hb w
    · by_cases h:b≤160
      · exact one_6a b (by omega) h w
      · by_cases h':b≤223
        · exact one_6b b (by omega) h' w
        · exact one_6c b (by omega) hb w
end Go.Proofs.YtfioknaadbgjlaaGreatDoor.F
