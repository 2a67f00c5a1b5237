/- Kit. -/
import Derived.Test.YtfioknaadbgjlaaGreatDoorNK4
import Derived.Test.YtfioknaadbgjlaaGreatDoorNK3
import Derived.Test.YtfioknaadbgjlaaGreatDoorNK2
import Derived.Deep.QuietTactic
import Derived.BigQuiet
import Derived.Test.YtfioknaadbgjlaaGreatDoorNK1
import Derived.Handy
import Derived.LoopTactic
set_option maxRecDepth 100000
set_option linter.unusedVariables false
set_option linter.unusedSimpArgs false
namespace Go.Proofs.YtfioknaadbgjlaaGreatDoor.F
open Go.RowKit
def pieceI (enc:Int)(b:ByteArray)(k:Nat):Int×Int:=
  if 7≤enc then(if(nextG b k).2=0 then(-1,1) else(((nextG b k).1:Int),((nextG b k).2:Int)))
  else if enc=6∧k+1<b.size∧0≤twoI (Go.PlainAid.bt b k) (Go.PlainAid.bt b (k+1)) then(twoI (Go.PlainAid.bt b k) (Go.PlainAid.bt b (k+1)),2)
  else(oneI enc (Go.PlainAid.bt b k),1)
theorem nextG_small (b:ByteArray)(a:Int):((nextG b a).1:Int)≤1114111:=by
  by_cases h:a<0∨(b.size:Int)≤a
  · rw[nextG_out h];decide
  · obtain⟨k,rfl⟩:∃k:Nat,a=(k:Int):=⟨a.toNat,by omega⟩
    rw[nextG_L (by omega)]
    rcases nextL_facts (b.data.toList.drop k) with hz|⟨_,_,hr,_⟩
    · rw[hz];decide
    · have:=isR_is hr;omega
set_option maxHeartbeats 1000000 in
theorem r2next_utf (enc:Int)(h:7≤enc)(b:ByteArray)(k:Nat)(hk:k<b.size)(hs:b.size≤4000)(w:World) :
    Calls Tryz.prog 159 #[.int .i64 enc,.string b,.int .i64 k] w fun e w'=>e=.returned (.tuple #[.int .i64 (pieceI enc b k).1,.int .i64 (pieceI enc b k).2])∧Below w.heap.size w w':=by
  have cN:=refNext_c b k hs w
  have hR:=nextG_small b k
  obtain⟨R,hRR⟩:∃R,(nextG b k).1=R:=⟨_,rfl⟩
  obtain⟨K,hKK⟩:∃K,(nextG b k).2=K:=⟨_,rfl⟩
  have HX:=Lib.hid (show pieceI enc b k=if K=0 then(-1,1) else((R:Int),(K:Int)) by unfold pieceI;rw[if_pos h,hRR,hKK])
  rw[hRR]at hR
  rw[hRR,hKK]at cN
  clear hRR hKK
  by_cases h0:K=0
  · subst h0
    rw[if_pos rfl]at HX
    go_enter Tryz.func159,Tryz.ntmps159
    go_wp2_with fail
    refine cN.mono ?_
    rintro e w1 ⟨rfl,hb⟩
    go_wp2
    go_ret2
    exact⟨by rw[HX.out];rfl,hb⟩
  · rw[if_neg h0]at HX
    have h0z:((K:Int)==0)=false:=by rw[beq_eq_false_iff_ne];omega
    have hw1:wrap64 (R:Int)=(R:Int):=by unfold wrap64;omega
    clear h0
    go_enter Tryz.func159,Tryz.ntmps159
    go_wp2_with fail
    refine cN.mono ?_
    rintro e w1 ⟨rfl,hb⟩
    go_wp2
    go_ret2
    exact⟨by rw[HX.out];rfl,hb⟩
set_option maxHeartbeats 1000000 in
theorem r2next_one (enc:Int)(h0:0≤enc)(h6:enc≤6)(b:ByteArray)(k:Nat)(hk:k<b.size)(hs:b.size≤4000)(hno:enc≠6∨b.size≤k+1)(w:World) :
    Calls Tryz.prog 159 #[.int .i64 enc,.string b,.int .i64 k] w fun e w'=>e=.returned (.tuple #[.int .i64 (pieceI enc b k).1,.int .i64 (pieceI enc b k).2])∧Below w.heap.size w w':=by
  have HX:=Lib.hid (show pieceI enc b k=(oneI enc (Go.PlainAid.bt b k),1) by unfold pieceI;rw[if_neg (by omega),if_neg (by rintro⟨a1,a2,_⟩;omega)])
  have cO:=fun w=>one_c enc (Go.PlainAid.bt b k) h0 h6 (Go.PlainAid.bt_le b k) w
  have hB:=Go.PlainAid.get_bt b
  have hkz:(k:Int)<(b.size:Int):=by omega
  have g0:=Go.PlainAid.bt_nonneg b k
  have g1:=Go.PlainAid.bt_le b k
  obtain⟨x,hx⟩:∃x:Int,Go.PlainAid.bt b k=x:=⟨_,rfl⟩
  rw[hx]at g0 g1
  simp only[hx]at cO
  rw[hx]at HX
  have h7:¬(7≤enc):=by omega
  by_cases h:enc=6
  · subst h
    have hlast:¬((k:Int)<(b.size:Int)-1):=by omega
    clear hno
    go_enter Tryz.func159,Tryz.ntmps159
    go_wp2_with fail
    refine(cO _).mono ?_
    rintro e w1 ⟨rfl,hb⟩
    go_wp2
    go_ret2
    exact⟨by rw[HX.out];rfl,hb⟩
  · have h':(enc==(6:Int))=false:=by rw[beq_eq_false_iff_ne];exact h
    clear h hno
    go_enter Tryz.func159,Tryz.ntmps159
    go_wp2_with fail
    refine(cO _).mono ?_
    rintro e w1 ⟨rfl,hb⟩
    go_wp2
    go_ret2
    exact⟨by rw[HX.out];rfl,hb⟩
set_option maxHeartbeats 1000000 in
theorem r2next_two (b:ByteArray)(k:Nat)(hk:k+1<b.size)(hs:b.size≤4000)(w:World) :
    Calls Tryz.prog 159 #[.int .i64 6,.string b,.int .i64 k] w fun e w'=>e=.returned (.tuple #[.int .i64 (pieceI 6 b k).1,.int .i64 (pieceI 6 b k).2])∧Below w.heap.size w w':=by
  have cO:=fun w=>one_c 6 (Go.PlainAid.bt b k) (by omega) (by omega) (Go.PlainAid.bt_le b k) w
  have cT:=fun w=>two_c (Go.PlainAid.bt b k) (Go.PlainAid.bt b (k+1)) (Go.PlainAid.bt_nonneg b (k+1)) (Go.PlainAid.bt_le b (k+1)) w
  have hB:=Go.PlainAid.get_bt b
  have hkz:(k:Int)<(b.size:Int):=by omega
  have hkz1:(k:Int)<(b.size:Int)-1:=by omega
  have hkz2:(k:Int)+1<(b.size:Int):=by omega
  have g0:=Go.PlainAid.bt_nonneg b k
  have g1:=Go.PlainAid.bt_le b k
  have g2:=Go.PlainAid.bt_nonneg b (k+1)
  have g3:=Go.PlainAid.bt_le b (k+1)
  have hp:pieceI 6 b k=if 0≤twoI (Go.PlainAid.bt b k) (Go.PlainAid.bt b (k+1)) then(twoI (Go.PlainAid.bt b k) (Go.PlainAid.bt b (k+1)),2) else(oneI 6 (Go.PlainAid.bt b k),1):=by
    unfold pieceI
    rw[if_neg (by omega)]
    by_cases h:0≤twoI (Go.PlainAid.bt b k) (Go.PlainAid.bt b (k+1))
    · rw[if_pos ⟨rfl,hk,h⟩,if_pos h]
    · rw[if_neg (by rintro⟨_,_,h'⟩;exact h h'),if_neg h]
  obtain⟨x,hx⟩:∃x:Int,Go.PlainAid.bt b k=x:=⟨_,rfl⟩
  obtain⟨y,hy⟩:∃y:Int,Go.PlainAid.bt b (k+1)=y:=⟨_,rfl⟩
  rw[hx]at g0 g1
  rw[hy]at g2 g3
  simp only[hx,hy]at cO cT
  rw[hx,hy]at hp
  generalize twoI x y=t at *
  have s0:IntKind.i64.wrap ((k:Int)+1)=(k:Int)+1:=IntWalk.i64_in _ (by omega)
  have s1:(0:Int)≤(k:Int)+1:=by omega
  have s2:(0:Int)≤(k:Int):=by omega
  have s5:((k:Int)+1).toNat=k+1:=by omega
  by_cases ht:0≤t
  · have HX:=Lib.hid (show pieceI 6 b k=(t,2) by rw[hp,if_pos ht])
    clear hp
    go_enter Tryz.func159,Tryz.ntmps159
    go_wp2_with fail
    go_quiet ((go_at_call 194;exact Calls.quiet_of_same ((cT _).mono fun _ _ h=>⟨h.1,h.2.symm⟩)))
    go_wp2
    go_ret2
    exact⟨by rw[HX.out];rfl,below_drewN (Below.refl _ _) _⟩
  · have HX:=Lib.hid (show pieceI 6 b k=(oneI 6 x,1) by rw[hp,if_neg ht])
    clear hp
    go_enter Tryz.func159,Tryz.ntmps159
    go_wp2_with fail
    go_quiet ((go_at_call 194;exact Calls.quiet_of_same ((cT _).mono fun _ _ h=>⟨h.1,h.2.symm⟩)))
    go_wp2_with fail
    refine(cO _).mono ?_
    rintro e w1 ⟨rfl,hb⟩
    go_wp2
    go_ret2
    exact⟨by rw[HX.out];rfl,below_step (below_drewN (Below.refl _ _) _) hb⟩
theorem r2next_c (enc:Int)(h0:0≤enc)(h8:enc≤8)(b:ByteArray)(k:Nat)(hk:k<b.size)(hs:b.size≤4000)(w:World) :
    Calls Tryz.prog 159 #[.int .i64 enc,.string b,.int .i64 k] w fun e w'=>e=.returned (.tuple #[.int .i64 (pieceI enc b k).1,.int .i64 (pieceI enc b k).2])∧Below w.heap.size w w':=by
  by_cases h7:7≤enc
  · exact r2next_utf enc h7 b k hk hs w
  · by_cases h:enc=6∧k+1<b.size
    · obtain⟨rfl,hk1⟩:=h
      exact r2next_two b k hk1 hs w
    · exact r2next_one enc h0 (by omega) b k hk hs (by omega) w
end Go.Proofs.YtfioknaadbgjlaaGreatDoor.F
namespace Go.Proofs.YtfioknaadbgjlaaGreatDoor.F
open Go.RowKit
end Go.Proofs.YtfioknaadbgjlaaGreatDoor.F
