/- Kit. -/
import Derived.Test.YtfioknaadbgjlaaGreatDoorNWkRSplit
set_option maxRecDepth 100000
set_option linter.unusedVariables false
set_option linter.unusedSimpArgs false
namespace Go.Proofs.YtfioknaadbgjlaaGreatDoor
open Go.RowKit Go.Sort
def SplitC (K:World→Prop):Prop:=∀(b:ByteArray) (w:World),b.size≤9223372036854775807→K w→Calls Tryz.prog 15 #[.string b] w fun e w'=>∃v,e=.returned (.tuple #[v,.int .i64 (splitI b.data.toList).2])∧TxtsIs w' v ((splitI b.data.toList).1.map mkS)∧Below w.heap.size w w'
def Lasts (K:World→Prop):Prop:=∀w w',K w→Below w.heap.size w w'→K w'
set_option maxHeartbeats 4000000 in
theorem awake15_c {K:World→Prop}(hP:SplitC K)(w:World)(hw:K w):Calls Tryz.prog 5 #[] w fun e w'=>e=.returned (.bool true)∧Below w.heap.size w w':=by
  have cS:=hP ⟨#[47,97,47,98]⟩ w (by decide) hw
  rw[show splitI (⟨#[47,97,47,98]⟩:ByteArray).data.toList=([[97],[98]],0) by decide]at cS
  clear hw hP
  simp only at cS
  go_enter Tryz.func5,Tryz.ntmps5
  go_wp2_with fail
  refine cS.mono ?_
  rintro e w1 ⟨v,rfl,hT,hb1⟩
  obtain⟨a,c,hv⟩:=hT.len
  subst hv
  obtain⟨g,off,rfl,hg,hcell⟩:=txt_at hT (j:=1) (s:=mkS [98]) rfl
  have HB1:=Lib.hid hb1
  simp only[List.length_map,List.length_cons,List.length_nil]at hT ⊢
  clear hT hb1 cS
  go_wp2
  go_ret
  exact⟨by rw[show((mkS [98]).toList==[98])=true by rw[ByteArray.toList_eq];rfl];rfl,HB1.out⟩
end Go.Proofs.YtfioknaadbgjlaaGreatDoor
