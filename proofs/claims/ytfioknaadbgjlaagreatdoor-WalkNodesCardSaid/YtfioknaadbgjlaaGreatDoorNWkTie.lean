/- Kit. -/
import Derived.Test.YtfioknaadbgjlaaGreatDoorNF2
import Derived.Test.YtfioknaadbgjlaaGreatDoorNWkLawN
set_option maxRecDepth 100000
set_option linter.unusedVariables false
set_option linter.unusedSimpArgs false
namespace Go.Proofs.YtfioknaadbgjlaaGreatDoor
open Go.RowKit Go.Sort
theorem fndV_found (o:Option Ent):fndV o=F.foundV o:=by cases o<;>rfl
theorem rfind_tie:RFindC (fun E l s=>F.faced E l s) F.EntOk:=fun E h0 h8 v l s w hv hl hok=>by
  refine(F.rfind_c E h0 h8 v l s w hv hl hok).mono ?_
  rintro e w' ⟨h1,h2⟩
  exact⟨by rw[h1,fndV_found],h2⟩
theorem badE_ok {e:Ent}(h:badE e.name e.short=0):F.EntOk e:=by
  unfold badE at h
  split at h
  · rename_i hg
    split at h
    · exact absurd h (by decide)
    · unfold goodB at hg
      simp only[Bool.and_eq_true,decide_eq_true_eq]at hg
      have:=hg.2.2.1
      exact⟨by omega,by omega,by omega⟩
  · exact absurd h (by decide)
theorem tree_ok {w:World}{b:Nat}{l:List Itm}{nx:Int}{S:Nat→Prop}(h:theTree.Is w b l nx S):∀x∈l,F.EntOk x.e:=fun x hx=>badE_ok ((theGood h).form x hx)
end Go.Proofs.YtfioknaadbgjlaaGreatDoor
