/- Kit. -/
import Derived.Lib.Hide
set_option maxRecDepth 100000
set_option linter.unusedVariables false
set_option linter.unusedSimpArgs false
namespace Go.Proofs.YtfioknaadbgjlaaGreatDoor
def splitB:List UInt8→List (List UInt8)
  | []=>[[]]
  | c::t=>if c=47 then []::splitB t else match splitB t with
    | h::r=>(c::h)::r
    | []=>[[c]]
theorem splitB_ne (l:List UInt8):splitB l≠[]:=by
  cases l with
  | nil=>simp[splitB]
  | cons c t =>
    unfold splitB
    split
    · simp
    · split<;>simp
def frontB (a:List UInt8)(l:List (List UInt8)):List (List UInt8):=match l with
  | h::r=>(a++h)::r
  | []=>[a]
theorem frontB_nil (l:List (List UInt8))(h:l≠[]):frontB [] l=l:=by
  cases l with
  | nil=>exact absurd rfl h
  | cons a r=>rfl
theorem splitB_char {c:UInt8}(h:c≠47)(t:List UInt8):splitB (c::t)=frontB [c] (splitB t):=by
  rw[splitB,if_neg h]
  unfold frontB
  split<;>rfl
theorem splitB_sl (t:List UInt8):splitB (47::t)=[]::splitB t:=by rw[splitB,if_pos rfl]
theorem frontB_front (a b:List UInt8)(l:List (List UInt8)):frontB a (frontB b l)=frontB (a++b) l:=by
  cases l with
  | nil=>rfl
  | cons h r=>simp[frontB]
def badN (s:List UInt8):Bool:=decide (s=[])||decide (s=[46])||decide (s=[46,46])
def splitI (p:List UInt8):List (List UInt8)×Int:=
  if 1024<p.length then([],4)
  else match p with
    | []=>([],3)
    | c::t=>if c≠47 then([],3) else if t=[] then([],0) else if(splitB t).any badN=true then([],3) else if 16<(splitB t).length then([],4) else(splitB t,0)
theorem splitI_len (p:List UInt8):(splitI p).1.length≤16:=by
  unfold splitI
  split
  · exact Nat.zero_le _
  · split
    · exact Nat.zero_le _
    · split
      · exact Nat.zero_le _
      · split
        · exact Nat.zero_le _
        · split
          · exact Nat.zero_le _
          · split
            · exact Nat.zero_le _
            · show(splitB _).length≤16
              omega
end Go.Proofs.YtfioknaadbgjlaaGreatDoor
