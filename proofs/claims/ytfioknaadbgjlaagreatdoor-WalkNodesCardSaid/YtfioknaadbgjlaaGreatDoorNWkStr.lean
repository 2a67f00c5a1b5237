/- Kit. -/
import Derived.Test.YtfioknaadbgjlaaGreatDoorNQ1
import Derived.Test.YtfioknaadbgjlaaGreatDoorNWkMath
set_option maxRecDepth 100000
set_option linter.unusedVariables false
set_option linter.unusedSimpArgs false
namespace Go.Proofs.YtfioknaadbgjlaaGreatDoor
open Go.RowKit Go.Sort
def txC (s:ByteArray):List Value:=[.string s]
abbrev TxtsIs:=@LstIs ByteArray txC 1
def mkS (l:List UInt8):ByteArray:=⟨l.toArray⟩
theorem mkS_list (l:List UInt8):(mkS l).data.toList=l:=rfl
theorem mkS_of (b:ByteArray):mkS b.data.toList=b:=rfl
theorem txC_len (l:List ByteArray):∀x∈l,(txC x).length=1:=fun _ _=>rfl
theorem txC_one (s:ByteArray):∀v∈txC s,v.oneCell'=true:=fun v hv=>by rw[List.mem_singleton.1 hv];rfl
theorem txt_at {w:World}{a:Option Addr}{n cap:Nat}{l:List ByteArray}(h:TxtsIs w (.slice a n cap) l){j:Nat}{s:ByteArray}(hj:l[j]?=some s):∃g off,a=some ⟨g,off,none⟩∧g<w.heap.size∧w.cell? ⟨g,off+j,none⟩=some (.string s):=by
  obtain⟨g,off,h1,h2,h3⟩:=h.at hj
  refine⟨g,off,h1,h2,?_⟩
  have:=h3 0 _ rfl
  rw[Nat.mul_one,Nat.add_zero]at this
  exact this
def OwnW (B:Nat)(w:World)(v:Value)(l:List ByteArray):Prop:=w.ownsRow B 9 1 v l.length (l.flatMap txC)
theorem OwnW.nil (B:Nat)(w:World):OwnW B w (.slice none 0 0) []:=World.ownsRow_nil _ _ _ _
theorem OwnW.txts {B:Nat}{w:World}{v:Value}{l:List ByteArray}(h:OwnW B w v l):TxtsIs w v l:=LstIs.own (txC_len l) h rfl
theorem OwnW.below {B:Nat}{w w':World}{v:Value}{l:List ByteArray}(h:OwnW B w v l)(hb:Below w.heap.size w w'):OwnW B w' v l:=
  World.ownsRow.kept (row:=none) h ⟨hb.os,hb.tape,hb.output,hb.size,fun k hk _=>hb.block k hk⟩ (by cases h:v.ownBlock with|none=>exact Or.inl rfl|some x=>exact Or.inr (by simp))
theorem OwnW.al {B:Nat}{w:World}{v:Value}{l:List ByteArray}(h:OwnW B w v l)(o:Obj):OwnW B (w.alloc o) v l:=h.below ((Below.refl _ _).alloc (Nat.le_refl _) _)
theorem OwnW.cap {B:Nat}{w:World}{a:Option Addr}{n c:Nat}{l:List ByteArray}(h:OwnW B w (.slice a n c) l):n≤c:=by
  rcases h.2 with⟨hv,_⟩|⟨g,cap,cur,hv,_,_,h1,_⟩
  · injection hv with h1 h2 h3
    omega
  · injection hv with h2 h3 h4
    omega
def CapOk (v:Value):Prop:=∃a n c,v=.slice a n c∧n≤c
theorem CapOk.none:CapOk (.slice none 0 0):=⟨_,_,_,rfl,Nat.le_refl _⟩
theorem CapOk.le {a:Option Addr}{n c:Nat}(h:CapOk (.slice a n c)):n≤c:=by
  obtain⟨_,_,_,hv,h1⟩:=h
  injection hv with h2 h3 h4
  omega
theorem infoStrW:(Tryz.prog.info? 9).map (fun i=>(i.zero,i.size,i.bytes))=some (some (.string ⟨#[]⟩),1,16):=by kernel_rfl
theorem ext_part (b:ByteArray)(f i:Nat):b.extract f i=mkS ((b.data.toList.drop f).take (i-f)):=by
  apply ByteArray.ext
  apply Array.toList_inj.1
  rw[ByteArray.data_extract,Array.toList_extract,List.extract_eq_take_drop]
  rfl
theorem below_draws {B:Nat}{a w:World}(h:Below B a w)(q:Nat):Below B a (w.drewN q):=by
  induction q with
  | zero=>exact h
  | succ q ih=>exact ih.drew
end Go.Proofs.YtfioknaadbgjlaaGreatDoor
