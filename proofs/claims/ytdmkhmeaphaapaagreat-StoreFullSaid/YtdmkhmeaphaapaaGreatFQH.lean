/- Kit. -/
import Derived.Test.YtdmkhmeaphaapaaGreatFQ5
import Derived.Test.YtdmkhmeaphaapaaGreatFQD
import Derived.Test.YtdmkhmeaphaapaaGreatFQG
set_option maxRecDepth 100000
namespace Go.Proofs.YtdmkhmeaphaapaaGreat
open Go.RowKit Go.Sort
set_option linter.unusedVariables false
structure TreeC where
  Is:World→Nat→List Itm→Int→(Nat→Prop)→Prop
  lt:∀{w b l nx S},Is w b l nx S→∀k,S k→k<w.heap.size
  len:∀{w b l nx S},Is w b l nx S→l.length≤200
  next:∀{w b l nx S},Is w b l nx S→1≤nx
  kept:∀{w w' b l nx S},Is w b l nx S→w.heap.size≤w'.heap.size→(∀k,S k→w'.heap[k]?=w.heap[k]?)→Is w' b l nx S
  typ:∀{w b l nx S},Is w b l nx S→∀k,S k→∀t∈[195,31,105],∀cs fr,w.heap[k]?≠some (.cells cs t fr)
  new:∀w,Calls Tryz.prog 73 #[] w fun e w'=>∃b S,e=.returned (ptrV b)∧Is w' b [] 1 S∧(∀k,S k→w.heap.size≤k)∧Below w.heap.size w w'
  link:∀{w b l nx S} (d:Int) (s:ByteArray) (isD:Bool) (sh:Int),Is w b l nx S→s.size≤9223372036854775807→nx+1≤9223372036854775807 →
    Calls Tryz.prog 99 #[ptrV b,.int .i64 d,.string s,.bool isD,.int .i64 sh] w fun e w'=>∃S',e=.returned (.tuple #[.int .i64 (linkI l nx d s isD sh).2.1,.int .i64 (linkI l nx d s isD sh).2.2])∧Is w' b (linkI l nx d s isD sh).1.1 (linkI l nx d s isD sh).1.2 S'∧Trod w w' S S'
  unlink:∀{w b l nx S} (d:Int) (s:ByteArray) (isD:Bool),Is w b l nx S →
    Calls Tryz.prog 101 #[ptrV b,.int .i64 d,.string s,.bool isD] w fun e w'=>∃S',e=.returned (.int .i64 (unlinkI l nx d s isD).2)∧Is w' b (unlinkI l nx d s isD).1.1 (unlinkI l nx d s isD).1.2 S'∧Trod w w' S S'
  move:∀{w b l nx S} (d:Int) (s:ByteArray) (dt:Int) (ns:ByteArray) (sh:Int),Is w b l nx S→ns.size≤9223372036854775807→nx+1≤9223372036854775807 →
    Calls Tryz.prog 103 #[ptrV b,.int .i64 d,.string s,.int .i64 dt,.string ns,.int .i64 sh] w fun e w'=>∃S',e=.returned (.int .i64 (moveI l nx d s dt ns sh).2)∧Is w' b (moveI l nx d s dt ns sh).1.1 (moveI l nx d s dt ns sh).1.2 S'∧Trod w w' S S'
  list:∀{w b l nx S} (d:Int),Is w b l nx S →
    Calls Tryz.prog 68 #[ptrV b,.int .i64 d] w fun e w'=>∃v,e=.returned (.tuple #[v,.int .i64 (listE l d)])∧EntsIs w' v (listI l d)∧(∀g,v.ownBlock=some g→w.heap.size≤g)∧Below w.heap.size w w'
  find:∀{w b l nx S} (d:Int) (s:ByteArray),Is w b l nx S →
    Calls Tryz.prog 142 #[ptrV b,.int .i64 d,.string s] w fun e w'=>e=.returned (.tuple #[entV (findI l d s).1,.int .i64 (findI l d s).2])∧Below w.heap.size w w'
  dirs:∀{w b l nx S},Is w b l nx S →
    Calls Tryz.prog 64 #[ptrV b] w fun e w'=>∃v,e=.returned v∧NumsL w' v (dirsI l)∧(∀g,v.ownBlock=some g→w.heap.size≤g)∧Below w.heap.size w w'
  nodes:∀{w b l nx S},Is w b l nx S →
    Calls Tryz.prog 67 #[ptrV b] w fun e w'=>e=.returned (.int .i64 (l.length:Int))∧Below w.heap.size w w'
  cookie:∀{w b l nx S},Is w b l nx S →
    Calls Tryz.prog 66 #[ptrV b] w fun e w'=>e=.returned (.int .i64 nx)∧Below w.heap.size w w'
namespace TreeC
variable (T:TreeC)
variable {w w':World}{b:Nat}{l:List Itm}{nx:Int}{S S':Nat→Prop}
theorem below (h:T.Is w b l nx S)(hb:Below w.heap.size w w'):T.Is w' b l nx S:=T.kept h hb.size fun k hk=>hb.block k (T.lt h k hk)
theorem apart {a:Nat}{l2:List Itm}{nx2:Int}{S2:Nat→Prop}(h:T.Is w a l2 nx2 S2)(ht:Trod w w' S S')(hd:∀k,S2 k→¬S k):T.Is w' a l2 nx2 S2∧∀k,S2 k→¬S' k:=
  ⟨T.kept h ht.size fun k hk=>ht.rest k (T.lt h k hk) (hd k hk),fun k hk h1=>(ht.sub k h1).elim (hd k hk) (by have:=T.lt h k hk;omega)⟩
theorem off (h:T.Is w b l nx S){g:Nat}{cs:Array Value}{t:TypeId}{fr:Nat×Nat}(hg:w.heap[g]?=some (.cells cs t fr))(ht:t∈[195,31,105]):¬S g:=fun hs=>T.typ h g hs t ht cs fr hg
theorem block (h:T.Is w b l nx S)(ht:Trod w w' S S'){g:Nat}{cs:Array Value}{t:TypeId}{fr:Nat×Nat}(hg:w.heap[g]?=some (.cells cs t fr))(hm:t∈[195,31,105]):w'.heap[g]?=some (.cells cs t fr):=(ht.rest g (lt_of_get hg) (T.off h hg hm)).trans hg
end TreeC
theorem linkI_next (l:List Itm)(nx d:Int)(s:ByteArray)(isD:Bool)(sh:Int):nx≤(linkI l nx d s isD sh).1.2∧(linkI l nx d s isD sh).1.2≤nx+1:=by
  unfold linkI
  repeat' split
  all_goals (dsimp only;omega)
theorem unlinkI_next (l:List Itm)(nx d:Int)(s:ByteArray)(isD:Bool):nx≤(unlinkI l nx d s isD).1.2∧(unlinkI l nx d s isD).1.2≤nx+1:=by
  unfold unlinkI
  repeat' split
  all_goals (dsimp only;omega)
theorem moveI_next (l:List Itm)(nx d:Int)(s:ByteArray)(dt:Int)(ns:ByteArray)(sh:Int):nx≤(moveI l nx d s dt ns sh).1.2∧(moveI l nx d s dt ns sh).1.2≤nx+1:=by
  unfold moveI
  repeat' split
  all_goals (dsimp only;omega)
theorem doI_next (l:List Itm)(nx:Int)(o:OpT):nx≤(doI l nx o).1.2∧(doI l nx o).1.2≤nx+1:=by
  unfold doI;split
  · exact linkI_next _ _ _ _ _ _
  · split
    · exact unlinkI_next _ _ _ _ _
    · exact moveI_next _ _ _ _ _ _ _
abbrev ent0:Obj:=.cells #[.string ⟨#[]⟩,.int .i64 0,.bool false,.int .i64 0,.int .i64 0] 112
theorem ent_put {W:World}{q:Nat}(h:W.heap[q]?=some ent0)(x0 x1 x2 x3 x4:Value):(((((W.setCell ⟨q,0,none⟩ x0).setCell ⟨q,1,none⟩ x1).setCell ⟨q,2,none⟩ x2).setCell ⟨q,3,none⟩ x3).setCell ⟨q,4,none⟩ x4).heap[q]?=some (.cells #[x0,x1,x2,x3,x4] 112 (0,0)):=by
  rw[heap_setCell_same _ q 4 _ _ _ (heap_setCell_same _ q 3 _ _ _ (heap_setCell_same _ q 2 _ _ _ (heap_setCell_same _ q 1 _ _ _ (heap_setCell_same _ q 0 _ _ _ h))))];rfl
end Go.Proofs.YtdmkhmeaphaapaaGreat
namespace Go.Proofs.YtdmkhmeaphaapaaGreat
open Go.RowKit Go.Sort
set_option linter.unusedVariables false
end Go.Proofs.YtdmkhmeaphaapaaGreat
namespace Go.Proofs.YtdmkhmeaphaapaaGreat
open Go.RowKit Go.Sort
set_option linter.unusedVariables false
theorem awake_name:badE ⟨#[97]⟩ 0=0:=by
  unfold badE;rw[if_pos (by kernel_rfl)];decide
theorem awake_link:linkI [] 1 0 ⟨#[97]⟩ false 0=(([⟨0,⟨⟨#[97]⟩,1,false,1,0⟩⟩],2),1,0):=by
  rw[link_empty,if_pos awake_name]
end Go.Proofs.YtdmkhmeaphaapaaGreat
namespace Go.Proofs.YtdmkhmeaphaapaaGreat
open Go.RowKit Go.Sort
set_option linter.unusedVariables false
theorem outRow_empty:outRow 0 []=usedRow []:=by decide +kernel
theorem kindN_nil:kindN []=rootK:=by
  funext n;unfold rootK upd;rw[kindN_at];by_cases h:n=0
  · subst h;rfl
  · rw[if_neg (by omega),if_neg h];rfl
theorem goodT_nil:GoodT [] 1:=⟨(fun x hx=>nomatch hx),List.nodup_nil,(fun x hx=>nomatch hx),(fun x hx=>nomatch hx),List.Pairwise.nil,(fun x hx=>nomatch hx),List.Pairwise.nil,⟨fun _=>0,(fun x hx=>nomatch hx)⟩,by decide⟩
theorem foot_typ {w:World}{b:Nat}{K:Nat→Int}{E:Nat→List Ent}{R:Nat→Value}{u:Nat}{v:Value}{ys:List Int}{c:Int}(h:TM w b K E R u v ys c):∀k,Foot b R v k→∀t∈[195,31,105],∀cs fr,w.heap[k]?≠some (.cells cs t fr):=by
  intro k hk t ht cs fr hc;have key:∃T cs',w.heap[k]?=some (.cells cs' T (0,0))∧(T=96∨T=112∨T=3):=by
    rcases hk with rfl|⟨n,hn,hg⟩|hg
    · obtain⟨cs',h1,_⟩:=h.cells;exact⟨_,cs',h1,Or.inl rfl⟩
    · obtain⟨cs',h1⟩:=ownsRow_typ (h.rows n hn) hg;exact⟨_,cs',h1,Or.inr (Or.inl rfl)⟩
    · obtain⟨cs',h1⟩:=ownsRow_typ h.own hg;exact⟨_,cs',h1,Or.inr (Or.inr rfl)⟩
  obtain⟨T,cs',h1,h2⟩:=key;rw[hc]at h1;injection h1 with h1;injection h1 with _ h3 _;rw[h3]at ht;rcases h2 with rfl|rfl|rfl<;>exact absurd ht (by decide)
theorem theNew (w:World):Calls Tryz.prog 73 #[] w fun e w'=>∃b S,e=.returned (ptrV b)∧TIs w' b [] 1 S∧(∀k,S k→w.heap.size≤k)∧Below w.heap.size w w':=by
  have h:=treeNew_c w;unfold NewTPost at h;refine h.mono ?_;rintro e w' ⟨b,rfl,hb,hm,hbb⟩;rw[←kindN_nil]at hm;refine⟨b,Foot b (fun _=>.slice none 0 0) (.slice none 0 0),rfl,⟨_,0,_,[],hm,outRow_empty,goodT_nil,rfl⟩,?_,hbb⟩;rintro k (rfl|⟨n,_,hg⟩|hg)
  · exact hb
  · cases hg
  · cases hg
def theTree:TreeC where
  Is:=TIs
  lt:=by
    rintro w b l nx S ⟨R,u,v,ys,hm,_,_,rfl⟩ k hk;exact(hm.lt k hk).2
  len:=by
    rintro w b l nx S ⟨R,u,v,ys,hm,_,hg,rfl⟩;exact hg.len
  next:=by
    rintro w b l nx S ⟨R,u,v,ys,hm,_,hg,rfl⟩;exact hg.nx1
  kept:=by
    rintro w w' b l nx S ⟨R,u,v,ys,hm,ho,hg,rfl⟩ hs hk;exact⟨R,u,v,ys,hm.kept hk,ho,hg,rfl⟩
  typ:=by
    rintro w b l nx S ⟨R,u,v,ys,hm,ho,hg,rfl⟩;exact foot_typ hm
  new:=theNew
  link:=by
    rintro w b l nx S d s isD sh ⟨R,u,v,ys,hm,ho,hg,rfl⟩ hs hnx;exact treeLink_c hm ho hg d s isD sh hs hnx
  unlink:=by
    rintro w b l nx S d s isD ⟨R,u,v,ys,hm,ho,hg,rfl⟩;exact treeUnlink_c hm ho hg d s isD
  move:=by
    rintro w b l nx S d s dt ns sh ⟨R,u,v,ys,hm,ho,hg,rfl⟩ hs hnx;exact treeMove_c hm ho hg d s dt ns sh hs hnx
  list:=by
    rintro w b l nx S d ⟨R,u,v,ys,hm,ho,hg,rfl⟩;have h:=treeList_c hm (fun n hn=>Nat.le_trans (hg.elen n) (by omega)) d;unfold TListPost at h;rw[hg.open']at h;refine h.mono ?_;rintro e w' ⟨v',rfl,he,hf,hb⟩;refine⟨v',rfl,?_,hf,hb⟩;unfold listI;by_cases hd:listE l d=0
    · obtain⟨n,rfl,_,_⟩:=hg.dir hd;rw[if_pos hd]at he ⊢;rw[Int.toNat_natCast]at he;exact he
    · rw[if_neg hd]at he ⊢;exact he
  find:=by
    rintro w b l nx S d s ⟨R,u,v,ys,hm,ho,hg,rfl⟩;exact hg.findS hm d s
  dirs:=by
    rintro w b l nx S ⟨R,u,v,ys,hm,ho,hg,rfl⟩;have h:=treeDirs_c hm;unfold TDirsPost at h;rw[dirsK_to]at h;exact h
  nodes:=by
    rintro w b l nx S ⟨R,u,v,ys,hm,ho,hg,rfl⟩;have h:=nodes_c hm;rw[ho,hg.count]at h;exact h.mono fun e w' ⟨h1,q,h2⟩=>⟨h1,by rw[h2];exact below_drewN1 (Below.refl _ _) q⟩
  cookie:=by
    rintro w b l nx S ⟨R,u,v,ys,hm,ho,hg,rfl⟩;exact(cookie_c hm).mono fun e w' ⟨h1,h2⟩=>⟨h1,by rw[h2];exact Below.refl _ _⟩
theorem theGood {w:World}{b:Nat}{l:List Itm}{nx:Int}{S:Nat→Prop}(h:theTree.Is w b l nx S):GoodT l nx:=by
  obtain⟨R,u,v,ys,hm,ho,hg,_⟩:=h;exact hg
theorem theCook {w:World}{b:Nat}{l:List Itm}{nx:Int}{S:Nat→Prop}(h:theTree.Is w b l nx S):Calls Tryz.prog 66 #[ptrV b] w fun e w'=>e=.returned (.int .i64 nx)∧w'=w:=by
  obtain⟨R,u,v,ys,hm,ho,hg,_⟩:=h;exact cookie_c hm
end Go.Proofs.YtdmkhmeaphaapaaGreat
