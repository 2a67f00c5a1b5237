/- Kit. -/
import Derived.Test.YtdmkhmeaphaapaaGreatFX2
import Derived.Laws.StructEq
import Derived.Lib.AppendStr
import Derived.OwnWalk
import Derived.Deep.Upon
import Derived.Maps.AppendAt
import Derived.WalkKit
import Derived.Test.YtdmkhmeaphaapaaGreatFQH
set_option maxRecDepth 100000
namespace Go.Proofs.YtdmkhmeaphaapaaGreat
open Go.RowKit Go.Sort
set_option linter.unusedVariables false
set_option linter.unusedSimpArgs false
def mayB (x:De):Bool:=
  !((decide (x.k<1)||decide (3<x.k))||(decide (x.k<3)&&(!decide (x.dt=0)||!decide (x.ns=⟨#[]⟩)))||(decide (x.k=3)&&x.isD)||(decide (x.k=2)&&!decide (x.sh=0))) &&
    (decide (0≤x.d)&&decide (x.d<65536)&&decide (0≤x.dt)&&decide (x.dt<65536)&&decide ((x.s.size:Int)<256)&&decide ((x.ns.size:Int)<256)&&decide (0≤x.sh)&&decide (x.sh≤1000000))
theorem mayB_is (x:De):mayB x=decide (May x):=by
  obtain⟨k,d,dt,s,ns,isD,sh⟩:=x;rw[Bool.eq_iff_iff,decide_eq_true_eq];unfold mayB May;simp only[Bool.and_eq_true,Bool.not_eq_true',Bool.or_eq_false_iff,decide_eq_true_eq,decide_eq_false_iff_not,Bool.and_eq_false_iff,Bool.not_eq_false',Int.not_lt,Bool.not_eq_false];constructor
  · rintro⟨⟨⟨⟨⟨a1,a2⟩,a3⟩,a4⟩,a5⟩,⟨⟨⟨⟨⟨⟨⟨b1,b2⟩,b3⟩,b4⟩,b5⟩,b6⟩,b7⟩,b8⟩⟩;refine⟨by omega,?_,?_,?_,⟨b1,b2⟩,⟨b3,b4⟩,by omega,by omega,⟨b7,b8⟩⟩
    · rcases a3 with h|h
      · exact Or.inl (by omega)
      · exact Or.inr h
    · rintro rfl;rcases a4 with h|h
      · exact absurd rfl h
      · exact h
    · rintro rfl;rcases a5 with h|h
      · exact absurd rfl h
      · exact h
  · rintro⟨h1,h2,h3,h4,⟨b1,b2⟩,⟨b3,b4⟩,b5,b6,⟨b7,b8⟩⟩;refine⟨⟨⟨⟨⟨by omega,by omega⟩,?_⟩,?_⟩,?_⟩,⟨⟨⟨⟨⟨⟨⟨b1,b2⟩,b3⟩,b4⟩,by omega⟩,by omega⟩,b7⟩,b8⟩⟩
    · rcases h2 with h|h
      · exact Or.inl (by omega)
      · exact Or.inr h
    · by_cases h:k=3
      · exact Or.inr (h3 h)
      · exact Or.inl h
    · by_cases h:k=2
      · exact Or.inr (h4 h)
      · exact Or.inl h
end Go.Proofs.YtdmkhmeaphaapaaGreat
namespace Go.Proofs.YtdmkhmeaphaapaaGreat
open Go.RowKit Go.Sort
set_option linter.unusedVariables false
set_option linter.unusedSimpArgs false
abbrev OwnD (B:Nat)(w:World)(v:Value)(l:List UInt8):Prop:=w.ownsRow B 5 1 v l.length (Lib.byteCells l)
theorem addr_addD (g off j:Nat):(⟨g,off,none⟩:Addr).add j=⟨g,off+j,none⟩:=by
  simp[Addr.add]
theorem OwnD.cell {B g n cap:Nat}{w:World}{xs:List UInt8}(h:OwnD B w (.slice (some ⟨g,0,none⟩) n cap) xs){j:Nat}(hj:j<xs.length):w.cell? ⟨g,j,none⟩=some (.int .u8 ((xs.getD j 0).toNat:Int)):=by
  rcases h.2 with⟨hv,_⟩|⟨g',cap',cur,hv,hg,hb,h1,h2,h3,h4⟩
  · cases hv
  · injection hv with hv _ _;injection hv with hv;injection hv with hv _ _;subst hv;rw[Lib.cell_of_heap hb,←Array.getElem?_toList];have:=congrArg (·[j]?) h4;simp only[Nat.mul_one,List.getElem?_take,if_pos hj]at this;rw[this];simp[Lib.byteCells,List.getElem?_eq_getElem hj,List.getD_eq_getElem?_getD]
theorem OwnD.text {B g n cap:Nat}{w:World}{xs:List UInt8}(h:OwnD B w (.slice (some ⟨g,0,none⟩) n cap) xs)(hn:xs.length=n):(convert 121 9 (.slice (some ⟨g,0,none⟩) n cap)).run Tryz.prog w=.ok (.string ⟨xs.toArray⟩) w:=by
  subst hn;refine run_convert_bytes_back (P:=Tryz.prog) w 121 9 5 ⟨g,0,none⟩ cap xs Tryz.underlying121 Tryz.underlying5 Tryz.underlying9 (fun j hj=>?_);rw[addr_addD,Nat.zero_add,h.cell hj];simp[List.getD_eq_getElem?_getD,List.getElem?_eq_getElem hj]
theorem OwnD.form {B:Nat}{w:World}{v:Value}{l:List UInt8}(h:OwnD B w v l)(hn:l≠[]):∃g cap,v=.slice (some ⟨g,0,none⟩) l.length cap:=by
  rcases h.2 with⟨_,h0⟩|⟨g,cap,cur,hv,_⟩
  · exact absurd (List.eq_nil_of_length_eq_zero h0) hn
  · exact⟨g,cap,hv⟩
structure ByW (w:World)(bO:Nat)(x:De)(l:List UInt8)(v:Value)(W:World):Prop where
  d:W.heap[bO]?=some (.cells ⟨deC x⟩ 38 (0,0))
  own:OwnD (bO+1) W v l
  b:Below bO w W
  lt:bO+1≤W.heap.size
section
variable {w W W':World}{bO:Nat}{x:De}{l:List UInt8}{v:Value}
theorem ByW.alloc (h:ByW w bO x l v W)(o:Obj):ByW w bO x l v (W.alloc o):=
  ⟨by rw[Lib.alloc_old _ _ _ (by have:=h.lt;omega)];exact h.d,World.ownsRow.alloc h.own o,h.b.alloc (by have:=h.lt;omega) _,by have:=h.lt;simp;omega⟩
end
end Go.Proofs.YtdmkhmeaphaapaaGreat
namespace Go.Proofs.YtdmkhmeaphaapaaGreat
open Go.RowKit Go.Sort
set_option linter.unusedVariables false
set_option linter.unusedSimpArgs false
theorem DoIs.link {w:World}{f:Value}(h:DoIs w 1 f):∃g,f=.func (.func 136) #[] #[ptV g]∧w.heap[g]?=some (.cells #[linkF] 181 (0,0)):=by
  obtain⟨g,⟨_,h⟩|⟨h,_⟩|⟨h,_⟩⟩:=h
  · exact⟨g,h⟩
  · exact absurd h (by decide)
  · exact absurd h (by decide)
theorem DoIs.unlink {w:World}{f:Value}(h:DoIs w 2 f):∃g,f=.func (.func 141) #[] #[ptV g]∧w.heap[g]?=some (.cells #[unlinkF] 184 (0,0)):=by
  obtain⟨g,⟨h,_⟩|⟨_,h⟩|⟨h,_⟩⟩:=h
  · exact absurd h (by decide)
  · exact⟨g,h⟩
  · exact absurd h (by decide)
theorem DoIs.move {w:World}{f:Value}(h:DoIs w 3 f):∃g,f=.func (.func 145) #[] #[ptV g]∧w.heap[g]?=some (.cells #[moveF] 187 (0,0)):=by
  obtain⟨g,⟨h,_⟩|⟨h,_⟩|⟨_,h⟩⟩:=h
  · exact absurd h (by decide)
  · exact absurd h (by decide)
  · exact⟨g,h⟩
def opOf (x:De):OpT:=⟨x.k-1,x.d,x.dt,x.s,x.ns,x.isD,x.sh⟩
def deI (l:List Itm)(nx:Int)(x:De):(List Itm×Int)×Int×Int:=if May x then doI l nx (opOf x) else((l,nx),0,1)
def DonePost (T:TreeC)(w:World)(b:Nat)(S:Nat→Prop)(R:(List Itm×Int)×Int×Int)(e:Ending)(w':World):Prop:=∃S',e=.returned (.tuple #[.int .i64 R.2.1,.int .i64 R.2.2])∧T.Is w' b R.1.1 R.1.2 S'∧Trod w w' S S'
section
variable (T:TreeC){w:World}{b:Nat}{l:List Itm}{nx:Int}{S:Nat→Prop}
set_option maxHeartbeats 4000000 in
theorem linkBy1_c (x:De)(g:Nat)(h:T.Is w b l nx S)(hs:x.s.size≤9223372036854775807)(hnx:nx+1≤9223372036854775807)(hg:w.heap[g]?=some (.cells #[linkF] 181 (0,0))) :
    Calls Tryz.prog 136 #[ptV b,deV x,ptV g] w (DonePost T w b S (linkI l nx x.d x.s x.isD x.sh)):=by
  unfold DonePost;obtain⟨k,d,dt,s,ns,isD,sh⟩:=x;simp only at hs;unfold deV;simp only;have hb0:Below w.heap.size w (w.alloc (.cells #[.int .i64 k,.int .i64 d,.int .i64 dt,.string s,.string ns,.bool isD,.int .i64 sh] 38)):=(Below.refl _ w).alloc (Nat.le_refl _) _;have hi0:=T.below h hb0;have HTR:Hid (Trod w (w.alloc (.cells #[.int .i64 k,.int .i64 d,.int .i64 dt,.string s,.string ns,.bool isD,.int .i64 sh] 38)) S S):=Lib.hid (Trod.of_below hb0);have cL:=T.link d s isD sh hi0 hs hnx;have c0:(w.alloc (.cells #[.int .i64 k,.int .i64 d,.int .i64 dt,.string s,.string ns,.bool isD,.int .i64 sh] 38)).cell? ⟨g,0,none⟩=some linkF:=Lib.cell_of_heap ((hb0.block g (lt_of_get hg)).trans hg) 0;have HO:Hid ((w.alloc (.cells #[.int .i64 k,.int .i64 d,.int .i64 dt,.string s,.string ns,.bool isD,.int .i64 sh] 38)).heap[w.heap.size]?=some (.cells ⟨deC ⟨k,d,dt,s,ns,isD,sh⟩⟩ 38 (0,0))):=Lib.hid (heap_alloc_new _ _);generalize linkI l nx d s isD sh=R at *;clear hb0 hi0 h hg;go_enter Tryz.func136,Tryz.ntmps136;go_upto_region 1 with fail;generalize (w.alloc (.cells #[.int .i64 k,.int .i64 d,.int .i64 dt,.string s,.string ns,.bool isD,.int .i64 sh] 38))=W0 at *;generalize w.heap.size=bO at *;obtain⟨p0,p1,p2,p3,p4,p5,p6⟩:=de_cells HO.out;go_wp2_with (go_at_call 99;refine cL.mono ?_;rintro e w1 ⟨S1,rfl,hi1,ht1⟩;have HI:=Lib.hid hi1;have HT:=Lib.hid ht1;clear hi1 ht1);go_ret2;exact⟨S1,rfl,HI.out,HTR.out.trans HT.out⟩
set_option maxHeartbeats 4000000 in
theorem unlinkBy1_c (x:De)(g:Nat)(h:T.Is w b l nx S)(hg:w.heap[g]?=some (.cells #[unlinkF] 184 (0,0))) :
    Calls Tryz.prog 141 #[ptV b,deV x,ptV g] w (DonePost T w b S ((unlinkI l nx x.d x.s x.isD).1,0,(unlinkI l nx x.d x.s x.isD).2)):=by
  unfold DonePost;obtain⟨k,d,dt,s,ns,isD,sh⟩:=x;unfold deV;simp only;have hb0:Below w.heap.size w (w.alloc (.cells #[.int .i64 k,.int .i64 d,.int .i64 dt,.string s,.string ns,.bool isD,.int .i64 sh] 38)):=(Below.refl _ w).alloc (Nat.le_refl _) _;have hi0:=T.below h hb0;have HTR:Hid (Trod w (w.alloc (.cells #[.int .i64 k,.int .i64 d,.int .i64 dt,.string s,.string ns,.bool isD,.int .i64 sh] 38)) S S):=Lib.hid (Trod.of_below hb0);have cL:=T.unlink d s isD hi0;have c0:(w.alloc (.cells #[.int .i64 k,.int .i64 d,.int .i64 dt,.string s,.string ns,.bool isD,.int .i64 sh] 38)).cell? ⟨g,0,none⟩=some unlinkF:=Lib.cell_of_heap ((hb0.block g (lt_of_get hg)).trans hg) 0;have HO:Hid ((w.alloc (.cells #[.int .i64 k,.int .i64 d,.int .i64 dt,.string s,.string ns,.bool isD,.int .i64 sh] 38)).heap[w.heap.size]?=some (.cells ⟨deC ⟨k,d,dt,s,ns,isD,sh⟩⟩ 38 (0,0))):=Lib.hid (heap_alloc_new _ _);generalize unlinkI l nx d s isD=R at *;clear hb0 hi0 h hg;go_enter Tryz.func141,Tryz.ntmps141;go_upto_region 1 with fail;generalize (w.alloc (.cells #[.int .i64 k,.int .i64 d,.int .i64 dt,.string s,.string ns,.bool isD,.int .i64 sh] 38))=W0 at *;generalize w.heap.size=bO at *;obtain⟨p0,p1,p2,p3,p4,p5,p6⟩:=de_cells HO.out;go_wp2_with (go_at_call 101;refine cL.mono ?_;rintro e w1 ⟨S1,rfl,hi1,ht1⟩;have HI:=Lib.hid hi1;have HT:=Lib.hid ht1;clear hi1 ht1);go_ret2;exact⟨S1,rfl,HI.out,HTR.out.trans HT.out⟩
set_option maxHeartbeats 4000000 in
theorem moveBy1_c (x:De)(g:Nat)(h:T.Is w b l nx S)(hs:x.ns.size≤9223372036854775807)(hnx:nx+1≤9223372036854775807)(hg:w.heap[g]?=some (.cells #[moveF] 187 (0,0))) :
    Calls Tryz.prog 145 #[ptV b,deV x,ptV g] w (DonePost T w b S ((moveI l nx x.d x.s x.dt x.ns x.sh).1,0,(moveI l nx x.d x.s x.dt x.ns x.sh).2)):=by
  unfold DonePost;obtain⟨k,d,dt,s,ns,isD,sh⟩:=x;simp only at hs;unfold deV;simp only;have hb0:Below w.heap.size w (w.alloc (.cells #[.int .i64 k,.int .i64 d,.int .i64 dt,.string s,.string ns,.bool isD,.int .i64 sh] 38)):=(Below.refl _ w).alloc (Nat.le_refl _) _;have hi0:=T.below h hb0;have HTR:Hid (Trod w (w.alloc (.cells #[.int .i64 k,.int .i64 d,.int .i64 dt,.string s,.string ns,.bool isD,.int .i64 sh] 38)) S S):=Lib.hid (Trod.of_below hb0);have cL:=T.move d s dt ns sh hi0 hs hnx;have c0:(w.alloc (.cells #[.int .i64 k,.int .i64 d,.int .i64 dt,.string s,.string ns,.bool isD,.int .i64 sh] 38)).cell? ⟨g,0,none⟩=some moveF:=Lib.cell_of_heap ((hb0.block g (lt_of_get hg)).trans hg) 0;have HO:Hid ((w.alloc (.cells #[.int .i64 k,.int .i64 d,.int .i64 dt,.string s,.string ns,.bool isD,.int .i64 sh] 38)).heap[w.heap.size]?=some (.cells ⟨deC ⟨k,d,dt,s,ns,isD,sh⟩⟩ 38 (0,0))):=Lib.hid (heap_alloc_new _ _);generalize moveI l nx d s dt ns sh=R at *;clear hb0 hi0 h hg;go_enter Tryz.func145,Tryz.ntmps145;go_upto_region 1 with fail;generalize (w.alloc (.cells #[.int .i64 k,.int .i64 d,.int .i64 dt,.string s,.string ns,.bool isD,.int .i64 sh] 38))=W0 at *;generalize w.heap.size=bO at *;obtain⟨p0,p1,p2,p3,p4,p5,p6⟩:=de_cells HO.out;go_wp2_with (go_at_call 103;refine cL.mono ?_;rintro e w1 ⟨S1,rfl,hi1,ht1⟩;have HI:=Lib.hid hi1;have HT:=Lib.hid ht1;clear hi1 ht1);go_ret2;exact⟨S1,rfl,HI.out,HTR.out.trans HT.out⟩
theorem deI_yes {l:List Itm}{nx:Int}{x:De}(h:May x):deI l nx x=if x.k=1 then linkI l nx x.d x.s x.isD x.sh else if x.k=2 then((unlinkI l nx x.d x.s x.isD).1,0,(unlinkI l nx x.d x.s x.isD).2) else((moveI l nx x.d x.s x.dt x.ns x.sh).1,0,(moveI l nx x.d x.s x.dt x.ns x.sh).2):=by
  unfold deI;rw[if_pos h];unfold doI opOf;obtain⟨hk,_⟩:=h;rcases hk with hk|hk|hk<;>simp[hk]
set_option maxHeartbeats 4000000 in
theorem deedDo_1 (x:De)(hk:x.k=1)(hm:May x)(h:T.Is w b l nx S)(hnx:nx+1≤9223372036854775807):Calls Tryz.prog 36 #[ptV b,deV x] w (DonePost T w b S (deI l nx x)):=by
  rw[deI_yes hm];unfold DonePost;have cK:=fun W=>ask_yes x W hm
  unfold AskPost kindV at cK;have hs1:x.s.size≤9223372036854775807:=by have:=hm.2.2.2.2.2.2.1;omega
  have hs2:x.ns.size≤9223372036854775807:=by have:=hm.2.2.2.2.2.2.2.1;omega
  clear hm;obtain⟨k,d,dt,s,ns,isD,sh⟩:=x;simp only at hk hs1 hs2;subst hk;have cC:=fun(W:World) (g:Nat) (S0:Nat→Prop) (hi:T.Is W b l nx S0) (hg:W.heap[g]?=some (.cells #[linkF] 181 (0,0)))=>linkBy1_c T ⟨1,d,dt,s,ns,isD,sh⟩ g hi hs1 hnx hg
  unfold DonePost at cC;unfold deV at *;simp only[show decide ((1:Int)=1∨(1:Int)=2)=true by decide,show decide ((1:Int)=3)=false by decide,show decide ((1:Int)=1∨(1:Int)=3)=true by decide,reduceIte]at cK cC ⊢;generalize linkI l nx d s isD sh=R at *;have hb0:Below w.heap.size w (w.alloc (.cells #[.int .i64 1,.int .i64 d,.int .i64 dt,.string s,.string ns,.bool isD,.int .i64 sh] 38)):=(Below.refl _ w).alloc (Nat.le_refl _) _;have HI0:=Lib.hid (T.below h hb0);have HTR:Hid (Trod w (w.alloc (.cells #[.int .i64 1,.int .i64 d,.int .i64 dt,.string s,.string ns,.bool isD,.int .i64 sh] 38)) S S):=Lib.hid (Trod.of_below hb0);have HO:Hid ((w.alloc (.cells #[.int .i64 1,.int .i64 d,.int .i64 dt,.string s,.string ns,.bool isD,.int .i64 sh] 38)).heap[w.heap.size]?=some (.cells ⟨deC ⟨1,d,dt,s,ns,isD,sh⟩⟩ 38 (0,0))):=Lib.hid (heap_alloc_new _ _);clear hb0 h;go_enter Tryz.func36,Tryz.ntmps36;go_upto_region 1 with fail;generalize (w.alloc (.cells #[.int .i64 1,.int .i64 d,.int .i64 dt,.string s,.string ns,.bool isD,.int .i64 sh] 38))=W0 at *;generalize w.heap.size=bO at *;obtain⟨p0,p1,p2,p3,p4,p5,p6⟩:=de_cells HO.out;go_upto_region 2 with(go_at_call 74;refine(cK _).mono ?_;rintro e w1 ⟨f,rfl,hd1,hb1⟩;obtain⟨g9,rfl,hg9⟩:=hd1.link;have HB1:=Lib.hid hb1;have HG1:=Lib.hid hg9;clear hb1 hd1 hg9);have hb2:Below w1.heap.size w1 (w1.alloc (.cells #[.bool true,.bool false,.bool true,.func (.func 136) #[] #[ptV g9]] 129)):=(Below.refl _ w1).alloc (Nat.le_refl _) _;have hb3:Below W0.heap.size W0 (w1.alloc (.cells #[.bool true,.bool false,.bool true,.func (.func 136) #[] #[ptV g9]] 129)):=HB1.out.trans (hb2.mono HB1.out.size);have HI2:=Lib.hid (T.below HI0.out hb3);have HT2:=Lib.hid (HTR.out.trans (Trod.of_below (S:=S) hb3));have HO2:=Lib.hid ((hb3.block _ (lt_of_get HO.out)).trans HO.out);have HG2:=Lib.hid ((hb2.block _ (lt_of_get HG1.out)).trans HG1.out);have HK2:Hid ((w1.alloc (.cells #[.bool true,.bool false,.bool true,.func (.func 136) #[] #[ptV g9]] 129)).heap[w1.heap.size]?=some (.cells #[.bool true,.bool false,.bool true,.func (.func 136) #[] #[ptV g9]] 129 (0,0))):=Lib.hid (heap_alloc_new _ _);clear hb2 hb3 HB1 HI0 HTR HO HG1 p0 p1 p2 p3 p4 p5 p6 cK;generalize (w1.alloc (.cells #[.bool true,.bool false,.bool true,.func (.func 136) #[] #[ptV g9]] 129))=W2 at *;generalize w1.heap.size=b6 at *;obtain⟨p0,p1,p2,p3,p4,p5,p6⟩:=de_cells HO2.out;obtain⟨⟨q0,q1,q2,q3⟩,_⟩:=four_cells HK2.out;have cCC:=cC W2 g9 S HI2.out HG2.out;go_wp2_with (go_at_call 136;refine cCC.mono ?_;rintro e w3 ⟨S3,rfl,hi3,ht3⟩;have HI3:=Lib.hid hi3;have HT3:=Lib.hid ht3;clear hi3 ht3);go_ret2;exact⟨S3,rfl,HI3.out,HT2.out.trans HT3.out⟩
set_option maxHeartbeats 4000000 in
theorem deedDo_2 (x:De)(hk:x.k=2)(hm:May x)(h:T.Is w b l nx S)(hnx:nx+1≤9223372036854775807):Calls Tryz.prog 36 #[ptV b,deV x] w (DonePost T w b S (deI l nx x)):=by
  rw[deI_yes hm];unfold DonePost;have cK:=fun W=>ask_yes x W hm
  unfold AskPost kindV at cK;have hs1:x.s.size≤9223372036854775807:=by have:=hm.2.2.2.2.2.2.1;omega
  have hs2:x.ns.size≤9223372036854775807:=by have:=hm.2.2.2.2.2.2.2.1;omega
  clear hm;obtain⟨k,d,dt,s,ns,isD,sh⟩:=x;simp only at hk hs1 hs2;subst hk;have cC:=fun(W:World) (g:Nat) (S0:Nat→Prop) (hi:T.Is W b l nx S0) (hg:W.heap[g]?=some (.cells #[unlinkF] 184 (0,0)))=>unlinkBy1_c T ⟨2,d,dt,s,ns,isD,sh⟩ g hi hg
  unfold DonePost at cC;unfold deV at *;simp only[show decide ((2:Int)=1∨(2:Int)=2)=true by decide,show decide ((2:Int)=3)=false by decide,show decide ((2:Int)=1∨(2:Int)=3)=false by decide,reduceIte,show ¬(2:Int)=1 by decide]at cK cC ⊢;generalize unlinkI l nx d s isD=R at *;have hb0:Below w.heap.size w (w.alloc (.cells #[.int .i64 2,.int .i64 d,.int .i64 dt,.string s,.string ns,.bool isD,.int .i64 sh] 38)):=(Below.refl _ w).alloc (Nat.le_refl _) _;have HI0:=Lib.hid (T.below h hb0);have HTR:Hid (Trod w (w.alloc (.cells #[.int .i64 2,.int .i64 d,.int .i64 dt,.string s,.string ns,.bool isD,.int .i64 sh] 38)) S S):=Lib.hid (Trod.of_below hb0);have HO:Hid ((w.alloc (.cells #[.int .i64 2,.int .i64 d,.int .i64 dt,.string s,.string ns,.bool isD,.int .i64 sh] 38)).heap[w.heap.size]?=some (.cells ⟨deC ⟨2,d,dt,s,ns,isD,sh⟩⟩ 38 (0,0))):=Lib.hid (heap_alloc_new _ _);clear hb0 h;go_enter Tryz.func36,Tryz.ntmps36;go_upto_region 1 with fail;generalize (w.alloc (.cells #[.int .i64 2,.int .i64 d,.int .i64 dt,.string s,.string ns,.bool isD,.int .i64 sh] 38))=W0 at *;generalize w.heap.size=bO at *;obtain⟨p0,p1,p2,p3,p4,p5,p6⟩:=de_cells HO.out;go_upto_region 2 with(go_at_call 74;refine(cK _).mono ?_;rintro e w1 ⟨f,rfl,hd1,hb1⟩;obtain⟨g9,rfl,hg9⟩:=hd1.unlink;have HB1:=Lib.hid hb1;have HG1:=Lib.hid hg9;clear hb1 hd1 hg9);have hb2:Below w1.heap.size w1 (w1.alloc (.cells #[.bool true,.bool false,.bool false,.func (.func 141) #[] #[ptV g9]] 129)):=(Below.refl _ w1).alloc (Nat.le_refl _) _;have hb3:Below W0.heap.size W0 (w1.alloc (.cells #[.bool true,.bool false,.bool false,.func (.func 141) #[] #[ptV g9]] 129)):=HB1.out.trans (hb2.mono HB1.out.size);have HI2:=Lib.hid (T.below HI0.out hb3);have HT2:=Lib.hid (HTR.out.trans (Trod.of_below (S:=S) hb3));have HO2:=Lib.hid ((hb3.block _ (lt_of_get HO.out)).trans HO.out);have HG2:=Lib.hid ((hb2.block _ (lt_of_get HG1.out)).trans HG1.out);have HK2:Hid ((w1.alloc (.cells #[.bool true,.bool false,.bool false,.func (.func 141) #[] #[ptV g9]] 129)).heap[w1.heap.size]?=some (.cells #[.bool true,.bool false,.bool false,.func (.func 141) #[] #[ptV g9]] 129 (0,0))):=Lib.hid (heap_alloc_new _ _);clear hb2 hb3 HB1 HI0 HTR HO HG1 p0 p1 p2 p3 p4 p5 p6 cK;generalize (w1.alloc (.cells #[.bool true,.bool false,.bool false,.func (.func 141) #[] #[ptV g9]] 129))=W2 at *;generalize w1.heap.size=b6 at *;obtain⟨p0,p1,p2,p3,p4,p5,p6⟩:=de_cells HO2.out;obtain⟨⟨q0,q1,q2,q3⟩,_⟩:=four_cells HK2.out;have cCC:=cC W2 g9 S HI2.out HG2.out;go_wp2_with (go_at_call 141;refine cCC.mono ?_;rintro e w3 ⟨S3,rfl,hi3,ht3⟩;have HI3:=Lib.hid hi3;have HT3:=Lib.hid ht3;clear hi3 ht3);go_ret2;exact⟨S3,rfl,HI3.out,HT2.out.trans HT3.out⟩
set_option maxHeartbeats 4000000 in
theorem deedDo_3 (x:De)(hk:x.k=3)(hm:May x)(h:T.Is w b l nx S)(hnx:nx+1≤9223372036854775807):Calls Tryz.prog 36 #[ptV b,deV x] w (DonePost T w b S (deI l nx x)):=by
  rw[deI_yes hm];unfold DonePost;have cK:=fun W=>ask_yes x W hm
  unfold AskPost kindV at cK;have hs1:x.s.size≤9223372036854775807:=by have:=hm.2.2.2.2.2.2.1;omega
  have hs2:x.ns.size≤9223372036854775807:=by have:=hm.2.2.2.2.2.2.2.1;omega
  clear hm;obtain⟨k,d,dt,s,ns,isD,sh⟩:=x;simp only at hk hs1 hs2;subst hk;have cC:=fun(W:World) (g:Nat) (S0:Nat→Prop) (hi:T.Is W b l nx S0) (hg:W.heap[g]?=some (.cells #[moveF] 187 (0,0)))=>moveBy1_c T ⟨3,d,dt,s,ns,isD,sh⟩ g hi hs2 hnx hg
  unfold DonePost at cC;unfold deV at *;simp only[show decide ((3:Int)=1∨(3:Int)=2)=false by decide,show decide ((3:Int)=3)=true by decide,show decide ((3:Int)=1∨(3:Int)=3)=true by decide,reduceIte,show ¬(3:Int)=1 by decide,show ¬(3:Int)=2 by decide]at cK cC ⊢;generalize moveI l nx d s dt ns sh=R at *;have hb0:Below w.heap.size w (w.alloc (.cells #[.int .i64 3,.int .i64 d,.int .i64 dt,.string s,.string ns,.bool isD,.int .i64 sh] 38)):=(Below.refl _ w).alloc (Nat.le_refl _) _;have HI0:=Lib.hid (T.below h hb0);have HTR:Hid (Trod w (w.alloc (.cells #[.int .i64 3,.int .i64 d,.int .i64 dt,.string s,.string ns,.bool isD,.int .i64 sh] 38)) S S):=Lib.hid (Trod.of_below hb0);have HO:Hid ((w.alloc (.cells #[.int .i64 3,.int .i64 d,.int .i64 dt,.string s,.string ns,.bool isD,.int .i64 sh] 38)).heap[w.heap.size]?=some (.cells ⟨deC ⟨3,d,dt,s,ns,isD,sh⟩⟩ 38 (0,0))):=Lib.hid (heap_alloc_new _ _);clear hb0 h;go_enter Tryz.func36,Tryz.ntmps36;go_upto_region 1 with fail;generalize (w.alloc (.cells #[.int .i64 3,.int .i64 d,.int .i64 dt,.string s,.string ns,.bool isD,.int .i64 sh] 38))=W0 at *;generalize w.heap.size=bO at *;obtain⟨p0,p1,p2,p3,p4,p5,p6⟩:=de_cells HO.out;go_upto_region 2 with(go_at_call 74;refine(cK _).mono ?_;rintro e w1 ⟨f,rfl,hd1,hb1⟩;obtain⟨g9,rfl,hg9⟩:=hd1.move;have HB1:=Lib.hid hb1;have HG1:=Lib.hid hg9;clear hb1 hd1 hg9);have hb2:Below w1.heap.size w1 (w1.alloc (.cells #[.bool false,.bool true,.bool true,.func (.func 145) #[] #[ptV g9]] 129)):=(Below.refl _ w1).alloc (Nat.le_refl _) _;have hb3:Below W0.heap.size W0 (w1.alloc (.cells #[.bool false,.bool true,.bool true,.func (.func 145) #[] #[ptV g9]] 129)):=HB1.out.trans (hb2.mono HB1.out.size);have HI2:=Lib.hid (T.below HI0.out hb3);have HT2:=Lib.hid (HTR.out.trans (Trod.of_below (S:=S) hb3));have HO2:=Lib.hid ((hb3.block _ (lt_of_get HO.out)).trans HO.out);have HG2:=Lib.hid ((hb2.block _ (lt_of_get HG1.out)).trans HG1.out);have HK2:Hid ((w1.alloc (.cells #[.bool false,.bool true,.bool true,.func (.func 145) #[] #[ptV g9]] 129)).heap[w1.heap.size]?=some (.cells #[.bool false,.bool true,.bool true,.func (.func 145) #[] #[ptV g9]] 129 (0,0))):=Lib.hid (heap_alloc_new _ _);clear hb2 hb3 HB1 HI0 HTR HO HG1 p0 p1 p2 p3 p4 p5 p6 cK;generalize (w1.alloc (.cells #[.bool false,.bool true,.bool true,.func (.func 145) #[] #[ptV g9]] 129))=W2 at *;generalize w1.heap.size=b6 at *;obtain⟨p0,p1,p2,p3,p4,p5,p6⟩:=de_cells HO2.out;obtain⟨⟨q0,q1,q2,q3⟩,_⟩:=four_cells HK2.out;have cCC:=cC W2 g9 S HI2.out HG2.out;go_wp2_with (go_at_call 145;refine cCC.mono ?_;rintro e w3 ⟨S3,rfl,hi3,ht3⟩;have HI3:=Lib.hid hi3;have HT3:=Lib.hid ht3;clear hi3 ht3);go_ret2;exact⟨S3,rfl,HI3.out,HT2.out.trans HT3.out⟩
set_option maxHeartbeats 4000000 in
theorem deedDo_no (x:De)(hm:¬May x)(h:T.Is w b l nx S):Calls Tryz.prog 36 #[ptV b,deV x] w (DonePost T w b S (deI l nx x)):=by
  unfold DonePost deI;rw[if_neg hm];have cK:=fun W=>ask_no x W hm
  unfold AskNo at cK;clear hm;obtain⟨k,d,dt,s,ns,isD,sh⟩:=x;unfold deV at *;simp only at cK ⊢;have hb0:Below w.heap.size w (w.alloc (.cells #[.int .i64 k,.int .i64 d,.int .i64 dt,.string s,.string ns,.bool isD,.int .i64 sh] 38)):=(Below.refl _ w).alloc (Nat.le_refl _) _;have HB0:=Lib.hid hb0;have HI:=Lib.hid h;clear hb0 h;go_enter Tryz.func36,Tryz.ntmps36;go_wp2_with (go_at_call 74;refine(cK _).mono ?_;rintro e w1 ⟨rfl,hb1⟩;have HB1:=Lib.hid hb1;clear hb1);go_ret2;have hs:=HB0.out.size;have hs1:=HB1.out.size;have hb9:=(HB0.out.trans (HB1.out.mono hs)).alloc (show w.heap.size≤w1.heap.size by omega) (.cells #[.bool false,.bool false,.bool false,.nilFunc] 129);exact⟨S,rfl,T.below HI.out hb9,Trod.of_below hb9⟩
theorem deedDo_c (x:De)(h:T.Is w b l nx S)(hnx:nx+1≤9223372036854775807):Calls Tryz.prog 36 #[ptV b,deV x] w (DonePost T w b S (deI l nx x)):=by
  by_cases hm:May x
  · rcases hm.1 with hk|hk|hk
    · exact deedDo_1 T x hk hm h hnx
    · exact deedDo_2 T x hk hm h hnx
    · exact deedDo_3 T x hk hm h hnx
  · exact deedDo_no T x hm h
end
end Go.Proofs.YtdmkhmeaphaapaaGreat
namespace Go.Proofs.YtdmkhmeaphaapaaGreat
open Go.RowKit Go.Sort
set_option linter.unusedVariables false
set_option linter.unusedSimpArgs false
abbrev DeTs:=@LstIs De deC 7
theorem de_at {w:World}{g p:Nat}{x:De}(h:w.rangeAt g p (deC x)):w.cell? ⟨g,p,none⟩=some (.int .i64 x.k)∧w.cell? ⟨g,p+1,none⟩=some (.int .i64 x.d)∧w.cell? ⟨g,p+2,none⟩=some (.int .i64 x.dt)∧w.cell? ⟨g,p+3,none⟩=some (.string x.s)∧w.cell? ⟨g,p+4,none⟩=some (.string x.ns)∧w.cell? ⟨g,p+5,none⟩=some (.bool x.isD)∧w.cell? ⟨g,p+6,none⟩=some (.int .i64 x.sh):=
  ⟨h 0 _ rfl,h 1 _ rfl,h 2 _ rfl,h 3 _ rfl,h 4 _ rfl,h 5 _ rfl,h 6 _ rfl⟩
def shortDe (x:De):Bool:=decide (x.s.size≤300)&&decide (x.ns.size≤300)
def fewDI (l:List De)(n:Nat):Bool:=(l.take 500).all shortDe&&decide (l.length≤n)
theorem fewDI_spec {l:List De}{n:Nat}(h:fewDI l n=true)(hn:n≤500):l.length≤n∧∀x∈l,x.s.size≤300∧x.ns.size≤300:=by
  unfold fewDI at h;rw[Bool.and_eq_true,decide_eq_true_eq]at h;refine⟨h.2,fun x hx=>?_⟩;rw[List.take_of_length_le (by omega)]at h;have:=List.all_eq_true.1 h.1 x hx;unfold shortDe at this;simpa using this
theorem take500D {l:List De}{i:Nat}{x:De}(hx:l[i]?=some x)(hi:i<500):(l.drop i).take (500-i)=x::(l.drop (i+1)).take (500-(i+1)):=by
  rw[drop_eq_cons hx,show 500-i=(500-(i+1))+1 by omega,List.take_succ_cons]
set_option maxHeartbeats 3000000 in
theorem few11_c (v:Value)(l:List De)(n:Nat)(w:World)(hv:DeTs w v l)(hl:l.length≤9223372036854775807)(hn:n≤1000)(hs:∀x∈l,x.s.size≤9223372036854775807∧x.ns.size≤9223372036854775807) :
    Calls Tryz.prog 19 #[v,.int .i64 (n:Int)] w fun e w'=>e=.returned (.bool (fewDI l n))∧w'=w:=by
  obtain⟨a,cap,rfl⟩:=hv.len;obtain⟨R,hR⟩:∃R,fewDI l n=R:=⟨_,rfl⟩;rw[hR];have HRR:=Lib.hid hR;have HV:=Lib.hid hv;obtain⟨m,hm⟩:∃m,l.length=m:=⟨_,rfl⟩;have HM:=Lib.hid hm;rw[hm]at hl ⊢;have HS:=Lib.hid hs;clear hv hm hR hs;go_enter Tryz.func19,Tryz.ntmps19;go_wp2;go_loop [5] (fun iv=>∃i:Nat,i≤m∧i≤500∧iv=.int .i64 i∧(((l.drop i).take (500-i)).all shortDe&&decide (l.length≤n))=R) (fun iv=>501-(intOf iv).toNat)
  case atStart=>exact⟨0,by omega,by omega,rfl,HRR.out⟩
  case round =>
    obtain⟨i,hi,hi5,rfl,hgo⟩:=hrel;have HGO:=Lib.hid hgo;clear hgo;by_cases him:i<m∧i<500
    · obtain⟨h1,h2⟩:=him;have h1z:(i:Int)<(m:Int):=by omega
      have h2z:(i:Int)<500:=by omega
      obtain⟨x,hx⟩:∃x,l[i]?=some x:=⟨_,List.getElem?_eq_getElem (by rw[HM.out];omega)⟩;obtain⟨g,off,rfl,hg,hr⟩:=HV.out.at hx;obtain⟨d0,d1,d2,d3,d4,d5,d6⟩:=de_at hr;have hsx:=HS.out x (List.mem_of_getElem? hx);have HG:Hid ((shortDe x&&(((l.drop (i+1)).take (500-(i+1))).all shortDe&&decide (l.length≤n)))=R):=Lib.hid (by rw[←HGO.out,take500D hx h2,List.all_cons,Bool.and_assoc]);obtain⟨hs1,hs2⟩:=hsx;clear hx hr hg;obtain⟨k,d,dt,s,ns,isD,sh⟩:=x;simp only at d0 d1 d2 d3 d4 d5 d6 hs1 hs2;by_cases hb:300<s.size∨300<ns.size
      · have HF:Hid (R=false):=Lib.hid (by
          rw[←HG.out,Bool.and_eq_false_iff];left;unfold shortDe;simp only[Bool.and_eq_false_iff,decide_eq_false_iff_not];omega)
        by_cases hb1:300<s.size
        · have e1:(300:Int)<(s.size:Int):=by omega
          have e2:=decide_eq_true e1;clear hb;go_wp2;go_ret;exact⟨by rw[HF.out];rfl,rfl⟩
        · have e1:¬(300:Int)<(s.size:Int):=by omega
          have e2:=decide_eq_false e1;have e3:(300:Int)<(ns.size:Int):=by omega
          have e4:=decide_eq_true e3;clear hb;go_wp2;go_ret;exact⟨by rw[HF.out];rfl,rfl⟩
      · have HF:Hid ((((l.drop (i+1)).take (500-(i+1))).all shortDe&&decide (l.length≤n))=R):=Lib.hid (by
          have h9:=HG.out;rw[show shortDe ⟨k,d,dt,s,ns,isD,sh⟩=true by unfold shortDe;simp;omega,Bool.true_and]at h9;exact h9)
        have e1:¬(300:Int)<(s.size:Int):=by omega
        have e2:=decide_eq_false e1;have e3:¬(300:Int)<(ns.size:Int):=by omega
        have e4:=decide_eq_false e3;clear hb;go_wp2;go_round
        case rel=>exact⟨i+1,by omega,by omega,by first|rfl|go_num,HF.out⟩
        case measure=>simp[intOf];omega
    · have HF:Hid (R=decide (m≤n)):=Lib.hid (by
        rw[←HGO.out];have:(l.drop i).take (500-i)=[]:=by
          by_cases h5:i=500
          · subst h5;rfl
          · rw[List.drop_of_length_le (by rw[HM.out];omega),List.take_nil]
        rw[this,HM.out];rfl)
      have hlast:decide ((m:Int)≤(n:Int))=decide (m≤n):=by
        congr 1;exact propext (by omega)
      by_cases hmi:i<m
      · have h1z:(i:Int)<(m:Int):=by omega
        have h2z:¬(i:Int)<500:=by omega
        have e1:=decide_eq_true h1z;have e2:=decide_eq_false h2z;clear him;go_wp2;go_ret;exact⟨by rw[HF.out,←hlast];simp,rfl⟩
      · have h1z:¬(i:Int)<(m:Int):=by omega
        have e1:=decide_eq_false h1z;clear him;go_wp2;go_ret;exact⟨by rw[HF.out,←hlast];simp,rfl⟩
end Go.Proofs.YtdmkhmeaphaapaaGreat
