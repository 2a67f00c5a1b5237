/- Kit. -/
import Derived.Test.YtdmkhmeaphaapaaGreatMZ1
import Derived.Deep.AppendLies
import Derived.Deep.RegionLaw
import Derived.Deep.RegionHeld3
import Derived.Test.YtdmkhmeaphaapaaGreatMZ0
set_option maxRecDepth 100000
set_option linter.unusedVariables false
set_option linter.unusedSimpArgs false
namespace Go.Proofs.YtdmkhmeaphaapaaGreat
open Go.RowKit Go.Sort
def Ei (s:ByteArray)(sh:Int):Int:=if GZ s=true then(if sh<0∨1000000<sh then 1 else 0) else 3
theorem eY (s:ByteArray)(hs:s.size≤9223372036854775807)(sh:Int)(w:World):Calls Tryz.prog 122 #[.string s,.int .i64 sh] w fun e w'=>e=.returned (.int .i64 (Ei s sh))∧w'=w:=by
 have cG:=gI s hs w;obtain⟨E,hE⟩:∃E,Ei s sh=E:=⟨_,rfl⟩;rw[hE];unfold Ei at hE;cases hg:GZ s with
 | false =>
  rw[hg]at cG hE;rw[if_neg (by simp)]at hE;subst hE;clear hg;go_enter Tryz.func122,Tryz.ntmps122;go_wp2_with fail;refine cG.mono ?_;rintro e w1 ⟨rfl,rfl⟩;clear cG;go_wp2;go_ret;exact⟨rfl,rfl⟩
 | true =>
  rw[hg]at cG hE;rw[if_pos rfl]at hE;clear hg;by_cases h1:sh<0
  · rw[if_pos (Or.inl h1)]at hE;subst hE;have h1d:decide (sh<0)=true:=AX h1;go_enter Tryz.func122,Tryz.ntmps122;go_wp2_with fail;refine cG.mono ?_;rintro e w1 ⟨rfl,rfl⟩;clear cG;go_wp2;go_ret;exact⟨rfl,rfl⟩
  · have h1d:decide (sh<0)=false:=A7 h1;by_cases h2:1000000<sh
    · rw[if_pos (Or.inr h2)]at hE;subst hE;have h2d:decide (1000000<sh)=true:=AX h2;go_enter Tryz.func122,Tryz.ntmps122;go_wp2_with fail;refine cG.mono ?_;rintro e w1 ⟨rfl,rfl⟩;clear cG;go_wp2;go_ret;exact⟨rfl,rfl⟩
    · rw[if_neg (by omega)]at hE;subst hE;have h2d:decide (1000000<sh)=false:=A7 h2;go_enter Tryz.func122,Tryz.ntmps122;go_wp2_with fail;refine cG.mono ?_;rintro e w1 ⟨rfl,rfl⟩;clear cG;go_wp2;go_ret;exact⟨rfl,rfl⟩
def Dn (l:List Az)(nx d:Int)(e:Bq):List Az:=l++[⟨d,{ e with Am:=nx }⟩]
theorem MO {B:Nat}{T:TypeId}{c:Nat}{w:World}{v:Value}{n:Nat}{xs:List Value}(ho:w.ownsRow B T c v n xs){b:Nat}(hb:b<B)(o:Nat)(x:Value):(w.setCell ⟨b,o,none⟩ x).ownsRow B T c v n xs:=
 World.ownsRow.kept (row:=some b) ho ⟨rfl,rfl,rfl,by simp[World.setCell],fun k hk hne=>Bw w ⟨b,o,none⟩ x k (fun e=>hne (by rw[e]))⟩ (Or.inr (fun e=>by have:=(ho.lt b e).1;omega))
theorem ES {B:Nat}{W0 W:World}{o:Obj}(h:Below B W0 W)(hB:B≤W0.heap.size):Below B W0 (W.alloc o):=h.alloc (Al hB h.size) o
theorem aU {B:Nat}{W0 W:World}{x y:Value}(h:Below B W0 W):Below B W0 ((W.setCell ⟨B,0,none⟩ x).setCell ⟨B,1,none⟩ y):=(h.setCell (p:=⟨B,0,none⟩) (Ae _) _).setCell (p:=⟨B,1,none⟩) (Ae _) _
theorem GU {B:Nat}{T:TypeId}{c:Nat}{w7:World}{v:Value}{n:Nat}{xs:List Value}(ho:w7.ownsRow B T c v n xs):∃a k cp,v=.slice a k cp:=by
 rcases ho.2 with⟨h,_⟩|⟨g,cap,cur,h,_⟩
 · exact⟨_,_,_,h⟩
 · exact⟨_,_,_,h⟩
def IB (l:List Az)(nx:Int)(w0:World)(e:Ending)(w':World):Prop:=∃v',e=.returned (Bo v' nx)∧Bi w' v' l∧(∀g,v'.ownBlock=some g→w0.heap.size≤g)∧Below w0.heap.size w0 w'
set_option maxHeartbeats 8000000 in
theorem dB (v:Value)(l:List Az)(nx d:Int)(e:Bq)(w:World)(hv:MG w v l)(hl:l.length≤1000)(hnx:nx+1≤9223372036854775807)(WM:0≤nx) :
 Calls Tryz.prog 124 #[Bo v nx,.int .i64 d,Df e] w (IB (Dn l nx d e) (nx+1) w):=by
 unfold IB;obtain⟨nm,nd,dr,ck,sh⟩:=e;have HPU:Hid (Dn l nx d ⟨nm,nd,dr,ck,sh⟩=l++[(Az.mk d (Bq.mk nm nd dr nx sh))]):=Aa rfl;obtain⟨a,cap,rfl⟩:=hv.len;obtain⟨m,hm⟩:∃m,l.length=m:=⟨_,rfl⟩;have HM:=Aa hm;rw[hm]at hv hl ⊢;have HV:=Aa hv;unfold Bo Df;clear hv hm;go_enter Tryz.func124,Tryz.ntmps124;go_upto_region 2 with fail;have s1:(w.alloc (.cells #[.slice a m cap,.int .i64 nx] 31)).heap.size=w.heap.size+1:=by simp
 have s2:((w.alloc (.cells #[.slice a m cap,.int .i64 nx] 31)).alloc (.cells #[.string nm,.int .i64 nd,.bool dr,.int .i64 nx,.int .i64 sh] 112)).heap.size=w.heap.size+1+1:=by simp
 have HT:Hid (Dz (((w.alloc (.cells #[.slice a m cap,.int .i64 nx] 31)).alloc (.cells #[.string nm,.int .i64 nd,.bool dr,.int .i64 nx,.int .i64 sh] 112)).alloc (.cells #[.slice none 0 0,.int .i64 0] 31)) w.heap.size (.slice a m cap) nx):=Aa (by
  unfold Dz;rw[Cx _ _ _ (by rw[s2];omega),Cx _ _ _ (by rw[s1];omega)];exact Ai _ _)
 have HE:Hid ((((w.alloc (.cells #[.slice a m cap,.int .i64 nx] 31)).alloc (.cells #[.string nm,.int .i64 nd,.bool dr,.int .i64 nx,.int .i64 sh] 112)).alloc (.cells #[.slice none 0 0,.int .i64 0] 31)).heap[w.heap.size+1]?=some (.cells #[.string nm,.int .i64 nd,.bool dr,.int .i64 nx,.int .i64 sh] 112 (0,0))):=Aa (by
  rw[Cx _ _ _ (by rw[s2];omega),←s1];exact Ai _ _)
 have fo:Hid ((((w.alloc (.cells #[.slice a m cap,.int .i64 nx] 31)).alloc (.cells #[.string nm,.int .i64 nd,.bool dr,.int .i64 nx,.int .i64 sh] 112)).alloc (.cells #[.slice none 0 0,.int .i64 0] 31)).heap[w.heap.size+1+1]?=some (.cells #[.slice none 0 0,.int .i64 0] 31 (0,0))):=Aa (by
  rw[←s2];exact Ai _ _)
 have HB0:Hid (Below w.heap.size w (((w.alloc (.cells #[.slice a m cap,.int .i64 nx] 31)).alloc (.cells #[.string nm,.int .i64 nd,.bool dr,.int .i64 nx,.int .i64 sh] 112)).alloc (.cells #[.slice none 0 0,.int .i64 0] 31))):=Aa ((((Ad _ w).alloc (Ae _) _).alloc (by rw[s1];omega) _).alloc (by rw[s2];omega) _);generalize ((w.alloc (.cells #[.slice a m cap,.int .i64 nx] 31)).alloc (.cells #[.string nm,.int .i64 nd,.bool dr,.int .i64 nx,.int .i64 sh] 112)).alloc (.cells #[.slice none 0 0,.int .i64 0] 31)=W0 at *;clear s1 s2;have Zg:=Aa (AU.kept HV.out HB0.out);clear HV;have HV:=Zg;clear Zg;generalize Td:w.heap.size=bT at *;have VN:=Aa Td;clear Td;have c0:W0.drew.cell? ⟨bT,0,none⟩=some (.slice a m cap):=HT.out.l.1;have c1:W0.drew.cell? ⟨bT,1,none⟩=some (.int .i64 nx):=HT.out.l.2;obtain⟨⟨e0,e1,e2,e3,e4⟩,_⟩:=Ah (W:=W0.drew) HE.out;have HR:Hid (∀W:World,Below W0.heap.size W0 W→W.cell? ⟨bT+1+1,0,none⟩=some (.slice none 0 0)∧W.cell? ⟨bT+1+1,1,none⟩=some (.int .i64 0)∧W.frozen? ⟨bT+1+1,0,none⟩=false∧W.frozen? ⟨bT+1+1,1,none⟩=false):=Aa (fun W hW=>by
  have h:=(hW.block _ (Ab fo.out)).trans fo.out;exact⟨Av h 0,Av h 1,BA h 0,BA h 1⟩)
 have hwr:IntKind.i64.wrap (nx+1)=nx+1:=by rw[El];omega
 have hlen1:0+l.length≤100000:=by have:=HM.out;omega
 have wQ:0+l.length+[((Az.mk d (Bq.mk nm nd dr nx sh)):Az)].length≤100000:=by have:=HM.out;simp;omega
 have HBa:Hid (Below W0.heap.size W0 ((W0.alloc (.cells #[] 195)).alloc (.cells #[.int .i64 d,.string nm,.int .i64 nd,.bool dr,.int .i64 nx,.int .i64 sh] 195)).drew):=Aa (((((Ad _ W0).alloc (Ae _) _).alloc (by simp) _)).drew);have HOa:Hid (World.ownsRow ((W0.alloc (.cells #[] 195)).alloc (.cells #[.int .i64 d,.string nm,.int .i64 nd,.bool dr,.int .i64 nx,.int .i64 sh] 195)).drew W0.heap.size 195 6 (.slice (some ⟨W0.heap.size,0,none⟩) 0 0) 0 []):=Aa (Rb (show((W0.alloc _).alloc _).heap[W0.heap.size]?=_ by rw[Cx _ _ _ (by simp)];exact Ai _ _) (by omega));have HIa:Hid ((((W0.alloc (.cells #[] 195)).alloc (.cells #[.int .i64 d,.string nm,.int .i64 nd,.bool dr,.int .i64 nx,.int .i64 sh] 195)).drew).heap[W0.heap.size+1]?=some (.cells (Kz (Az.mk d (Bq.mk nm nd dr nx sh))).toArray 195 (0,0))):=Aa (show((W0.alloc _).alloc _).heap[W0.heap.size+1]?=_ from heap_alloc2_new _ _ _);have HVa:=Aa (HV.out.kept HBa.out);have HLa:Hid (W0.heap.size≤(((W0.alloc (.cells #[] 195)).alloc (.cells #[.int .i64 d,.string nm,.int .i64 nd,.bool dr,.int .i64 nx,.int .i64 sh] 195)).drew).heap.size):=Aa HBa.out.size;have HBb:Hid (Below W0.heap.size W0 (W0.alloc (.cells #[] 195)).drew):=Aa ((((Ad _ W0).alloc (Ae _) _)).drew);have HOb:Hid (World.ownsRow (W0.alloc (.cells #[] 195)).drew W0.heap.size 195 6 (.slice (some ⟨W0.heap.size,0,none⟩) 0 0) 0 []):=Aa (Rb (show(W0.alloc _).heap[W0.heap.size]?=_ from Ai _ _) (by omega));have HVb:=Aa (HV.out.kept HBb.out);have HLb:Hid (W0.heap.size≤((W0.alloc (.cells #[] 195)).drew).heap.size):=Aa HBb.out.size;have HBc:Hid (Below W0.heap.size W0 ((W0.alloc (.cells #[.int .i64 d,.string nm,.int .i64 nd,.bool dr,.int .i64 nx,.int .i64 sh] 195)).alloc (.cells #[] 195)).drew):=Aa (((((Ad _ W0).alloc (Ae _) _).alloc (by simp) _)).drew);have HOc:Hid (World.ownsRow ((W0.alloc (.cells #[.int .i64 d,.string nm,.int .i64 nd,.bool dr,.int .i64 nx,.int .i64 sh] 195)).alloc (.cells #[] 195)).drew W0.heap.size 195 6 (.slice (some ⟨W0.heap.size+1,0,none⟩) 0 0) 0 []):=Aa (Rb (show((W0.alloc _).alloc _).heap[W0.heap.size+1]?=_ from heap_alloc2_new _ _ _) (by omega));have HIc:Hid ((((W0.alloc (.cells #[.int .i64 d,.string nm,.int .i64 nd,.bool dr,.int .i64 nx,.int .i64 sh] 195)).alloc (.cells #[] 195)).drew).heap[W0.heap.size]?=some (.cells (Kz (Az.mk d (Bq.mk nm nd dr nx sh))).toArray 195 (0,0))):=Aa (show((W0.alloc _).alloc _).heap[W0.heap.size]?=_ by rw[Cx _ _ _ (by simp)];exact Ai _ _);have HVc:=Aa (HV.out.kept HBc.out);have HLc:Hid (W0.heap.size≤(((W0.alloc (.cells #[.int .i64 d,.string nm,.int .i64 nd,.bool dr,.int .i64 nx,.int .i64 sh] 195)).alloc (.cells #[] 195)).drew).heap.size):=Aa HBc.out.size;have HBd:Hid (Below W0.heap.size W0 (W0.alloc (.cells #[.int .i64 d,.string nm,.int .i64 nd,.bool dr,.int .i64 nx,.int .i64 sh] 195)).drew):=Aa ((((Ad _ W0).alloc (Ae _) _)).drew);have Pt:Hid (bT+1+1≤W0.heap.size):=Aa (by have:=Ab fo.out;omega);have M4:Hid (∀W:World,Below (bT+1+1) W0 W→Below (bT+1+1) W0 W∧W.cell? ⟨bT,0,none⟩=some (.slice a m cap)∧W.cell? ⟨bT,1,none⟩=some (.int .i64 nx)∧W.cell? ⟨bT+1,0,none⟩=some (.string nm)∧W.cell? ⟨bT+1,1,none⟩=some (.int .i64 nd)∧W.cell? ⟨bT+1,2,none⟩=some (.bool dr)∧W.cell? ⟨bT+1,3,none⟩=some (.int .i64 nx)∧W.cell? ⟨bT+1,4,none⟩=some (.int .i64 sh)):=Aa (fun W hW =>
  ⟨hW,by rw[hW.cell (p:=⟨bT,0,none⟩) (by show bT<_;omega)];exact c0,by rw[hW.cell (p:=⟨bT,1,none⟩) (by show bT<_;omega)];exact c1,by rw[hW.cell (p:=⟨bT+1,0,none⟩) (by show bT+1<_;omega)];exact e0,by rw[hW.cell (p:=⟨bT+1,1,none⟩) (by show bT+1<_;omega)];exact e1,by rw[hW.cell (p:=⟨bT+1,2,none⟩) (by show bT+1<_;omega)];exact e2,by rw[hW.cell (p:=⟨bT+1,3,none⟩) (by show bT+1<_;omega)];exact e3,by rw[hW.cell (p:=⟨bT+1,4,none⟩) (by show bT+1<_;omega)];exact e4⟩)
 clear c0 c1 e0 e1 e2 e3 e4;go_region_held3 (fun W=>Below (bT+1+1) W0 W∧W.cell? ⟨bT,0,none⟩=some (.slice a m cap)∧W.cell? ⟨bT,1,none⟩=some (.int .i64 nx)∧W.cell? ⟨bT+1,0,none⟩=some (.string nm)∧W.cell? ⟨bT+1,1,none⟩=some (.int .i64 nd)∧W.cell? ⟨bT+1,2,none⟩=some (.bool dr)∧W.cell? ⟨bT+1,3,none⟩=some (.int .i64 nx)∧W.cell? ⟨bT+1,4,none⟩=some (.int .i64 sh)) (first|assumption|(refine M4.out _ ?_;first|assumption|exact(HBa.out.mono Pt.out)|exact(HBb.out.mono Pt.out)|exact(HBc.out.mono Pt.out)|exact(HBd.out.mono Pt.out)|exact(Ad _ _).drew|exact CL ‹_›|exact ES ‹_› Pt.out|exact aU ‹_›)) (first
  | (refine CS K9 rfl _ _ rfl W0.heap.size (.slice (some ⟨W0.heap.size,0,none⟩) 0 0) 0 [] rfl HOa.out (.slice a m cap) l (Fu l) (fun x _=>Ju x) rfl HVa.out hlen1 HLa.out ?_;intro v7 w7 wO yS wM;have IG:Below W0.heap.size W0 w7:=HBa.out.grown yS HLa.out (fun j hj=>(HOa.out.lt j hj).1);have ky:=IG.mono Pt.out;obtain⟨a7,k7,c7,hv7⟩:=GU wO;subst hv7;have ed:w7.heap[W0.heap.size+1]?=some (.cells (Kz (Az.mk d (Bq.mk nm nd dr nx sh))).toArray 195 (0,0)):=by rw[yS.block _ (Ab HIa.out) (fun e=>by have e2:W0.heap.size+1=W0.heap.size:=Cm e;omega)];exact HIa.out)
  | (refine CS K9 rfl _ _ rfl W0.heap.size (.slice (some ⟨W0.heap.size,0,none⟩) 0 0) 0 [] rfl HOb.out (.slice a m cap) l (Fu l) (fun x _=>Ju x) rfl HVb.out hlen1 HLb.out ?_;intro v7 w7 wO yS wM;have IG:Below W0.heap.size W0 w7:=HBb.out.grown yS HLb.out (fun j hj=>(HOb.out.lt j hj).1);have ky:=IG.mono Pt.out;obtain⟨a7,k7,c7,hv7⟩:=GU wO;subst hv7;have yV:=IG.alloc IG.size (.cells #[.int .i64 d,.string nm,.int .i64 nd,.bool dr,.int .i64 nx,.int .i64 sh] 195);have AaH:=wO.alloc (.cells #[.int .i64 d,.string nm,.int .i64 nd,.bool dr,.int .i64 nx,.int .i64 sh] 195);have ed:(w7.alloc (.cells #[.int .i64 d,.string nm,.int .i64 nd,.bool dr,.int .i64 nx,.int .i64 sh] 195)).heap[w7.heap.size]?=some (.cells (Kz (Az.mk d (Bq.mk nm nd dr nx sh))).toArray 195 (0,0)):=Ai _ _)
  | (refine CS K9 rfl _ _ rfl W0.heap.size (.slice (some ⟨W0.heap.size+1,0,none⟩) 0 0) 0 [] rfl HOc.out (.slice a m cap) l (Fu l) (fun x _=>Ju x) rfl HVc.out hlen1 HLc.out ?_;intro v7 w7 wO yS wM;have IG:Below W0.heap.size W0 w7:=HBc.out.grown yS HLc.out (fun j hj=>(HOc.out.lt j hj).1);have ky:=IG.mono Pt.out;obtain⟨a7,k7,c7,hv7⟩:=GU wO;subst hv7;have ed:w7.heap[W0.heap.size]?=some (.cells (Kz (Az.mk d (Bq.mk nm nd dr nx sh))).toArray 195 (0,0)):=by rw[yS.block _ (Ab HIc.out) (fun e=>by have e2:W0.heap.size=W0.heap.size+1:=Cm e;omega)];exact HIc.out)
  | (refine CS K9 rfl _ _ rfl W0.heap.size _ (0+l.length) ([]++l.flatMap Kz) rfl wO _ [((Az.mk d (Bq.mk nm nd dr nx sh)):Az)] (Fu _) (fun x _=>Ju x) rfl (AU.block (Fu _) ed) wQ IG.size ?_;intro v8 w8 Gg Gy KC;have Hr:Below W0.heap.size W0 w8:=IG.grown Gy IG.size (fun j hj=>(wO.lt j hj).1);have hq8:=Hr.mono Pt.out;obtain⟨z0,z1,y0,y1⟩:=HR.out w8 Hr;obtain⟨a8,k8,c8,PZ⟩:=GU Gg;subst PZ)
  | (refine CS K9 rfl _ _ rfl W0.heap.size _ (0+l.length) ([]++l.flatMap Kz) rfl AaH _ [((Az.mk d (Bq.mk nm nd dr nx sh)):Az)] (Fu _) (fun x _=>Ju x) rfl (AU.block (Fu _) ed) wQ yV.size ?_;intro v8 w8 Gg Gy KC;have Hr:Below W0.heap.size W0 w8:=yV.grown Gy yV.size (fun j hj=>(AaH.lt j hj).1);have hq8:=Hr.mono Pt.out;obtain⟨z0,z1,y0,y1⟩:=HR.out w8 Hr;obtain⟨a8,k8,c8,PZ⟩:=GU Gg;subst PZ))
 all_goals
  have yK:bT+1+1<W0.heap.size:=Ab fo.out;have H8:World.ownsRow w8 W0.heap.size 195 6 (.slice a8 k8 c8) (l++[(Az.mk d (Bq.mk nm nd dr nx sh))]).length ((l++[(Az.mk d (Bq.mk nm nd dr nx sh))]).flatMap Kz):=by
   have:=Gg;rw[Gl,Hm]at this;rw[Bg,FL];exact this
  have HX:Hid (Bi ((w8.setCell ⟨bT+1+1,0,none⟩ (.slice a8 k8 c8)).setCell ⟨bT+1+1,1,none⟩ (.int .i64 (nx+1))) (.slice a8 k8 c8) (l++[(Az.mk d (Bq.mk nm nd dr nx sh))])):=Aa (Bi.own (MO (MO H8 yK 0 _) yK 1 _) rfl);have h8:w8.heap[bT+1+1]?=some (.cells #[.slice none 0 0,.int .i64 0] 31 (0,0)):=(Hr.block _ yK).trans fo.out;have HZ:Hid (((w8.setCell ⟨bT+1+1,0,none⟩ (.slice a8 k8 c8)).setCell ⟨bT+1+1,1,none⟩ (.int .i64 (nx+1))).heap[bT+1+1]?=some (.cells #[.slice a8 k8 c8,.int .i64 (nx+1)] 31 (0,0))):=Aa (by
   rw[Bj _ (bT+1+1) 1 _ _ _ (Bj _ (bT+1+1) 0 _ _ _ h8)];rfl)
  have GD:Hid (Below bT w ((w8.setCell ⟨bT+1+1,0,none⟩ (.slice a8 k8 c8)).setCell ⟨bT+1+1,1,none⟩ (.int .i64 (nx+1)))):=Aa (((HB0.out.trans (Hr.mono (by omega))).setCell (p:=⟨bT+1+1,0,none⟩) (by show bT≤bT+1+1;omega) _).setCell (p:=⟨bT+1+1,1,none⟩) (by show bT≤bT+1+1;omega) _);have HOW:Hid (∀j,(Value.slice a8 k8 c8).ownBlock=some j→W0.heap.size≤j):=Aa (fun j hj=>(Gg.lt j hj).1);clear Gg H8 Hr h8 z0 z1 y0 y1;go_wp2;refine Br (results_cell_row Tryz.results124 _ _ _ _ _ _ _ rfl HZ.out Tryz.underlying31 rfl (by kernel_rfl)) rfl ⟨_,rfl,?_,?_,?_⟩
  · rw[HPU.out];exact HX.out
  · intro j hj;have:=HOW.out j hj;have:=VN.out;omega
  · rw[VN.out];exact GD.out
theorem aI {l:List Az}{i:Nat}{x:Az}(h:l[i]?=some x)(d:Int)(s:ByteArray):Bv (l.take (i+1)) d s=Bv (l.take i) d s++(if x.BG=d∧x.e.name=s then [] else [x]):=by
 unfold Bv;rw[Hw h,List.filter_append];congr 1;by_cases h1:x.BG=d<;>by_cases h2:x.e.name=s<;>simp[h1,h2]
theorem YP (l:List Az)(d:Int)(s:ByteArray):(Bv l d s).length≤l.length:=List.length_filter_le _ _
theorem BM {W:World}{b:Nat}{v0 v1:Value}{T:TypeId}(h:W.heap[b]?=some (.cells #[v0,v1] T (0,0))) :
 (W.cell? ⟨b,0,none⟩=some v0∧W.cell? ⟨b,1,none⟩=some v1)∧(W.frozen? ⟨b,0,none⟩=false∧W.frozen? ⟨b,1,none⟩=false):=
 ⟨⟨by rw[AB _ _ _ _ _ _ h];rfl,by rw[AB _ _ _ _ _ _ h];rfl⟩,⟨E8 _ _ _ _ _ h,E8 _ _ _ _ _ h⟩⟩
theorem Ni:(Tryz.prog.info? 31).map (·.size)=some 2:=by kernel_rfl
set_option maxHeartbeats 8000000 in
theorem YQ (v:Value)(l:List Az)(nx d:Int)(s:ByteArray)(w:World)(hv:MG w v l)(hl:l.length≤1000) :
 Calls Tryz.prog 125 #[Bo v nx,.int .i64 d,.string s] w (IB (Bv l d s) nx w):=by
 unfold IB;obtain⟨a,cap,rfl⟩:=hv.len;obtain⟨m,hm⟩:∃m,l.length=m:=⟨_,rfl⟩;have HM:=Aa hm;rw[hm]at hv hl ⊢;have HV:=Aa hv;unfold Bo;clear hv hm;have s1:(w.alloc (.cells #[.slice a m cap,.int .i64 nx] 31)).heap.size=w.heap.size+1:=by simp
 have s2:((w.alloc (.cells #[.slice a m cap,.int .i64 nx] 31)).alloc (.cells #[.slice none 0 0,.int .i64 0] 31)).heap.size=w.heap.size+1+1:=by simp
 have HT:Hid (Dz (((w.alloc (.cells #[.slice a m cap,.int .i64 nx] 31)).alloc (.cells #[.slice none 0 0,.int .i64 0] 31)).alloc (.cells #[.slice none 0 0,.int .i64 nx] 31)) w.heap.size (.slice a m cap) nx):=Aa (by
  unfold Dz;rw[Cx _ _ _ (by rw[s2];omega),Cx _ _ _ (by rw[s1];omega)];exact Ai _ _)
 have HR:Hid ((((w.alloc (.cells #[.slice a m cap,.int .i64 nx] 31)).alloc (.cells #[.slice none 0 0,.int .i64 0] 31)).alloc (.cells #[.slice none 0 0,.int .i64 nx] 31)).heap[w.heap.size+1]?=some (.cells #[.slice none 0 0,.int .i64 0] 31 (0,0))):=Aa (by
  rw[Cx _ _ _ (by rw[s2];omega),←s1];exact Ai _ _)
 have HO:Hid ((((w.alloc (.cells #[.slice a m cap,.int .i64 nx] 31)).alloc (.cells #[.slice none 0 0,.int .i64 0] 31)).alloc (.cells #[.slice none 0 0,.int .i64 nx] 31)).heap[w.heap.size+1+1]?=some (.cells #[.slice none 0 0,.int .i64 nx] 31 (0,0))):=Aa (by
  rw[←s2];exact Ai _ _)
 have HB:Hid (Below w.heap.size w (((w.alloc (.cells #[.slice a m cap,.int .i64 nx] 31)).alloc (.cells #[.slice none 0 0,.int .i64 0] 31)).alloc (.cells #[.slice none 0 0,.int .i64 nx] 31))):=Aa ((((Ad _ w).alloc (Ae _) _).alloc (by rw[s1];omega) _).alloc (by rw[s2];omega) _);go_enter Tryz.func125,Tryz.ntmps125;go_upto_region 2 with fail;generalize ((w.alloc (.cells #[.slice a m cap,.int .i64 nx] 31)).alloc (.cells #[.slice none 0 0,.int .i64 0] 31)).alloc (.cells #[.slice none 0 0,.int .i64 nx] 31)=W0 at *;clear s1 s2;generalize Td:w.heap.size=bT at *;have VN:=Aa Td;clear Td;have hbs:bT+1+1<W0.heap.size:=Ab HO.out;obtain⟨BO,hBO⟩:∃BO,W0.heap.size=BO:=⟨_,rfl⟩;rw[hBO]at hbs;go_wp2;go_loopw [8] (fun iv wr=>∃(i:Nat) (vo:Value),i≤m∧iv=.int .i64 i∧Dz wr bT (.slice a m cap) nx∧wr.heap[bT+1]?=some (.cells #[.slice none 0 0,.int .i64 0] 31 (0,0))∧wr.heap[bT+1+1]?=some (.cells #[vo,.int .i64 nx] 31 (0,0))∧wr.ownsRow BO 195 6 vo (Bv (l.take i) d s).length ((Bv (l.take i) d s).flatMap Kz)∧Below bT w wr∧BO≤wr.heap.size) (fun iv _=>m-(intOf iv).toNat)
 case atStart=>exact⟨0,_,by omega,rfl,HT.out,HR.out,HO.out,FM _ _ _ _,HB.out,by omega⟩
 case round =>
  obtain⟨i,vo,hi,rfl,ht,hr,ho,hrow,hb,hsz⟩:=hrel;clear HT HR HO HB;have HT:=Aa ht;have HR:=Aa hr;have HO:=Aa ho;have HW:=Aa hrow;have HB:=Aa hb;have hlt1:=Ab hr;clear ht hr ho hrow hb;obtain⟨c0,c1⟩:=HT.out.l;by_cases him:i<m
  · have hiz:(i:Int)<(m:Int):=by omega
    obtain⟨x,hx⟩:∃x,l[i]?=some x:=⟨_,Ci (by rw[HM.out];omega)⟩;obtain⟨g,off,rfl,hg,hrg⟩:=HV.out.at hx;have HD:=Aa (aI hx d s);have hdl:=YP (l.take i) d s;rw[BV]at hdl;have HDL:Hid ((Bv (l.take i) d s).length≤1000):=Aa (by omega);have HGX:Hid (∀W:World,Below bT w W→(W.cell? ⟨g,off+i*6,none⟩=some (.int .i64 x.BG)∧W.cell? ⟨g,off+i*6+1,none⟩=some (.string x.e.name)∧W.cell? ⟨g,off+i*6+2,none⟩=some (.int .i64 x.e.node)∧W.cell? ⟨g,off+i*6+3,none⟩=some (.bool x.e.dir)∧W.cell? ⟨g,off+i*6+4,none⟩=some (.int .i64 x.e.Am)∧W.cell? ⟨g,off+i*6+5,none⟩=some (.int .i64 x.e.short))):=Aa (fun W hW=>PY (DI hrg hg (by rw[VN.out];exact hW)));obtain⟨d0,d1,d2,d3,d4,d5⟩:=HGX.out _ HB.out;clear hx hrg hdl;by_cases hin:x.BG=d∧x.e.name=s
    · have HD2:Hid (Bv (l.take (i+1)) d s=Bv (l.take i) d s):=Aa (by rw[HD.out,if_pos hin,Ct]);obtain⟨h1,h2⟩:=hin;rw[h1]at d0;rw[h2]at d1;clear HD;go_wp2;go_roundw
      case rel=>exact⟨i+1,vo,by omega,by first|rfl|go_num,HT.out,HR.out,HO.out,by rw[HD2.out];exact HW.out,HB.out,by omega⟩
      case measure=>simp[intOf];omega
    · have HD2:Hid (Bv (l.take (i+1)) d s=Bv (l.take i) d s++[x]):=Aa (by rw[HD.out,if_neg hin]);clear HD;have hcond:x.BG=d∨¬x.BG=d:=Decidable.em _;rcases hcond with hc|hc
      · have hc2:=Q7 (fun h2=>hin ⟨hc,h2⟩);have hc3:(x.e.name.toList !=s.toList)=true:=by rw[bne,hc2];rfl
        clear hin;subst hc;go_upto_region 6 with fail;have hbel:Below BO wr (wr.alloc (.cells #[.int .i64 x.BG,.string x.e.name,.int .i64 x.e.node,.bool x.e.dir,.int .i64 x.e.Am,.int .i64 x.e.short] 195)).drew:=((Ad _ wr).alloc hsz _).drew;have Aac:=Aa hbel;have Ns:Hid (World.ownsRow (wr.alloc (.cells #[.int .i64 x.BG,.string x.e.name,.int .i64 x.e.node,.bool x.e.dir,.int .i64 x.e.Am,.int .i64 x.e.short] 195)).drew BO 195 6 vo (Bv (l.take i) x.BG s).length ((Bv (l.take i) x.BG s).flatMap Kz)):=Aa (HW.out.alloc _);have HI:Hid ((wr.alloc (.cells #[.int .i64 x.BG,.string x.e.name,.int .i64 x.e.node,.bool x.e.dir,.int .i64 x.e.Am,.int .i64 x.e.short] 195)).drew.heap[wr.heap.size]?=some (.cells (Kz x).toArray 195 (0,0))):=Aa (show(wr.alloc _).heap[wr.heap.size]?=_ from Ai _ _);have Qh:Hid (BO≤(wr.alloc (.cells #[.int .i64 x.BG,.string x.e.name,.int .i64 x.e.node,.bool x.e.dir,.int .i64 x.e.Am,.int .i64 x.e.short] 195)).drew.heap.size):=Aa (by have:=hbel.size;omega);have q0:wr.drew.cell? ⟨bT+1+1,0,none⟩=some vo:=(BM HO.out).1.1;have q1:(wr.alloc (.cells #[.int .i64 x.BG,.string x.e.name,.int .i64 x.e.node,.bool x.e.dir,.int .i64 x.e.Am,.int .i64 x.e.short] 195)).drew.cell? ⟨bT+1+1,0,none⟩=some vo:=by rw[hbel.cell (p:=⟨bT+1+1,0,none⟩) (by show bT+1+1<BO;omega)];exact(BM HO.out).1.1
        have M4:Hid (∀W:World,Below (bT+1+1) wr W→Below (bT+1+1) wr W∧W.cell? ⟨bT,0,none⟩=some (.slice (some ⟨g,off,none⟩) m cap)∧W.cell? ⟨g,off+i*6,none⟩=some (.int .i64 x.BG)∧W.cell? ⟨g,off+i*6+1,none⟩=some (.string x.e.name)∧W.cell? ⟨g,off+i*6+2,none⟩=some (.int .i64 x.e.node)∧W.cell? ⟨g,off+i*6+3,none⟩=some (.bool x.e.dir)∧W.cell? ⟨g,off+i*6+4,none⟩=some (.int .i64 x.e.Am)∧W.cell? ⟨g,off+i*6+5,none⟩=some (.int .i64 x.e.short)):=Aa (fun W hW =>
         ⟨hW,by rw[hW.cell (p:=⟨bT,0,none⟩) (by show bT<_;omega)];exact HT.out.l.1,HGX.out W (HB.out.trans (hW.mono (by omega)))⟩)
        have hlen1:(Bv (l.take i) x.BG s).length+[x].length≤100000:=by have:=HDL.out;simp;omega
        have HZ:Hid (∀W:World,Below BO wr W→(W.cell? ⟨bT+1+1,0,none⟩=some vo∧W.frozen? ⟨bT+1+1,0,none⟩=false)):=Aa (fun W hW=>⟨by rw[hW.cell (p:=⟨bT+1+1,0,none⟩) (by show bT+1+1<BO;omega)];exact(BM HO.out).1.1,by rw[hW.frozen (p:=⟨bT+1+1,0,none⟩) (by show bT+1+1<BO;omega)];exact(BM HO.out).2.1⟩);clear hbel c0 c1 d0 d1 d2 d3 d4 d5;have hs0:=M4.out wr.drew ((Ad _ _).drew);obtain⟨t0,t1,t2,t3,t4,t5,t6,t7⟩:=hs0;go_region_law ((refine CS K9 rfl _ _ rfl BO vo _ _ rfl Ns.out _ [x] (Fu _) (fun y _=>Ju y) rfl (AU.block (Fu _) HI.out) hlen1 Qh.out ?_;intro v8 w8 Gg Gy KC;have Hr:Below BO wr w8:=Aac.out.grown Gy Qh.out (fun j hj=>(Ns.out.lt j hj).1);have hq8:=Hr.mono (show bT+1+1≤BO by omega);obtain⟨z0,y0⟩:=HZ.out w8 Hr;obtain⟨a8,k8,c8,PZ⟩:=GU Gg;subst PZ))
        all_goals
         have H8:World.ownsRow w8 BO 195 6 (.slice a8 k8 c8) (Bv (l.take (i+1)) x.BG s).length ((Bv (l.take (i+1)) x.BG s).flatMap Kz):=by
          rw[HD2.out,Bg,FL];exact Gg
         have bD:=Aa (MO H8 (show bT+1+1<BO by omega) 0 (.slice a8 k8 c8));have HT9:Hid (Dz (w8.setCell ⟨bT+1+1,0,none⟩ (.slice a8 k8 c8)) bT (.slice (some ⟨g,off,none⟩) m cap) nx):=Aa (by
          unfold Dz;rw[Bw _ _ _ _ (by show bT≠bT+1+1;omega),Hr.block _ (by omega)];exact HT.out)
         have JJ:Hid ((w8.setCell ⟨bT+1+1,0,none⟩ (.slice a8 k8 c8)).heap[bT+1]?=some (.cells #[.slice none 0 0,.int .i64 0] 31 (0,0))):=Aa (by
          rw[Bw _ _ _ _ (by show bT+1≠bT+1+1;omega),Hr.block _ (by omega)];exact HR.out)
         have HO9:Hid ((w8.setCell ⟨bT+1+1,0,none⟩ (.slice a8 k8 c8)).heap[bT+1+1]?=some (.cells #[.slice a8 k8 c8,.int .i64 nx] 31 (0,0))):=Aa (by
          rw[Bj _ (bT+1+1) 0 _ _ _ ((Hr.block _ (by omega)).trans HO.out)];rfl)
         have Pv:Hid (Below bT w (w8.setCell ⟨bT+1+1,0,none⟩ (.slice a8 k8 c8))):=Aa ((HB.out.trans (Hr.mono (by omega))).setCell (p:=⟨bT+1+1,0,none⟩) (by show bT≤bT+1+1;omega) _);have Kh:BO≤(w8.setCell ⟨bT+1+1,0,none⟩ (.slice a8 k8 c8)).heap.size:=by have:=Hr.size;simp[World.setCell];omega
         have kD:=Aa Kh;clear Gg H8 Hr hq8 Kh Gy KC;go_wp2;go_roundw
         case rel=>exact⟨i+1,_,by omega,by first|rfl|go_num,HT9.out,JJ.out,HO9.out,bD.out,Pv.out,kD.out⟩
         case measure=>simp[intOf];omega
      have hc2:(x.BG==d)=false:=by rw[A8];exact hc
      have hc3:(x.BG !=d)=true:=by rw[bne,hc2];rfl
      clear hin;go_upto_region 6 with fail;have hbel:Below BO wr (wr.alloc (.cells #[.int .i64 x.BG,.string x.e.name,.int .i64 x.e.node,.bool x.e.dir,.int .i64 x.e.Am,.int .i64 x.e.short] 195)).drew:=((Ad _ wr).alloc hsz _).drew;have Aac:=Aa hbel;have Ns:Hid (World.ownsRow (wr.alloc (.cells #[.int .i64 x.BG,.string x.e.name,.int .i64 x.e.node,.bool x.e.dir,.int .i64 x.e.Am,.int .i64 x.e.short] 195)).drew BO 195 6 vo (Bv (l.take i) d s).length ((Bv (l.take i) d s).flatMap Kz)):=Aa (HW.out.alloc _);have HI:Hid ((wr.alloc (.cells #[.int .i64 x.BG,.string x.e.name,.int .i64 x.e.node,.bool x.e.dir,.int .i64 x.e.Am,.int .i64 x.e.short] 195)).drew.heap[wr.heap.size]?=some (.cells (Kz x).toArray 195 (0,0))):=Aa (show(wr.alloc _).heap[wr.heap.size]?=_ from Ai _ _);have Qh:Hid (BO≤(wr.alloc (.cells #[.int .i64 x.BG,.string x.e.name,.int .i64 x.e.node,.bool x.e.dir,.int .i64 x.e.Am,.int .i64 x.e.short] 195)).drew.heap.size):=Aa (by have:=hbel.size;omega);have q0:wr.drew.cell? ⟨bT+1+1,0,none⟩=some vo:=(BM HO.out).1.1;have q1:(wr.alloc (.cells #[.int .i64 x.BG,.string x.e.name,.int .i64 x.e.node,.bool x.e.dir,.int .i64 x.e.Am,.int .i64 x.e.short] 195)).drew.cell? ⟨bT+1+1,0,none⟩=some vo:=by rw[hbel.cell (p:=⟨bT+1+1,0,none⟩) (by show bT+1+1<BO;omega)];exact(BM HO.out).1.1
      have M4:Hid (∀W:World,Below (bT+1+1) wr W→Below (bT+1+1) wr W∧W.cell? ⟨bT,0,none⟩=some (.slice (some ⟨g,off,none⟩) m cap)∧W.cell? ⟨g,off+i*6,none⟩=some (.int .i64 x.BG)∧W.cell? ⟨g,off+i*6+1,none⟩=some (.string x.e.name)∧W.cell? ⟨g,off+i*6+2,none⟩=some (.int .i64 x.e.node)∧W.cell? ⟨g,off+i*6+3,none⟩=some (.bool x.e.dir)∧W.cell? ⟨g,off+i*6+4,none⟩=some (.int .i64 x.e.Am)∧W.cell? ⟨g,off+i*6+5,none⟩=some (.int .i64 x.e.short)):=Aa (fun W hW =>
       ⟨hW,by rw[hW.cell (p:=⟨bT,0,none⟩) (by show bT<_;omega)];exact HT.out.l.1,HGX.out W (HB.out.trans (hW.mono (by omega)))⟩)
      have hlen1:(Bv (l.take i) d s).length+[x].length≤100000:=by have:=HDL.out;simp;omega
      have HZ:Hid (∀W:World,Below BO wr W→(W.cell? ⟨bT+1+1,0,none⟩=some vo∧W.frozen? ⟨bT+1+1,0,none⟩=false)):=Aa (fun W hW=>⟨by rw[hW.cell (p:=⟨bT+1+1,0,none⟩) (by show bT+1+1<BO;omega)];exact(BM HO.out).1.1,by rw[hW.frozen (p:=⟨bT+1+1,0,none⟩) (by show bT+1+1<BO;omega)];exact(BM HO.out).2.1⟩);clear hbel c0 c1 d0 d1 d2 d3 d4 d5;have hs0:=M4.out wr.drew ((Ad _ _).drew);obtain⟨t0,t1,t2,t3,t4,t5,t6,t7⟩:=hs0;go_region_law ((refine CS K9 rfl _ _ rfl BO vo _ _ rfl Ns.out _ [x] (Fu _) (fun y _=>Ju y) rfl (AU.block (Fu _) HI.out) hlen1 Qh.out ?_;intro v8 w8 Gg Gy KC;have Hr:Below BO wr w8:=Aac.out.grown Gy Qh.out (fun j hj=>(Ns.out.lt j hj).1);have hq8:=Hr.mono (show bT+1+1≤BO by omega);obtain⟨z0,y0⟩:=HZ.out w8 Hr;obtain⟨a8,k8,c8,PZ⟩:=GU Gg;subst PZ))
      all_goals
       have H8:World.ownsRow w8 BO 195 6 (.slice a8 k8 c8) (Bv (l.take (i+1)) d s).length ((Bv (l.take (i+1)) d s).flatMap Kz):=by
        rw[HD2.out,Bg,FL];exact Gg
       have bD:=Aa (MO H8 (show bT+1+1<BO by omega) 0 (.slice a8 k8 c8));have HT9:Hid (Dz (w8.setCell ⟨bT+1+1,0,none⟩ (.slice a8 k8 c8)) bT (.slice (some ⟨g,off,none⟩) m cap) nx):=Aa (by
        unfold Dz;rw[Bw _ _ _ _ (by show bT≠bT+1+1;omega),Hr.block _ (by omega)];exact HT.out)
       have JJ:Hid ((w8.setCell ⟨bT+1+1,0,none⟩ (.slice a8 k8 c8)).heap[bT+1]?=some (.cells #[.slice none 0 0,.int .i64 0] 31 (0,0))):=Aa (by
        rw[Bw _ _ _ _ (by show bT+1≠bT+1+1;omega),Hr.block _ (by omega)];exact HR.out)
       have HO9:Hid ((w8.setCell ⟨bT+1+1,0,none⟩ (.slice a8 k8 c8)).heap[bT+1+1]?=some (.cells #[.slice a8 k8 c8,.int .i64 nx] 31 (0,0))):=Aa (by
        rw[Bj _ (bT+1+1) 0 _ _ _ ((Hr.block _ (by omega)).trans HO.out)];rfl)
       have Pv:Hid (Below bT w (w8.setCell ⟨bT+1+1,0,none⟩ (.slice a8 k8 c8))):=Aa ((HB.out.trans (Hr.mono (by omega))).setCell (p:=⟨bT+1+1,0,none⟩) (by show bT≤bT+1+1;omega) _);have Kh:BO≤(w8.setCell ⟨bT+1+1,0,none⟩ (.slice a8 k8 c8)).heap.size:=by have:=Hr.size;simp[World.setCell];omega
       have kD:=Aa Kh;clear Gg H8 Hr hq8 Kh Gy KC;go_wp2;go_roundw
       case rel=>exact⟨i+1,_,by omega,by first|rfl|go_num,HT9.out,JJ.out,HO9.out,bD.out,Pv.out,kD.out⟩
       case measure=>simp[intOf];omega
  · have hiz:¬(i:Int)<(m:Int):=by omega
    have HA:Hid (l.take i=l):=Aa (CO (by rw[HM.out];omega));rw[HA.out]at HW;obtain⟨a8,k8,c8,PZ⟩:=GU HW.out;subst PZ;obtain⟨⟨q0,q1⟩,_⟩:=BM HO.out;obtain⟨⟨r0,r1⟩,⟨f0,f1⟩⟩:=BM HR.out;have bD:=Aa (MO (MO HW.out (show bT+1<BO by omega) 0 (.slice a8 k8 c8)) (show bT+1<BO by omega) 1 (.int .i64 nx));have HX:=Aa (Bi.own bD.out rfl);have HZ:Hid (((wr.setCell ⟨bT+1,0,none⟩ (.slice a8 k8 c8)).setCell ⟨bT+1,1,none⟩ (.int .i64 nx)).heap[bT+1]?=some (.cells #[.slice a8 k8 c8,.int .i64 nx] 31 (0,0))):=Aa (by
     rw[Bj _ (bT+1) 1 _ _ _ (Bj _ (bT+1) 0 _ _ _ HR.out)];rfl)
    have Pv:Hid (Below bT w ((wr.setCell ⟨bT+1,0,none⟩ (.slice a8 k8 c8)).setCell ⟨bT+1,1,none⟩ (.int .i64 nx))):=Aa ((HB.out.setCell (p:=⟨bT+1,0,none⟩) (by show bT≤bT+1;omega) _).setCell (p:=⟨bT+1,1,none⟩) (by show bT≤bT+1;omega) _);go_wp2;refine Br (results_cell_row Tryz.results125 _ _ _ _ _ _ _ rfl HZ.out Tryz.underlying31 rfl Ni) rfl ⟨_,rfl,HX.out,?_,?_⟩
    · intro j hj;have:=(HW.out.lt j hj).1;have:=VN.out;omega
    · rw[VN.out];exact Pv.out
def FZ (l:List Az):Nat→Nat→Nat
 | 0,_=>0
 | k+1,n=>if AO l n=0 then n else FZ l k (n+1)
def G5 (l:List Az):Nat:=FZ l 200 1
theorem Vp (l:List Az):∀k n,FZ l k n=0∨(n≤FZ l k n∧FZ l k n<n+k)
 | 0,n=>Or.inl rfl
 | k+1,n=>by
  unfold FZ;split
  · right;omega
  · rcases Vp l k (n+1) with h|h
    · exact Or.inl h
    · right;omega
def D6 (l:List Az)(nx d:Int)(s:ByteArray)(Ba:Bool)(sh:Int):(List Az×Int)×Int×Int:=
 if Bc l d≠0 then((l,nx),0,Bc l d)
 else if Ei s sh≠0 then((l,nx),0,Ei s sh)
 else if(BQ l d s).2=0 then((l,nx),0,6)
 else if G5 l=0 then((l,nx),0,12)
 else((Dn l nx d ⟨s,G5 l,Ba,0,sh⟩,nx+1),G5 l,0)
structure Fr (w:World)(b:Nat)(v:Value)(nx:Int)(l:List Az)(W:World):Prop where
 t:Dz W b v nx
 r:W.heap[b+1]?=some (.cells #[.slice none 0 0,.int .i64 0] 31 (0,0))
 i:Bi W v l
 bel:Below b w W
 sz:w.heap.size=b
theorem Fr.below {w W W':World}{b:Nat}{v:Value}{nx:Int}{l:List Az}(h:Fr w b v nx l W)(hb:Below W.heap.size W W'):Fr w b v nx l W':=
 ⟨h.t.below hb,by rw[hb.block _ (Ab h.r)];exact h.r,h.i.kept hb,h.bel.trans (hb.mono (by have:=h.bel.size;have:=h.sz;omega)),h.sz⟩
theorem Fr.cells {w W:World}{b:Nat}{v:Value}{nx:Int}{l:List Az}(h:Fr w b v nx l W):W.cell? ⟨b,0,none⟩=some v∧W.cell? ⟨b,1,none⟩=some (.int .i64 nx)∧W.cell? ⟨b+1,0,none⟩=some (.slice none 0 0)∧W.cell? ⟨b+1,1,none⟩=some (.int .i64 0)∧W.frozen? ⟨b+1,0,none⟩=false∧W.frozen? ⟨b+1,1,none⟩=false:=
 ⟨h.t.l.1,h.t.l.2,(BM h.r).1.1,(BM h.r).1.2,(BM h.r).2.1,(BM h.r).2.2⟩
theorem Fr.done {w W:World}{b:Nat}{v:Value}{nx:Int}{l:List Az}(h:Fr w b v nx l W){v8:Value}{nx8:Int}{l8:List Az}(h8:Bi W v8 l8)(hb:v8.ownBlock≠some (b+1)) :
 ((W.setCell ⟨b+1,0,none⟩ v8).setCell ⟨b+1,1,none⟩ (.int .i64 nx8)).heap[b+1]?=some (.cells #[v8,.int .i64 nx8] 31 (0,0))∧Bi ((W.setCell ⟨b+1,0,none⟩ v8).setCell ⟨b+1,1,none⟩ (.int .i64 nx8)) v8 l8∧Below w.heap.size w ((W.setCell ⟨b+1,0,none⟩ v8).setCell ⟨b+1,1,none⟩ (.int .i64 nx8)):=by
 refine⟨?_,(h8.set hb 0 _).set hb 1 _,?_⟩
 · rw[Bj _ (b+1) 1 _ _ _ (Bj _ (b+1) 0 _ _ _ h.r)];rfl
 · rw[h.sz];exact(h.bel.setCell (p:=⟨b+1,0,none⟩) (Nat.le_succ _) _).setCell (p:=⟨b+1,1,none⟩) (Nat.le_succ _) _
theorem Fr.own {w W:World}{b:Nat}{v:Value}{nx:Int}{l:List Az}(h:Fr w b v nx l W):v.ownBlock≠some (b+1):=fun e=>by
 obtain⟨cs,hc⟩:=h.i.2 _ e;exact CP hc h.r (by decide) rfl
theorem aD (w:World)(v:Value)(nx:Int)(l:List Az)(hv:Bi w v l):Fr w w.heap.size v nx l ((w.alloc (.cells #[v,.int .i64 nx] 31)).alloc (.cells #[.slice none 0 0,.int .i64 0] 31)):=by
 have hb:Below w.heap.size w ((w.alloc (.cells #[v,.int .i64 nx] 31)).alloc (.cells #[.slice none 0 0,.int .i64 0] 31)):=((Ad _ w).alloc (Ae _) _).alloc (by simp) _;refine⟨?_,heap_alloc2_new _ _ _,hv.kept hb,hb,rfl⟩;unfold Dz;rw[Cx _ _ _ (by simp)];exact Ai _ _
theorem Bt {fn:Func}{p u q:Tmp}{ty:TypeId}(h:fn.results=#[.cell p ty,.tmp u,.tmp q])(tmps:Array Value)(P:Program)(w:World) :
 (results fn tmps).run P w =
  ((asAddr (tmps.getD p undef)).run P w).andThen fun a w₁=>((loadVar ty a).run P w₁).andThen fun v w₂=>.ok (.tuple #[v,tmps.getD u undef,tmps.getD q undef]) w₂:=by
 simp only[results,h];simp[Sem.run_bind,Result.andThen]
def KO (r:(List Az×Int)×Int×Int)(w0:World)(e:Ending)(w':World):Prop:=∃v',e=.returned (.tuple #[Bo v' r.1.2,.int .i64 r.2.1,.int .i64 r.2.2])∧Bi w' v' r.1.1∧Below w0.heap.size w0 w'
set_option maxHeartbeats 8000000 in
theorem nL (v:Value)(l:List Az)(nx d:Int)(s:ByteArray)(Ba:Bool)(sh:Int)(w:World)(hv:Bi w v l)(hl:l.length≤999)(hs:s.size≤9223372036854775807)(hnx:nx+1≤9223372036854775807)(WM:0≤nx) :
 Calls Tryz.prog 84 #[Bo v nx,.int .i64 d,.string s,.bool Ba,.int .i64 sh] w (KO (D6 l nx d s Ba sh) w):=by
 unfold KO;obtain⟨R,hR⟩:∃R,D6 l nx d s Ba sh=R:=⟨_,rfl⟩;rw[hR];unfold D6 at hR;have HRR:=Aa hR;obtain⟨a,cap,rfl⟩:=hv.1.len;have cL:=fun W (h:Bi W (.slice a l.length cap) l)=>OU (.slice a l.length cap) l nx d W h.1 (by omega)
 have cF:=fun W (h:Bi W (.slice a l.length cap) l)=>O4 (.slice a l.length cap) l nx d s W h.1 (by omega)
 have cK:=fun(n:Nat) W (h:Bi W (.slice a l.length cap) l)=>Mi (.slice a l.length cap) l nx n W h.1 (by omega)
 have cP:=fun(n:Nat) W (h:Bi W (.slice a l.length cap) l)=>dB (.slice a l.length cap) l nx d ⟨s,n,Ba,0,sh⟩ W h.1 (by omega) hnx WM
 have cB:=fun W=>eY s hs sh W
 obtain⟨m,hm⟩:∃m,l.length=m:=⟨_,rfl⟩;simp only[hm]at cL cF cK cP;rw[hm]at hv ⊢;have Xq:=Aa (aD w _ nx l hv);unfold Bo at cL cF cK cP ⊢;unfold Df at cP;clear hv hm hR hl;go_enter Tryz.func84,Tryz.ntmps84;go_upto_region 1 with fail;generalize (w.alloc (.cells #[.slice a m cap,.int .i64 nx] 31)).alloc (.cells #[.slice none 0 0,.int .i64 0] 31)=W0 at *;generalize Td:w.heap.size=bT at *;have VN:=Aa Td;clear Td;have YZ:=cL W0 Xq.out.i;unfold Pq at YZ;obtain⟨t0,t1,r0,r1,f0,f1⟩:=Xq.out.cells;have WQ:Bc l d=0∨Bc l d≠0:=Decidable.em _;have xD:=Aa (Yd l d);go_upto_region 2 with(go_at_call 69;refine YZ.mono ?_;rintro e w1 ⟨lv,rfl,hlv,hb1⟩;have Uh:=Aa (Xq.out.below hb1);clear hlv hb1);clear cL YZ Xq t0 t1 r0 r1 f0 f1;obtain⟨t0,t1,r0,r1,f0,f1⟩:=Uh.out.cells;rcases WQ with WQ|WQ
 · have xy:=Aa WQ;rw[WQ];have cB1:=cB w1;have Ti:Ei s sh=0∨Ei s sh≠0:=Decidable.em _;rcases Ti with Ti|Ti
   · have HBZ:=Aa Ti;rw[Ti]at cB1;have cF1:=cF w1 Uh.out.i;unfold KR at cF1;clear Ti WQ;go_upto_region 7 with(first|(go_at_call 122;refine cB1.mono ?_;rintro e w2 ⟨rfl,rfl⟩)|(go_at_call 123;refine cF1.mono ?_;rintro e w3 ⟨rfl,hb3⟩;have Ex:=Aa (Uh.out.below hb3);clear hb3));clear cF cF1 cB cB1 Uh t0 t1 r0 r1 f0 f1;obtain⟨t0,t1,r0,r1,f0,f1⟩:=Ex.out.cells;have WS:(BQ l d s).2=0∨(BQ l d s).2≠0:=Decidable.em _;rcases WS with WS|WS
     · rw[WS];have JJ:Hid (R=((l,nx),0,6)):=Aa (by rw[←HRR.out,if_neg (by rw[xy.out];simp),if_neg (by rw[HBZ.out];simp),if_pos WS]);clear WS cK cP;obtain⟨hz,hi,hb⟩:=Ex.out.done (nx8:=nx) Ex.out.i Ex.out.own;have HZ:=Aa hz;have HI:=Aa hi;have GD:=Aa hb;clear hz hi hb;go_wp2;refine Br (v:=.tuple #[Bo (.slice a m cap) (nx),.int .i64 (0),.int .i64 (6)]) ?_ rfl ?_
       · rw[Bt rfl];go_simp;rfl
       · rw[JJ.out];exact⟨_,rfl,HI.out,GD.out⟩
     · have hz:((BQ l d s).2==0)=false:=by rw[A8];exact WS
       have HFZ:=Aa WS;generalize (BQ l d s).2=FE at *;clear WS;go_wp2;go_loopw [15] (fun iv wr=>∃n:Nat,1≤n∧n≤201∧iv=.int .i64 n∧FZ l (201-n) n=G5 l∧Fr w bT (.slice a m cap) nx l wr) (fun iv _=>201-(intOf iv).toNat)
       case atStart=>exact⟨1,by omega,by omega,rfl,rfl,Ex.out⟩
       case round =>
        obtain⟨n,hn1,hn2,rfl,hgo,hfr⟩:=hrel;clear Ex t0 t1 r0 r1 f0 f1;have GK:=Aa hgo;have Ex:=Aa hfr;obtain⟨t0,t1,r0,r1,f0,f1⟩:=hfr.cells;have eT:=cK n wr hfr.i;clear hgo hfr;by_cases hn:n≤200
        · have hnz:(n:Int)≤200:=by omega
          have HST:Hid (G5 l=if AO l n=0 then n else FZ l (201-(n+1)) (n+1)):=Aa (by
           rw[←GK.out,show 201-n=(200-n)+1 by omega,show 201-(n+1)=200-n by omega];rfl)
          have hK:AO l n=0∨AO l n≠0:=Decidable.em _;rcases hK with hK|hK
          · have HFN:Hid (G5 l=n):=Aa (by rw[HST.out,if_pos hK]);rw[hK]at eT;clear hK GK;go_upto_region 13 with(go_at_call 107;refine eT.mono ?_;rintro e w5 ⟨rfl,hb5⟩;have j6:=Aa (Ex.out.below hb5);clear hb5);clear Ex t0 t1 r0 r1 f0 f1;obtain⟨t0,t1,r0,r1,f0,f1⟩:=j6.out.cells;have cP1:=cP n w5 j6.out.i;unfold IB Bo at cP1;have JJ:Hid (R=((Dn l nx d ⟨s,n,Ba,0,sh⟩,nx+1),(n:Int),0)):=Aa (by
             rw[←HRR.out,if_neg (by rw[xy.out];simp),if_neg (by rw[HBZ.out];simp),if_neg HFZ.out,if_neg (by rw[HFN.out];omega),HFN.out])
            go_wp2_with (go_at_call 124;refine cP1.mono ?_;rintro e w8 ⟨v8,rfl,WN,iQ,Hr⟩;obtain⟨a8,c8,PZ⟩:=WN.1.len;have sF:=Aa (j6.out.below Hr);obtain⟨hz,hi,hb⟩:=sF.out.done (nx8:=nx+1) WN (fun e=>by have h1:=iQ _ e;have h2:=Ab j6.out.r;omega);have HZ:=Aa hz;have HI:=Aa hi;have GD:=Aa hb;obtain⟨q0,q1,y0,y1,x0,x1⟩:=sF.out.cells;generalize (Dn l nx d ⟨s,n,Ba,0,sh⟩).length=L8 at PZ;subst PZ;clear hz hi hb WN iQ Hr);refine Br (v:=.tuple #[Bo (.slice a8 L8 c8) (nx+1),.int .i64 n,.int .i64 0]) ?_ rfl ?_
            · rw[Bt rfl];go_simp;rfl
            · rw[JJ.out];exact⟨_,rfl,HI.out,GD.out⟩
          · have HFN:Hid (FZ l (201-(n+1)) (n+1)=G5 l):=Aa (by rw[HST.out,if_neg hK]);have hKz:(AO l n==0)=false:=by rw[A8];exact hK
            clear hK GK;go_wp2_with (go_at_call 107;refine eT.mono ?_;rintro e w5 ⟨rfl,hb5⟩;have j6:=Aa (Ex.out.below hb5);clear hb5);go_roundw
            case rel=>exact⟨n+1,by omega,by omega,by first|rfl|go_num,HFN.out,j6.out⟩
            case measure=>simp[intOf];omega
        · have hnz:¬(n:Int)≤200:=by omega
          have HFN:Hid (G5 l=0):=Aa (by
           rw[←GK.out,show 201-n=0 by omega];rfl)
          have JJ:Hid (R=((l,nx),0,12)):=Aa (by rw[←HRR.out,if_neg (by rw[xy.out];simp),if_neg (by rw[HBZ.out];simp),if_neg HFZ.out,if_pos HFN.out]);clear eT;obtain⟨hz,hi,hb⟩:=Ex.out.done (nx8:=nx) Ex.out.i Ex.out.own;have HZ:=Aa hz;have HI:=Aa hi;have GD:=Aa hb;clear hz hi hb;go_wp2;refine Br (v:=.tuple #[Bo (.slice a m cap) (nx),.int .i64 (0),.int .i64 (12)]) ?_ rfl ?_
          · rw[Bt rfl];go_simp;rfl
          · rw[JJ.out];exact⟨_,rfl,HI.out,GD.out⟩
   · have hz:(Ei s sh==0)=false:=by rw[A8];exact Ti
     have hz2:(Ei s sh !=0)=true:=by rw[bne,hz];rfl
     have JJ:Hid (R=((l,nx),0,Ei s sh)):=Aa (by rw[←HRR.out,if_neg (by rw[xy.out];simp),if_pos Ti]);generalize Ei s sh=BE at *;clear WQ Ti cF cK cP;go_upto_region 5 with(go_at_call 122;refine cB1.mono ?_;rintro e w2 ⟨rfl,rfl⟩);have HK:Hid (∀(W:World) (x y:Value),(W.cell? ⟨bT,0,none⟩=some (.slice a m cap)∧W.cell? ⟨bT,1,none⟩=some (.int .i64 nx))→(((W.setCell ⟨bT+1,0,none⟩ x).setCell ⟨bT+1,1,none⟩ y).cell? ⟨bT,0,none⟩=some (.slice a m cap)∧((W.setCell ⟨bT+1,0,none⟩ x).setCell ⟨bT+1,1,none⟩ y).cell? ⟨bT,1,none⟩=some (.int .i64 nx))):=Aa (fun W x y h=>by
      have e:((W.setCell ⟨bT+1,0,none⟩ x).setCell ⟨bT+1,1,none⟩ y).heap[bT]?=W.heap[bT]?:=by rw[Bw _ _ _ _ (by show bT≠bT+1;omega),Bw _ _ _ _ (by show bT≠bT+1;omega)]
      exact⟨by rw[Fz (w:=W) (a:=⟨bT,0,none⟩) e];exact h.1,by rw[Fz (w:=W) (a:=⟨bT,1,none⟩) e];exact h.2⟩)
     have sD:Hid (Fr w bT (.slice a m cap) nx l w2.drew):=Aa (Uh.out.below (Ad _ _).drew);have u0:w2.drew.cell? ⟨bT,0,none⟩=some (.slice a m cap):=t0;have u1:w2.drew.cell? ⟨bT,1,none⟩=some (.int .i64 nx):=t1;have v0:w2.drew.cell? ⟨bT+1,0,none⟩=some (.slice none 0 0):=r0;have v1:w2.drew.cell? ⟨bT+1,1,none⟩=some (.int .i64 0):=r1;have g0:w2.drew.frozen? ⟨bT+1,0,none⟩=false:=f0;have g1:w2.drew.frozen? ⟨bT+1,1,none⟩=false:=f1;go_region_held3 (fun W=>W.cell? ⟨bT,0,none⟩=some (.slice a m cap)∧W.cell? ⟨bT,1,none⟩=some (.int .i64 nx)) (first|exact⟨‹_›,‹_›⟩|exact HK.out _ _ _ ⟨‹_›,‹_›⟩|assumption|(constructor<;>assumption)) ((go_at_call 122;refine(cB _).mono ?_;rintro e w9 ⟨rfl,rfl⟩))
     all_goals
      obtain⟨hz,hi,hb⟩:=sD.out.done (nx8:=nx) sD.out.i sD.out.own;have HZ:=Aa hz;have HI:=Aa hi;have GD:=Aa hb;clear hz hi hb;go_wp2;refine Br (v:=.tuple #[Bo (.slice a m cap) nx,.int .i64 0,.int .i64 BE]) ?_ rfl ?_
      · rw[Bt rfl];go_simp;rfl
      · rw[JJ.out];exact⟨_,rfl,HI.out,GD.out⟩
 · have hz:(Bc l d==0)=false:=by rw[A8];exact WQ
   have hz2:(Bc l d !=0)=true:=by rw[bne,hz];rfl
   have JJ:Hid (R=((l,nx),0,Bc l d)):=Aa (by rw[←HRR.out,if_pos WQ]);clear cF cK cP cB;obtain⟨hz,hi,hb⟩:=Uh.out.done (nx8:=nx) Uh.out.i Uh.out.own;have HZ:=Aa hz;have HI:=Aa hi;have GD:=Aa hb;clear hz hi hb;go_wp2;refine Br (v:=.tuple #[Bo (.slice a m cap) (nx),.int .i64 (0),.int .i64 (Bc l d)]) ?_ rfl ?_
   · rw[Bt rfl];go_simp;rfl
   · rw[JJ.out];exact⟨_,rfl,HI.out,GD.out⟩
theorem Ao {B:Nat}{a w:World}(h:Below B a w):∀q,Below B a (w.drewN q)
 | 0=>h
 | q+1=>(Ao h q).drew
def JS (l:List Az)(n:Int):Bool:=l.any fun x=>decide (x.BG=n)
theorem ak (x:Az)(l:List Az)(n:Int):JS (x::l) n=(decide (x.BG=n)||JS l n):=rfl
def BK (l:List Az)(nx d:Int)(s:ByteArray)(Ba:Bool):(List Az×Int)×Int:=
 if(BQ l d s).2≠0 then((l,nx),(BQ l d s).2)
 else if Ba=true∧(BQ l d s).1.dir=false then((l,nx),8)
 else if Ba=false∧(BQ l d s).1.dir=true then((l,nx),7)
 else if JS l (BQ l d s).1.node=true then((l,nx),9)
 else((Bv l d s,nx),0)
def Qf (r:(List Az×Int)×Int)(w0:World)(e:Ending)(w':World):Prop:=∃v',e=.returned (.tuple #[Bo v' r.1.2,.int .i64 r.2])∧Bi w' v' r.1.1∧Below w0.heap.size w0 w'
set_option maxHeartbeats 8000000 in
theorem Zq (v:Value)(l:List Az)(nx d:Int)(s:ByteArray)(Ba:Bool)(w:World)(hv:Bi w v l)(hl:l.length≤999) :
 Calls Tryz.prog 85 #[Bo v nx,.int .i64 d,.string s,.bool Ba] w (Qf (BK l nx d s Ba) w):=by
 unfold Qf;obtain⟨R,hR⟩:∃R,BK l nx d s Ba=R:=⟨_,rfl⟩;rw[hR];unfold BK at hR;have HRR:=Aa hR;obtain⟨a,cap,rfl⟩:=hv.1.len;have cF:=fun W (h:Bi W (.slice a l.length cap) l)=>O4 (.slice a l.length cap) l nx d s W h.1 (by omega)
 have cD:=fun W (h:Bi W (.slice a l.length cap) l)=>YQ (.slice a l.length cap) l nx d s W h.1 (by omega)
 obtain⟨m,hm⟩:∃m,l.length=m:=⟨_,rfl⟩;have HM:=Aa hm;simp only[hm]at cF cD;rw[hm]at hv hl ⊢;have Xq:=Aa (aD w _ nx l hv);unfold Bo at cF cD ⊢;clear hv hm hR;go_enter Tryz.func85,Tryz.ntmps85;go_upto_region 1 with fail;generalize (w.alloc (.cells #[.slice a m cap,.int .i64 nx] 31)).alloc (.cells #[.slice none 0 0,.int .i64 0] 31)=W0 at *;generalize Td:w.heap.size=bT at *;have VN:=Aa Td;clear Td;have jM:=cF W0 Xq.out.i;unfold KR Df at jM;obtain⟨t0,t1,r0,r1,f0,f1⟩:=Xq.out.cells;generalize hFI:BQ l d s=F at *;clear hFI;obtain⟨⟨nm,nd,dr,ck,sh⟩,FE⟩:=F;simp only at jM HRR;go_upto_region 2 with(go_at_call 123;refine jM.mono ?_;rintro e w1 ⟨rfl,hb1⟩;have Uh:=Aa (Xq.out.below hb1);clear hb1);clear cF jM Xq t0 t1 r0 r1 f0 f1;have LG:Hid (Fr w bT (.slice a m cap) nx l (w1.alloc (.cells #[.string nm,.int .i64 nd,.bool dr,.int .i64 ck,.int .i64 sh] 112))):=Aa (Uh.out.below ((Ad _ w1).alloc (Ae _) _));have HEB:Hid ((w1.alloc (.cells #[.string nm,.int .i64 nd,.bool dr,.int .i64 ck,.int .i64 sh] 112)).heap[w1.heap.size]?=some (.cells #[.string nm,.int .i64 nd,.bool dr,.int .i64 ck,.int .i64 sh] 112 (0,0))):=Aa (Ai _ _);generalize w1.alloc (.cells #[.string nm,.int .i64 nd,.bool dr,.int .i64 ck,.int .i64 sh] 112)=W2 at *;generalize w1.heap.size=bX at *;clear Uh;obtain⟨t0,t1,r0,r1,f0,f1⟩:=LG.out.cells;obtain⟨⟨x0,x1,x2,x3,x4⟩,_⟩:=Ah HEB.out;by_cases WS:FE=0
 · have HR1:Hid ((if Ba=true∧dr=false then((l,nx),(8:Int)) else if Ba=false∧dr=true then((l,nx),7) else if JS l nd=true then((l,nx),9) else((Bv l d s,nx),0))=R):=Aa (by rw[←HRR.out,if_neg (show ¬FE≠0 by rw[WS];simp)]);subst WS;clear HRR;by_cases h8:Ba=true∧dr=false
   · have JJ:Hid (R=((l,nx),8)):=Aa (by rw[←HR1.out,if_pos h8]);obtain⟨rfl,rfl⟩:=h8;clear cD;obtain⟨hz,hi,hb⟩:=LG.out.done (nx8:=nx) LG.out.i LG.out.own;have HZ:=Aa hz;have HI:=Aa hi;have GD:=Aa hb;clear hz hi hb;go_wp2;refine Br (v:=.tuple #[Bo (.slice a m cap) (nx),.int .i64 (8)]) ?_ rfl ?_
     · rw[CX rfl];go_simp;rfl
     · rw[JJ.out];exact⟨_,rfl,HI.out,GD.out⟩
   · by_cases h7:Ba=false∧dr=true
     · have JJ:Hid (R=((l,nx),7)):=Aa (by rw[←HR1.out,if_neg h8,if_pos h7]);obtain⟨rfl,rfl⟩:=h7;clear cD h8;obtain⟨hz,hi,hb⟩:=LG.out.done (nx8:=nx) LG.out.i LG.out.own;have HZ:=Aa hz;have HI:=Aa hi;have GD:=Aa hb;clear hz hi hb;go_wp2;refine Br (v:=.tuple #[Bo (.slice a m cap) (nx),.int .i64 (7)]) ?_ rfl ?_
       · rw[CX rfl];go_simp;rfl
       · rw[JJ.out];exact⟨_,rfl,HI.out,GD.out⟩
     · have HR2:Hid ((if JS l nd=true then((l,nx),(9:Int)) else((Bv l d s,nx),0))=R):=Aa (by rw[←HR1.out,if_neg h8,if_neg h7]);have hdd:dr=Ba:=by
        cases Ba<;>cases dr<;>simp_all
       subst hdd;clear h8 h7 HR1;have Aay:dr=true∨dr=false:=by cases dr<;>simp
       rcases Aay with rfl|rfl
       all_goals
        go_upto_region 8 with fail;generalize hW2:W2=W3 at *;clear hW2;go_wp2;go_loopw [12] (fun iv wr=>∃i:Nat,i≤m∧iv=.int .i64 i∧JS (l.drop i) nd=JS l nd∧Fr w bT (.slice a m cap) nx l wr∧wr.cell? ⟨bX,1,none⟩=some (.int .i64 nd)) (fun iv _=>m-(intOf iv).toNat)
        case atStart=>exact⟨0,by omega,rfl,rfl,LG.out,x1⟩
        case round =>
         obtain⟨i,hi,rfl,hgo,hfr,hx1⟩:=hrel;clear LG t0 t1 r0 r1 f0 f1 x0 x1 x2 x3 x4 HEB;have GK:=Aa hgo;have LG:=Aa hfr;obtain⟨t0,t1,r0,r1,f0,f1⟩:=hfr.cells;clear hgo hfr;by_cases him:i<m
         · have hiz:(i:Int)<(m:Int):=by omega
           obtain⟨x,hx⟩:∃x,l[i]?=some x:=⟨_,Ci (by rw[HM.out];omega)⟩;obtain⟨g,off,rfl,hg,hrg⟩:=LG.out.i.1.at hx;have d0:=(PY hrg).1;have HG:Hid (JS l nd=(decide (x.BG=nd)||JS (l.drop (i+1)) nd)):=Aa (by rw[←GK.out,Dh hx,ak]);clear hx hrg;generalize x.BG=BG at *;by_cases hin:BG=nd
           · subst hin;have JJ:Hid (R=((l,nx),9)):=Aa (by rw[←HR2.out,if_pos (by rw[HG.out];simp)]);go_wp2;go_quiet (fail);have HFQ:=Aa (LG.out.below (Ao (Ad _ _) nq));generalize wr.drewN nq=wq at *;clear LG t0 t1 r0 r1 f0 f1 d0 hx1;obtain⟨t0,t1,r0,r1,f0,f1⟩:=HFQ.out.cells;clear cD;obtain⟨hz,hi,hb⟩:=HFQ.out.done (nx8:=nx) HFQ.out.i HFQ.out.own;have HZ:=Aa hz;have HI:=Aa hi;have GD:=Aa hb;clear hz hi hb;go_wp2;refine Br (v:=.tuple #[Bo (.slice (some ⟨g,off,none⟩) m cap) (nx),.int .i64 (9)]) ?_ rfl ?_
             · rw[CX rfl];go_simp;rfl
             · rw[JJ.out];exact⟨_,rfl,HI.out,GD.out⟩
           · have HGN:Hid (JS (l.drop (i+1)) nd=JS l nd):=Aa (by rw[HG.out,A7 hin,Bool.false_or]);have e1:(BG==nd)=false:=by rw[A8];exact hin
             go_wp2;go_quiet (fail);have HFQ:=Aa (LG.out.below (Ao (Ad _ _) nq));have hxq:(wr.drewN nq).cell? ⟨bX,1,none⟩=some (.int .i64 nd):=by
              rw[(Ao (Ad wr.heap.size wr) nq).cell (p:=⟨bX,1,none⟩) (World.block_lt_of_cell? wr ⟨bX,1,none⟩ hx1)];exact hx1
             have HXQ:=Aa hxq;clear hxq;go_wp2;go_roundw
             case rel=>exact⟨i+1,by omega,by first|rfl|go_num,HGN.out,HFQ.out,HXQ.out⟩
             case measure=>simp[intOf];omega
         · have hiz:¬(i:Int)<(m:Int):=by omega
           have HGN:Hid (JS l nd=false):=Aa (by
            rw[←GK.out,Jk (by rw[HM.out];omega)];rfl)
           have JJ:Hid (R=((Bv l d s,nx),0)):=Aa (by rw[←HR2.out,if_neg (by rw[HGN.out];simp)]);have cD1:=cD wr LG.out.i;unfold IB Bo at cD1;clear cD;go_wp2_with (go_at_call 125;refine cD1.mono ?_;rintro e w8 ⟨v8,rfl,WN,iQ,Hr⟩;obtain⟨a8,c8,PZ⟩:=WN.1.len;have sF:=Aa (LG.out.below Hr);obtain⟨hz,hi,hb⟩:=sF.out.done (nx8:=nx) WN (fun e=>by have h1:=iQ _ e;have h2:=Ab LG.out.r;omega);have HZ:=Aa hz;have HI:=Aa hi;have GD:=Aa hb;obtain⟨q0,q1,y0,y1,z0,z1⟩:=sF.out.cells;generalize (Bv l d s).length=L8 at PZ;subst PZ;clear hz hi hb WN iQ Hr);refine Br (v:=.tuple #[Bo (.slice a8 L8 c8) nx,.int .i64 0]) ?_ rfl ?_
           · rw[CX rfl];go_simp;rfl
           · rw[JJ.out];exact⟨_,rfl,HI.out,GD.out⟩
 · have JJ:Hid (R=((l,nx),FE)):=Aa (by rw[←HRR.out,if_pos WS]);have hz:(FE==0)=false:=by rw[A8];exact WS
   have hz2:(FE !=0)=true:=by rw[bne,hz];rfl
   clear cD;obtain⟨hz,hi,hb⟩:=LG.out.done (nx8:=nx) LG.out.i LG.out.own;have HZ:=Aa hz;have HI:=Aa hi;have GD:=Aa hb;clear hz hi hb;go_wp2;refine Br (v:=.tuple #[Bo (.slice a m cap) (nx),.int .i64 (FE)]) ?_ rfl ?_
   · rw[CX rfl];go_simp;rfl
   · rw[JJ.out];exact⟨_,rfl,HI.out,GD.out⟩
end Go.Proofs.YtdmkhmeaphaapaaGreat
