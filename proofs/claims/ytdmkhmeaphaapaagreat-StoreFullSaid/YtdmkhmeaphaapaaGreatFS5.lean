/- Kit. -/
import Derived.Test.YtdmkhmeaphaapaaGreatFQI
import Derived.Test.YtdmkhmeaphaapaaGreatFX8
import Derived.Test.YtdmkhmeaphaapaaGreatFJ4
import Derived.Test.YtdmkhmeaphaapaaGreatFS4
import Derived.Deep.RegionLaw
set_option maxRecDepth 100000
namespace Go.Proofs.YtdmkhmeaphaapaaGreat
open Go.RowKit Go.Sort
set_option linter.unusedVariables false
set_option linter.unusedSimpArgs false
abbrev ptrE (b:Nat):Value:=.pointer (some ⟨b,8,none⟩)
structure TE (w:World)(b:Nat)(K:Nat→Int)(E:Nat→List Ent)(R:Nat→Value)(u:Nat)(v:Value)(ys:List Int)(c:Int):Prop where
  cells:∃cs X:Array Value,w.heap[b]?=some (.cells cs 98 (0,0))∧(∀j x,X[j]?=some x→cs[8+j]?=some x)∧TreeO X K R u v c
  rows:∀n,n≤200→w.ownsRow 0 112 5 (R n) (E n).length ((E n).flatMap entC)
  apart:∀i j g,i≤200→j≤200→(R i).ownBlock=some g→(R j).ownBlock=some g→i=j
  own:OwnN 0 w v ys
  good:GoodP 200 u ys
namespace TE
variable {w w':World}{b:Nat}{K:Nat→Int}{E:Nat→List Ent}{R:Nat→Value}{u:Nat}{v:Value}{ys:List Int}{c:Int}
theorem blt (h:TE w b K E R u v ys c):b<w.heap.size:=by
  obtain⟨cs,X,hc,_⟩:=h.cells;exact lt_of_get hc
theorem below (h:TE w b K E R u v ys c)(hb:Below w.heap.size w w'):TE w' b K E R u v ys c:=by
  obtain⟨cs,X,hc,hx,ho⟩:=h.cells;exact⟨⟨cs,X,by rw[hb.block b (lt_of_get hc)];exact hc,hx,ho⟩,fun n hn=>ownsRow_same (h.rows n hn) fun g hg=>hb.block g ((h.rows n hn).lt g hg).2,h.apart,ownsRow_same h.own fun g hg=>hb.block g (World.ownsRow.lt h.own g hg).2,h.good⟩
theorem kcell (h:TE w b K E R u v ys c){n:Nat}(hn:n≤200):w.cell? ⟨b,8+n*2,none⟩=some (.int .i64 (K n))∧w.frozen? ⟨b,8+n*2,none⟩=false:=by
  obtain⟨cs,X,hc,hx,ho⟩:=h.cells;exact⟨by rw[cell_of_row _ _ _ _ _ _ hc];exact hx _ _ (ho.kind n hn),Lib.frozen_of_heap hc _⟩
theorem rcell (h:TE w b K E R u v ys c){n:Nat}(hn:n≤200):w.cell? ⟨b,8+n*2+1,none⟩=some (R n)∧w.frozen? ⟨b,8+n*2+1,none⟩=false:=by
  obtain⟨cs,X,hc,hx,ho⟩:=h.cells;exact⟨by rw[cell_of_row _ _ _ _ _ _ hc];exact hx _ _ (ho.row n hn),Lib.frozen_of_heap hc _⟩
theorem ccell (h:TE w b K E R u v ys c):w.cell? ⟨b,413,none⟩=some (.int .i64 c)∧w.frozen? ⟨b,413,none⟩=false:=by
  obtain⟨cs,X,hc,hx,ho⟩:=h.cells;exact⟨by rw[cell_of_row _ _ _ _ _ _ hc];exact hx _ _ ho.cook,Lib.frozen_of_heap hc _⟩
theorem ents (h:TE w b K E R u v ys c){n:Nat}(hn:n≤200):EntsIs w (R n) (E n):=LstIs.own (entC_len _) (h.rows n hn) rfl
end TE
section
variable {w:World}{b:Nat}{K:Nat→Int}{E:Nat→List Ent}{R:Nat→Value}{u:Nat}{v:Value}{ys:List Int}{c:Int}
namespace Ste
theorem pclone_c (h:TE w b K E R u v ys c) :
    Calls Tryz.prog 79 #[.pointer (some ⟨b,410,none⟩)] w (ClonePost 200 (outRow u ys) w):=by
  unfold ClonePost;have hg:=h.good;have hyl:=hg.len;have HG:=Lib.hid hg;obtain⟨cs,X,hc,hx,ho⟩:=h.cells;have c0:w.cell? ⟨b,410,none⟩=some (.int .i64 ((200:Nat):Int)):=by rw[cell_of_row _ _ _ _ _ _ hc];exact hx _ _ ho.most
  have c1:w.cell? ⟨b,411,none⟩=some (.int .i64 (u:Int)):=by rw[cell_of_row _ _ _ _ _ _ hc];exact hx _ _ ho.used
  have c2:w.cell? ⟨b,412,none⟩=some v:=by rw[cell_of_row _ _ _ _ _ _ hc];exact hx _ _ ho.wait
  have hbl:=h.blt;have hown:=h.own;clear hc hx ho;obtain⟨m,hm⟩:∃m:Nat,200=m:=⟨_,rfl⟩;have hm1:m≤1000:=by omega
  rw[hm]at c0 hyl HG ⊢;clear hm;obtain⟨a,cap,hv⟩:=h.own.len;obtain⟨n,hn⟩:∃n,ys.length=n:=⟨_,rfl⟩;rw[hn]at hv hyl;subst hv;obtain⟨v,hv⟩:∃v,v=Value.slice a n cap:=⟨_,rfl⟩;rw[←hv]at c2 hown;have j2:(w.alloc (.cells #[.int .i64 m,.int .i64 u,v] 94)).cell? ⟨b,412,none⟩=some v:=by rw[World.cell?_of_block (w:=w) (Below.heap_alloc w _ b hbl)];exact c2
  have cS:=sclone_c 0 v ys (w.alloc (.cells #[.int .i64 m,.int .i64 u,v] 94)) (hown.below ((Below.refl _ _).alloc (Nat.le_refl _) _)) (by omega);unfold SClonePost at cS;have HS:Hid ((w.alloc (.cells #[.int .i64 m,.int .i64 u,v] 94)).heap.size=w.heap.size+1):=Lib.hid (by simp);have HN:Hid ((w.alloc (.cells #[.int .i64 m,.int .i64 u,v] 94)).heap[w.heap.size]?=some (.cells #[.int .i64 m,.int .i64 u,v] 94 (0,0))):=Lib.hid (heap_alloc_new _ _);have HBA:Hid (Below w.heap.size w (w.alloc (.cells #[.int .i64 m,.int .i64 u,v] 94))):=Lib.hid ((Below.refl _ w).alloc (Nat.le_refl _) _);subst hv;clear h hg hown hyl hbl hn;go_enter Tryz.func79,Tryz.ntmps79;go_wp2_with fail;refine cS.mono ?_;rintro e w2 ⟨v2,rfl,ho2,hb2⟩;generalize w.alloc (.cells #[.int .i64 m,.int .i64 u,.slice a n cap] 94)=WA at *;have hN2:w2.heap[w.heap.size]?=some (.cells #[.int .i64 m,.int .i64 u,.slice a n cap] 94 (0,0)):=by
    rw[hb2.block _ (by rw[HS.out];omega)];exact HN.out
  have c9:w2.cell? ⟨w.heap.size,2,none⟩=some (.slice a n cap):=Lib.cell_of_heap hN2 2;have f9:w2.frozen? ⟨w.heap.size,2,none⟩=false:=Lib.frozen_of_heap hN2 2;have HX:Hid (Go.Proofs.YtdmkhmeaphaapaaGreat.PoolIs w none m w.heap.size (w2.setCell ⟨w.heap.size,2,none⟩ v2) v2 (outRow u ys)):=Lib.hid (by
    rw[HS.out]at ho2;refine⟨u,ys,⟨?_,ho2.far (fun e=>by have:=(ho2.lt _ e).1;omega),fun k hk=>Or.inr (by have:=(ho2.lt k hk).1;omega),Keeps.set ?_ 2 v2⟩,HG.out,rfl⟩
    · rw[setCell_eq];simp[mapBlock,Array.getElem?_modify,hN2,onCells,poolO]
    · have hbb:=HBA.out.trans (hb2.mono HBA.out.size);exact⟨hbb.os,hbb.tape,hbb.output,hbb.size,fun k hk _ _=>hbb.block k hk⟩)
  obtain⟨a2,cap2,hv2⟩:=ho2.len;generalize ys.length=n2 at hv2;subst hv2;clear cS ho2 hb2 hN2 j2 c2;go_wp2;go_ret;exact⟨_,_,rfl,Nat.le_refl _,HX.out⟩
set_option maxHeartbeats 2000000 in
theorem open_c (h:TE w b K E R u v ys c)(d:Int):Calls Tryz.prog 109 #[ptrE b,.int .i64 d] w fun e w'=>e=.returned (.int .i64 (openI K d))∧w'=w:=by
  obtain⟨X,hX⟩:∃X,openI K d=X:=⟨_,rfl⟩;rw[hX];unfold openI at hX;by_cases h0:d<0
  · have HX:Hid (X=5):=Lib.hid (by rw[←hX,if_pos (Or.inl h0)]);clear hX;go_enter Tryz.func109,Tryz.ntmps109;go_wp2;go_ret;exact⟨by rw[HX.out];rfl,rfl⟩
  · by_cases h1:200<d
    · have HX:Hid (X=5):=Lib.hid (by rw[←hX,if_pos (Or.inr h1)]);clear hX;go_enter Tryz.func109,Tryz.ntmps109;go_wp2;go_ret;exact⟨by rw[HX.out];rfl,rfl⟩
    · obtain⟨n,rfl⟩:∃n:Nat,d=n:=⟨d.toNat,by omega⟩;have hn:n≤200:=by omega
      have hn1:(n:Int)<201:=by omega
      have c1:=(h.kcell hn).1;rw[if_neg (by omega),Int.toNat_natCast]at hX;generalize K n=k at *;by_cases h2:k=2
      · have HX:Hid (X=0):=Lib.hid (by rw[←hX,if_pos h2]);subst h2;clear hX h;go_enter Tryz.func109,Tryz.ntmps109;go_wp2;go_ret;exact⟨by rw[HX.out];rfl,rfl⟩
      · by_cases h3:k=1
        · have HX:Hid (X=8):=Lib.hid (by rw[←hX,if_neg h2,if_pos h3]);subst h3;clear hX h h2;go_enter Tryz.func109,Tryz.ntmps109;go_wp2;go_ret;exact⟨by rw[HX.out];rfl,rfl⟩
        · have HX:Hid (X=5):=Lib.hid (by rw[←hX,if_neg h2,if_neg h3]);have h2b:(k==2)=false:=beq_eq_false_iff_ne.2 h2;have h3b:(k==1)=false:=beq_eq_false_iff_ne.2 h3;clear hX h h2 h3;go_enter Tryz.func109,Tryz.ntmps109;go_wp2;go_ret;exact⟨by rw[HX.out];rfl,rfl⟩
theorem treeListT_c (h:TE w b K E R u v ys c)(hl:∀n,n≤200→(E n).length≤1000)(d:Int):Calls Tryz.prog 68 #[ptrE b,.int .i64 d] w (TListOwn K E d w):=by
  unfold TListOwn tListI;have cO:=open_c h d;obtain⟨o,ho⟩:∃o,openI K d=o:=⟨_,rfl⟩;rw[ho]at cO ⊢;by_cases h0:o=0
  · subst h0;obtain⟨n,rfl,hn,hk⟩:=openI_ok ho;rw[if_pos rfl,Int.toNat_natCast];have c1:=(h.rcell hn).1;have cE:=eclone_c (R n) (E n) w (h.ents hn) (hl n hn);unfold ECPost at cE;obtain⟨a,cap,hr⟩:=(h.ents hn).len;rw[hr]at c1 cE;have hd0:(0:Int)≤(n:Int):=by omega
    have hd1:(n:Int)<201:=by omega
    clear h hl hr ho;go_enter Tryz.func68,Tryz.ntmps68;go_wp2_with (first
      | (go_at_call 109;refine cO.mono ?_;rintro e w1 ⟨rfl,rfl⟩)
      | (go_at_call 80;refine cE.mono ?_;rintro e w2 ⟨v2,rfl,ho2,hb2⟩;obtain⟨a2,c2,hv2⟩:=ownsRow_slice ho2;have HO2:=Lib.hid ho2;clear ho2;subst hv2))
    go_ret2;exact⟨_,rfl,HO2.out,hb2⟩
  · have h0b:(o==0)=false:=beq_eq_false_iff_ne.2 h0;rw[if_neg h0];clear h hl ho h0;go_enter Tryz.func68,Tryz.ntmps68;go_wp2_with (go_at_call 109;refine cO.mono ?_;rintro e w1 ⟨rfl,rfl⟩);go_ret2;exact⟨_,rfl,World.ownsRow_nil _ _ _ _,Below.refl _ _⟩
set_option maxHeartbeats 4000000 in
theorem treeDirsT_c (h:TE w b K E R u v ys c):Calls Tryz.prog 64 #[ptrE b] w (TDirsOwn (dirsK K 201) w):=by
  unfold TDirsOwn;have HT:=Lib.hid h;obtain⟨X,hX⟩:∃X,dirsK K 201=X:=⟨_,rfl⟩;rw[hX];have HX:=Lib.hid hX;clear h hX;go_enter Tryz.func64,Tryz.ntmps64;go_wp2;go_loopw [3,5] (fun ov iv wr=>∃n:Nat,n≤201∧iv=.int .i64 n∧wr.ownsRow w.heap.size 3 1 ov (dirsK K n).length ((dirsK K n).flatMap numC)∧Below w.heap.size w wr) (fun _ iv _=>201-(intOf iv).toNat)
  case atStart=>exact⟨0,by omega,rfl,World.ownsRow_nil _ _ _ _,Below.refl _ _⟩
  case round =>
    obtain⟨n,hn,rfl,hrow,hb⟩:=hrel;have HW:=Lib.hid hrow;have HBW:=Lib.hid hb;have hdl:=dirsK_le K n;have HSC:Hid (dirsK K (n+1)=dirsK K n++(if K n=2 then [(n:Int)] else [])):=Lib.hid rfl;have hsz:=hb.size;by_cases hn2:n≤200
    · have hnz:(n:Int)<201:=by omega
      have hn0:(0:Int)≤(n:Int):=by omega
      have c1:=((HT.out.below hb).kcell hn2).1;clear hrow hb;by_cases hk:K n=2
      · rw[hk]at c1;have HS2:Hid (dirsK K (n+1)=dirsK K n++[(n:Int)]):=Lib.hid (by rw[HSC.out,if_pos hk]);clear hk HSC;go_upto_region 6 with fail;clear c1;have HOA:Hid (World.ownsRow (wr.alloc (.cells #[.int .i64 (n:Int)] 3)) w.heap.size 3 1 u3 (dirsK K n).length ((dirsK K n).flatMap numC)):=Lib.hid (HW.out.alloc _);have HIA:Hid (NumsL (wr.alloc (.cells #[.int .i64 (n:Int)] 3)) (.slice (some ⟨wr.heap.size,0,none⟩) 1 1) [(n:Int)]):=Lib.hid (LstIs.block (numC_len _) (heap_alloc_new _ _));have hsa:w.heap.size≤(wr.alloc (.cells #[.int .i64 (n:Int)] 3)).heap.size:=by show _≤(wr.heap.push _).size;simp;omega
        have HSA:=Lib.hid hsa;have HBA:Hid (Below w.heap.size w (wr.alloc (.cells #[.int .i64 (n:Int)] 3))):=Lib.hid (HBW.out.alloc hsz _);have hlen:(dirsK K n).length+[(n:Int)].length≤100000:=by simp;omega
        clear hsa;go_wp2_with (at_builtin;refine wpList_append_lst intElem rfl _ _ rfl w.heap.size _ _ _ rfl HOA.out _ [(n:Int)] (numC_len _) (numC_one _) rfl HIA.out hlen HSA.out ?_;intro v8 w8 ho8 hg8 hr8;have HB8:=Lib.hid (HBA.out.grown hg8 HSA.out (fun j hj=>(HOA.out.lt j hj).1));have HO8:=Lib.hid ho8;clear ho8 hg8 hr8);go_roundw
        case rel=>exact⟨n+1,by omega,by first|rfl|go_num,by rw[HS2.out,List.length_append,List.flatMap_append];exact HO8.out,HB8.out⟩
        case measure=>simp[intOf];omega
      · have hkz:(K n==2)=false:=by rw[beq_eq_false_iff_ne];exact hk
        have HS2:Hid (dirsK K (n+1)=dirsK K n):=Lib.hid (by rw[HSC.out,if_neg hk,List.append_nil]);clear hk HSC;go_wp2;go_roundw
        case rel=>exact⟨n+1,by omega,by first|rfl|go_num,by rw[HS2.out];exact HW.out,HBW.out⟩
        case measure=>simp[intOf];omega
    · have hnz:¬(n:Int)<201:=by omega
      obtain rfl:n=201:=by omega
      rw[HX.out]at HW;clear hrow hb;go_wp2;go_ret;exact⟨_,rfl,HW.out,HBW.out⟩
theorem cookie_c (h:TE w b K E R u v ys c):Calls Tryz.prog 66 #[ptrE b] w fun e w'=>e=.returned (.int .i64 c)∧w'=w:=by
  have c1:=h.ccell.1;clear h;go_enter Tryz.func66,Tryz.ntmps66;go_wp2;go_ret;exact⟨rfl,rfl⟩
set_option maxHeartbeats 8000000 in
theorem treeClone_c (h:TE w b K E R u v ys c)(hl:∀n,n≤200→(E n).length≤1000):Calls Tryz.prog 35 #[ptrE b] w fun e w'=>∃b2 R' u' v' ys',e=.returned (ptrV b2)∧w.heap.size≤b2∧TM w' b2 K E R' u' v' ys' c∧outRow u' ys'=outRow u ys∧Below w.heap.size w w':=by
  obtain⟨cs0,cs,hc0,hx0,ho⟩:=h.cells;have hone:=treeO_one ho (fun n hn=>by
    obtain⟨a,cap,e⟩:=(h.ents hn).len;exact⟨a,_,cap,e⟩) (by
    obtain⟨a,cap,e⟩:=h.own.len;exact⟨a,_,cap,e⟩)
  have hld:(Instr.loadAt 96 (.pointer (some ⟨b,8,none⟩))).run Tryz.prog w=.ok (.agg cs) w:=by
    have:=run_loadAt_mid (P:=Tryz.prog) w b 8 96 cs.toList _ (fun j x hx=>by
      rw[cell_of_row _ _ _ _ _ _ hc0];exact hx0 _ _ (by rw[←Array.getElem?_toList];exact hx)) Tryz.underlying96 rfl (by rw[Array.length_toList,ho.size];exact Tryz.infoTreeS)
    rwa[Array.toArray_toList]at this
  have hst:(Instr.storeAt 96 (.pointer (some ⟨w.heap.size,0,none⟩)) (.agg cs)).run Tryz.prog (w.alloc (.cells zTree 96))=.ok () (w.alloc (.cells cs 96)):=run_storeAt_new (P:=Tryz.prog) w 96 zTree cs (by rw[ho.size];exact Tryz.infoTreeS) (by rw[zTree_size,ho.size]) hone;have hst2:(storeCells ⟨w.heap.size,0,none⟩ cs.toList 0).run Tryz.prog (w.alloc (.cells zTree 96))=.ok () (w.alloc (.cells cs 96)):=run_storeCells_new (P:=Tryz.prog) w 96 zTree cs (by rw[ho.size];exact Tryz.infoTreeS) (by rw[zTree_size,ho.size]) hone;have hsz:cs.size=406:=ho.size;have HZ:=zero_tree;have HO:=Lib.hid ho;have HT:=Lib.hid h;have HL:=Lib.hid hl;have hb0:Below w.heap.size w (w.alloc (.cells cs 96)):=(Below.refl _ w).alloc (Nat.le_refl _) _;have HB0:=Lib.hid hb0;have HN0:Hid ((w.alloc (.cells cs 96)).heap[w.heap.size]?=some (.cells cs 96 (0,0))):=Lib.hid (heap_alloc_new _ _);generalize zTree=Z at *;clear h hl hc0 hx0 ho hone hb0;go_enter Tryz.func35,Tryz.ntmps35;go_upto_region 2 with(first
    | ((with_reducible refine wpL_load 96 _ (.pointer (some ⟨b,8,none⟩)) (.agg cs) ?_ ?_ ?_);exact rfl;exact hld)
    | ((with_reducible refine wpL_store 96 _ _ (.pointer (some ⟨w.heap.size,0,none⟩)) (.agg cs) ?_ ?_ ?_ ?_);exact rfl;exact rfl;exact hst))
  have cC:=pclone_c (HT.out.below HB0.out);unfold ClonePost at cC;generalize (w.alloc (.cells cs 96))=W1 at *;clear hst hst2 hld HZ hsz;generalize hb2:w.heap.size=b2 at *;have HB2:=Lib.hid hb2;clear hb2;go_upto_region 3 with(go_at_call 79;refine cC.mono ?_;rintro e w2 ⟨pb,v2,rfl,hpb,hP⟩;obtain⟨u2,ys2,hbx,hg2,hl2⟩:=hP;have HBX:=Lib.hid hbx;have HG2:=Lib.hid hg2;have HL2:=Lib.hid hl2;obtain⟨k0,k1,k2⟩:w2.cell? ⟨pb,0,none⟩=some (.int .i64 ((200:Nat):Int))∧w2.cell? ⟨pb,1,none⟩=some (.int .i64 (u2:Int))∧w2.cell? ⟨pb,2,none⟩=some v2:=⟨Lib.cell_of_heap hbx.at' 0,Lib.cell_of_heap hbx.at' 1,Lib.cell_of_heap hbx.at' 2⟩;have hw12:Below W1.heap.size W1 w2:=hbx.keep.below hpb (Nat.le_refl _) (fun k hk=>by cases hk);have hc2:w2.heap[b2]?=some (.cells cs 96 (0,0)):=(hw12.block b2 (lt_of_get HN0.out)).trans HN0.out;have HC2:=Lib.hid hc2;have HW12:=Lib.hid hw12;obtain⟨m0,m1,m2⟩:w2.cell? ⟨b2,402,none⟩=some (.int .i64 ((200:Nat):Int))∧w2.cell? ⟨b2,403,none⟩=some (.int .i64 (u:Int))∧w2.cell? ⟨b2,404,none⟩=some v:=⟨(cell_of_row _ _ _ _ _ _ hc2).trans HO.out.most,(cell_of_row _ _ _ _ _ _ hc2).trans HO.out.used,(cell_of_row _ _ _ _ _ _ hc2).trans HO.out.wait⟩;obtain⟨f0,f1,f2⟩:w2.frozen? ⟨b2,402,none⟩=false∧w2.frozen? ⟨b2,403,none⟩=false∧w2.frozen? ⟨b2,404,none⟩=false:=⟨Lib.frozen_of_heap hc2 _,Lib.frozen_of_heap hc2 _,Lib.frozen_of_heap hc2 _⟩;obtain⟨a2,c2,hv2⟩:=hbx.own.len;subst hv2;clear hbx hg2 hl2 hw12 hc2);have HI0:Hid (ClI w (((w2.setCell ⟨b2,402,none⟩ (.int .i64 ((200:Nat):Int))).setCell ⟨b2,403,none⟩ (.int .i64 (u2:Int))).setCell ⟨b2,404,none⟩ (.slice a2 ys2.length c2)) b2 0 K E R R u2 (.slice a2 ys2.length c2) ys2 c):=Lib.hid (by
    have hlt:=lt_of_get HN0.out;have hbb:Below b2 w w2:=HB0.out.trans (HW12.out.mono (Nat.le_of_lt hlt));refine⟨⟨_,heap_setCell_same _ b2 404 _ _ _ (heap_setCell_same _ b2 403 _ _ _ (heap_setCell_same _ b2 402 _ _ _ HC2.out)),HO.out.pool u2 _⟩,fun j hj=>absurd hj (Nat.not_lt_zero _),fun i j g hi=>absurd hi (Nat.not_lt_zero _),fun j _ _=>rfl,?_,?_,by rw[HB2.out];exact Nat.le_refl _⟩
    · have ho2:=HBX.out.own;refine ownsRow_same (w:=w2) (B:=b2+1) ⟨ho2.1,?_⟩ (fun g hg=>?_)
      · rcases ho2.2 with h1|⟨g,cap,cur,hv,hg,h1⟩
        · exact Or.inl h1
        · exact Or.inr ⟨g,cap,cur,hv,by omega,h1⟩
      · have:=(World.ownsRow.lt ho2 g hg).1;rw[Below.heap_setCell _ _ _ _ (by show g≠b2;omega),Below.heap_setCell _ _ _ _ (by show g≠b2;omega),Below.heap_setCell _ _ _ _ (by show g≠b2;omega)]
    · rw[HB2.out];exact((hbb.setCell (p:=⟨b2,402,none⟩) (Nat.le_refl _) _).setCell (p:=⟨b2,403,none⟩) (Nat.le_refl _) _).setCell (p:=⟨b2,404,none⟩) (Nat.le_refl _) _)
  clear k0 k1 k2 m0 m1 m2 f0 f1 f2 cC;go_upto_region 3 with fail;clear HB0 HN0 HBX HC2 HW12;go_wp2;go_loopw [15] (fun iv wr=>∃(n:Nat) (R':Nat→Value),n≤201∧iv=.int .i64 n∧ClI w wr b2 n K E R R' u2 (.slice a2 ys2.length c2) ys2 c) (fun iv _=>201-(intOf iv).toNat)
  case atStart=>exact⟨0,R,by omega,rfl,HI0.out⟩
  case round =>
    obtain⟨n,R',hn,rfl,hcl⟩:=hrel;have HCL:=Lib.hid hcl;by_cases hn2:n≤200
    · have hnz:(n:Int)<201:=by omega
      have hn0:(0:Int)≤(n:Int):=by omega
      have htm:=HT.out.below hcl.below;have he:=htm.ents hn2;have cE:=eclone_c (R n) (E n) wr he (HL.out n hn2);unfold ECPost at cE;obtain⟨cs9,hc9,ho9⟩:=hcl.cells;have HC9:=Lib.hid hc9;have HO9:=Lib.hid ho9;have c1:wr.cell? ⟨b2,n*2+1,none⟩=some (R n):=by
        rw[cell_of_row _ _ _ _ _ _ hc9,ho9.row n hn2,hcl.rest n (Nat.le_refl _) hn2]
      obtain⟨a9,cap9,hr9⟩:=he.len;rw[hr9]at c1 cE;clear hcl htm he hc9 ho9 hr9;go_wp2_with (go_at_call 80;refine cE.mono ?_;rintro e w3 ⟨v3,rfl,ho3,hb3⟩;obtain⟨a3,c3,hv3⟩:=ownsRow_slice ho3;subst hv3;have HO3:=Lib.hid ho3;have HB3:=Lib.hid hb3;have hc3:=(hb3.block b2 (lt_of_get HC9.out)).trans HC9.out;have HC3:=Lib.hid hc3;have m1:w3.cell? ⟨b2,n*2+1,none⟩=some (R' n):=(cell_of_row _ _ _ _ _ _ hc3).trans (HO9.out.row n hn2);have f1:w3.frozen? ⟨b2,n*2+1,none⟩=false:=Lib.frozen_of_heap hc3 _;clear ho3 hb3 hc3);go_roundw
      case rel =>
        refine⟨n+1,upd R' n (.slice a3 (E n).length c3),by omega,by first|rfl|go_num,?_⟩;have hcl:=HCL.out;have hsz:=HB3.out.size;have hb2l:=lt_of_get HC9.out;have hf:∀g,g≠b2→(w3.setCell ⟨b2,n*2+1,none⟩ (.slice a3 (E n).length c3)).heap[g]?=w3.heap[g]?:=fun g hg=>Below.heap_setCell _ _ _ _ hg
        refine⟨⟨_,heap_setCell_same w3 b2 (n*2+1) _ _ _ HC3.out,HO9.out.setRow hn2 _⟩,fun j hj=>?_,fun i j g hi hj h1 h2=>?_,fun j hj1 hj2=>?_,?_,?_,hcl.at'⟩
        · by_cases e:j=n
          · subst e;rw[upd_same];refine ownsRow_same (w:=w3) ⟨HO3.out.1,?_⟩ (fun g hg=>hf g (by have:=(HO3.out.lt g hg).1;omega));rcases HO3.out.2 with h1|⟨g,cap,cur,hv,hg,h1⟩
            · exact Or.inl h1
            · exact Or.inr ⟨g,cap,cur,hv,by omega,h1⟩
          · rw[upd_ne _ _ e];have hr:=hcl.rows j (by omega);exact ownsRow_same hr (fun g hg=>by
              have:=hr.lt g hg;rw[hf g (by omega)];exact HB3.out.block g this.2)
        · by_cases e1:i=n
          · by_cases e2:j=n
            · rw[e1,e2]
            · rw[e1,upd_same]at h1;rw[upd_ne _ _ e2]at h2;have:=(HO3.out.lt g h1).1;have:=((hcl.rows j (by omega)).lt g h2).2;omega
          · rw[upd_ne _ _ e1]at h1;by_cases e2:j=n
            · rw[e2,upd_same]at h2;have:=(HO3.out.lt g h2).1;have:=((hcl.rows i (by omega)).lt g h1).2;omega
            · rw[upd_ne _ _ e2]at h2;exact hcl.apart i j g (by omega) (by omega) h1 h2
        · rw[upd_ne _ _ (by omega)];exact hcl.rest j (by omega) hj2
        · exact ownsRow_same hcl.own (fun g hg=>by
            have:=World.ownsRow.lt hcl.own g hg;rw[hf g (by omega)];exact HB3.out.block g this.2)
        · exact(hcl.below.trans (HB3.out.mono hcl.below.size)).setCell (p:=⟨b2,n*2+1,none⟩) hcl.at' _
      case measure=>simp[intOf];omega
    · have hnz:¬(n:Int)<201:=by omega
      obtain rfl:n=201:=by omega
      have HX:Hid (TM wr b2 K E R' u2 (.slice a2 ys2.length c2) ys2 c):=Lib.hid ⟨hcl.cells,fun j hj=>hcl.rows j (by omega),fun i j g hi hj=>hcl.apart i j g (by omega) (by omega),hcl.own,HG2.out⟩;have HBX:=Lib.hid hcl.below;have hat:=hcl.at';clear hcl;go_wp2;go_ret;refine⟨b2,rfl,hat,?_⟩;have hfin:=And.intro HX.out (And.intro HL2.out.symm HBX.out)
      first
        | exact⟨R',u2,_,ys2,hfin⟩
        | exact⟨R',u2,_,⟨ys2,HX.out,HL2.out.symm⟩,HBX.out⟩
        | exact⟨⟨R',u2,_,ys2,HX.out,HL2.out.symm⟩,HBX.out⟩
end Ste
end
def TeIs (w:World)(b:Nat)(l:List Itm)(nx:Int):Prop:=∃R u v ys,TE w b (kindN l) (entsN l) R u v ys nx∧outRow u ys=usedRow l∧GoodT l nx
namespace Ste
variable {w w':World}{b:Nat}{l:List Itm}{nx:Int}
theorem below (h:TeIs w b l nx)(hb:Below w.heap.size w w'):TeIs w' b l nx:=by
  obtain⟨R,u,v,ys,hm,ho,hg⟩:=h;exact⟨R,u,v,ys,hm.below hb,ho,hg⟩
theorem good (h:TeIs w b l nx):GoodT l nx:=by
  obtain⟨R,u,v,ys,hm,ho,hg⟩:=h;exact hg
theorem cook (h:TeIs w b l nx):Calls Tryz.prog 66 #[ptrE b] w fun e w'=>e=.returned (.int .i64 nx)∧w'=w:=by
  obtain⟨R,u,v,ys,hm,ho,hg⟩:=h;exact cookie_c hm
theorem clone (h:TeIs w b l nx):Calls Tryz.prog 35 #[ptrE b] w fun e w'=>∃b2 S2,e=.returned (ptrV b2)∧theTree.Is w' b2 l nx S2∧(∀k,S2 k→w.heap.size≤k)∧Below w.heap.size w w':=by
  obtain⟨R,u,v,ys,hm,ho,hg⟩:=h;refine(treeClone_c hm (fun n hn=>Nat.le_trans (hg.elen n) (by omega))).mono ?_;rintro e w' ⟨b2,R',u',v',ys',rfl,hle,hm',ho',hb⟩;exact⟨b2,Foot b2 R' v',rfl,⟨R',u',v',ys',hm',ho'.trans ho,hg,rfl⟩,fun k hk=>Nat.le_trans hle (hm'.lt k hk).1,hb⟩
theorem theListT (h:TeIs w b l nx){d:Int}(hd:kindI l d=2) :
    Calls Tryz.prog 68 #[ptrE b,.int .i64 d] w fun e w'=>∃v,e=.returned (.tuple #[v,.int .i64 0])∧w'.ownsRow w.heap.size 112 5 v (entsI l d).length ((entsI l d).flatMap entC)∧Below w.heap.size w w':=by
  obtain⟨R,u,v,ys,hm,ho,hg⟩:=h;have h:=treeListT_c hm (fun n hn=>Nat.le_trans (hg.elen n) (by omega)) d;unfold TListOwn tListI at h;rw[hg.open']at h;have hE:listE l d=0:=by
    unfold listE;rw[if_neg (by rw[hd];decide),if_neg (by rw[hd];decide)]
  obtain⟨n,rfl,_,_⟩:=hg.dir hE;rw[hE,if_pos rfl,Int.toNat_natCast]at h;exact h
theorem theDirsT (h:TeIs w b l nx) :
    Calls Tryz.prog 64 #[ptrE b] w fun e w'=>∃v,e=.returned v∧w'.ownsRow w.heap.size 3 1 v (dirsI l).length ((dirsI l).flatMap numC)∧Below w.heap.size w w':=by
  obtain⟨R,u,v,ys,hm,ho,hg⟩:=h;have h:=treeDirsT_c hm;unfold TDirsOwn at h;rw[dirsK_to]at h;exact h
set_option maxHeartbeats 8000000 in
theorem encode_c (h:TeIs w b l nx)(hx:nx≤9223372036854775807) :
    Calls Tryz.prog 72 #[ptrE b] w fun e w'=>e=.returned (.string ⟨(imgI l nx).toArray⟩)∧Below w.heap.size w w':=by
  have hgood:=good h;have hshort:=img_short hgood;have hnx:=(good h).nx1;obtain⟨L,hL⟩:∃L,imgI l nx=L:=⟨_,rfl⟩;have HFIT:Hid (∀d∈dirsOf l,DirFit d):=Lib.hid fun d hd=>own_fit hgood hx hd
  have HKD:Hid (∀q∈dirsI l,kindI l q=2):=Lib.hid fun q hq=>(dirsI_mem.1 hq).2
  have HRG:Hid (∀q∈dirsI l,0≤q∧q≤200):=Lib.hid fun q hq=>dirsI_range hq
  rw[hL]at hshort ⊢;unfold imgI imgB at hL;have hdl:(dirsOf l).length=(dirsI l).length:=by unfold dirsOf;rw[List.length_map]
  rw[hdl]at hL;obtain⟨n,hn⟩:∃n,(dirsI l).length=n:=⟨_,rfl⟩;have hn1:n≤201:=by rw[←hn];exact dirsTo_le l 201
  rw[hn]at hL;have hlen:=congrArg List.length hL;simp only[List.length_append,beB_len]at hlen;have HL:=Lib.hid hL;have HN:=Lib.hid hn;have HLEN:Hid (((dirsOf l).flatMap dirsB).length≤60000):=Lib.hid (by omega);have HT:Hid (∀W,Below w.heap.size w W→TeIs W b l nx):=Lib.hid fun W hW=>below h hW
  have HE0:Hid (EncI w w.heap.size [] (w.alloc (.cells #[.pointer none,.slice none 0 0] 197))):=Lib.hid
    ⟨Or.inl ⟨Nat.le_refl _,.slice none 0 0,heap_alloc_new w _,World.ownsRow_nil _ _ _ _,by simp[Value.ownBlock]⟩,(Below.refl _ _).alloc (Nat.le_refl _) _,by simp⟩
  have cC:=cook (HT.out _ HE0.out.b);clear h hgood hshort hL hdl hlen hn;go_enter Tryz.func72,Tryz.ntmps72;go_upto_region 2 with fail;generalize (w.alloc (.cells #[.pointer none,.slice none 0 0] 197))=W0 at *;obtain⟨bw,hbw⟩:∃bw,w.heap.size=bw:=⟨_,rfl⟩;rw[hbw]at HE0 HT ⊢;have HBW:=Lib.hid hbw;clear hbw;go_upto_region 3 with(first
    | (go_at_call 66;refine cC.mono ?_;rintro e w1 ⟨rfl,rfl⟩)
    | (go_at_call 75;(with_reducible refine(HE0.out.num _ 8 8 rfl (by omega) (by omega) (by simp)).mono ?_);rintro e w2 ⟨rfl,he,_⟩;have HE:=Lib.hid he;clear he))
  clear cC;have cD:=theDirsT (HT.out _ HE.out.b);have cD2:=HN.out;rw[cD2]at cD;go_upto_region 4 with(go_at_call 64;refine cD.mono ?_;rintro e w3 ⟨v3,rfl,ho3,hb3⟩;obtain⟨a3,c3,hv3⟩:=ownsRow_slice ho3;have HE:=Lib.hid (HE.out.below hb3);have HO3:=Lib.hid ho3;clear ho3 hb3;subst hv3);clear cD;go_upto_region 5 with(go_at_call 75;(with_reducible refine(HE.out.num _ 2 2 rfl (by omega) (by omega) (by simp only[List.length_append,beB_len,List.length_nil];omega)).mono ?_);rintro e w4 ⟨rfl,he,hf4⟩;have HE:=Lib.hid he;have HO4:=Lib.hid (row_fr (T:=IW) (T0:=3) hf4 (by decide) (by decide) HO3.out);clear he hf4);have hu4:([]:List UInt8)++beB nx.toNat 8++beB (Int.toNat (n:Int)) 2=beB nx.toNat 8++beB n 2:=by simp
  rw[hu4]at HE;clear hu4 HO3;obtain⟨B3,hB3⟩:∃B3,w2.heap.size=B3:=⟨_,rfl⟩;rw[hB3]at HO4;have HAT:Hid (∀(W:World) (i:Nat) (x:Int),W.ownsRow B3 3 1 (.slice a3 n c3) n ((dirsI l).flatMap numC)→(dirsI l)[i]?=some x→∃g off,a3=some ⟨g,off,none⟩∧g<W.heap.size∧W.rangeAt g (off+i*1) (numC x)):=Lib.hid fun W i x hW hi=>LstIs.at (LstIs.own (numC_len _) hW HN.out.symm) hi
  go_wp2_with fail;go_loopw [21] (fun iv wr=>∃i:Nat,i≤n∧iv=.int .i64 i∧EncI w bw (beB nx.toNat 8++beB n 2++((dirsOf l).take i).flatMap dirsB) wr∧wr.ownsRow B3 3 1 (.slice a3 n c3) n ((dirsI l).flatMap numC)) (fun iv _=>n-(intOf iv).toNat)
  case atStart=>exact⟨0,by omega,rfl,by simpa using HE.out,HO4.out⟩
  case round =>
    obtain⟨i,hi,rfl,he,ho⟩:=hrel;have HE:=Lib.hid he;have HO:=Lib.hid ho;clear he ho;by_cases him:i<n
    · have hiz:(i:Int)<(n:Int):=by omega
      have hi0:(0:Int)≤(i:Int):=by omega
      obtain⟨q,hq⟩:∃q,(dirsI l)[i]?=some q:=⟨_,List.getElem?_eq_getElem (by rw[HN.out];omega)⟩;have hqm:=List.mem_of_getElem? hq;obtain⟨g,off,rfl,hg,hr⟩:=HAT.out wr i q HO.out hq;have d0:=num_at hr;rw[Nat.mul_one]at d0;have hd:(dirsOf l)[i]?=some (q,entsI l q):=by
        unfold dirsOf;rw[List.getElem?_map,hq];rfl
      have HFX:=Lib.hid (HFIT.out _ (List.mem_of_getElem? hd));have HTK:=Lib.hid (flatB_take (f:=dirsB) hd);have hle:=flatB_take_le dirsB (dirsOf l) (i+1);rw[HTK.out,List.length_append]at hle;have hln:((beB nx.toNat 8++beB n 2)++((dirsOf l).take i).flatMap dirsB).length+(dirsB (q,entsI l q)).length≤900000:=by
        have:=HLEN.out;simp only[List.length_append,beB_len];omega
      have cL:=theListT (HT.out wr (by first|exact HE.out.b|(rw[HBW.out];exact HE.out.b))) (HKD.out q hqm);have cW:Hid (∀(W:World) (B2:Nat) (v:Value),EncI w bw (beB nx.toNat 8++beB n 2++((dirsOf l).take i).flatMap dirsB) W→W.ownsRow B2 112 5 v (entsI l q).length ((entsI l q).flatMap entC)→Calls Tryz.prog 113 #[ptV bw,.agg #[.int .i64 q,v]] W fun e w'=>e=.returned (.tuple #[])∧EncI w bw (beB nx.toNat 8++beB n 2++((dirsOf l).take (i+1)).flatMap dirsB) w'∧FrB IW W w'):=Lib.hid fun W B2 v hW hv=>by
        rw[HTK.out,←List.append_assoc];exact(wdir_c bw bw q v B2 (entsI l q) _ W hW.wr hv HFX.out hln hW.s).mono fun e w' hp=>hW.step hp
      clear hr hq hqm hd hle hln;go_wp2_with (first
        | (go_at_call 68;refine cL.mono ?_;rintro e w5 ⟨v5,rfl,ho5,hb5⟩;obtain⟨a5,c5,hv5⟩:=ownsRow_slice ho5;have HE5:=Lib.hid (HE.out.below hb5);have HR5:=Lib.hid ho5;have HO5:=Lib.hid (row_fr (T:=IW) (T0:=3) (FrB.below hb5) (by decide) (by decide) HO.out);clear ho5 hb5;subst hv5)
        | (go_at_call 113;refine(cW.out _ _ _ HE5.out HR5.out).mono ?_;rintro e w6 ⟨rfl,he6,hf6⟩;have HE6:=Lib.hid he6;have HO6:=Lib.hid (row_fr (T:=IW) (T0:=3) hf6 (by decide) (by decide) HO5.out);clear he6 hf6))
      go_roundw
      case rel=>exact⟨i+1,by omega,by first|rfl|go_num,HE6.out,HO6.out⟩
      case measure=>simp[intOf];omega
    · have hiz:¬(i:Int)<(n:Int):=by omega
      have HA:Hid ((dirsOf l).take i=dirsOf l):=Lib.hid (List.take_of_length_le (by unfold dirsOf;rw[List.length_map,HN.out];omega));rw[HA.out]at HE;have hfin:beB nx.toNat 8++beB n 2++(dirsOf l).flatMap dirsB=L:=by
        rw[←HL.out];simp only[List.append_assoc]
      rw[hfin]at HE;have cT:=wtext_c bw bw L wr HE.out.wr HE.out.s;clear hfin;go_wp2_with (go_at_call 78;refine cT.mono ?_;rintro e w7 ⟨rfl,hb7⟩;have HB7:=Lib.hid hb7;clear hb7);go_ret;exact⟨rfl,by first|exact HE.out.b.trans HB7.out|(rw[HBW.out];exact HE.out.b.trans HB7.out)⟩
end Ste
end Go.Proofs.YtdmkhmeaphaapaaGreat
namespace Go.Proofs.YtdmkhmeaphaapaaGreat.V.St
open Go.RowKit Go.Sort
set_option linter.unusedVariables false
set_option linter.unusedSimpArgs false
variable {X:List Value}
def RnX (X:List Value)(B b vb nb n h:Nat)(k:Bool)(E A:Nat)(img:ByteArray)(rs r1 r2:List ByteArray)(lm:Bool)(st0:St)(rv:Value)(s:ByteArray)(op:Bool)(q:Int)(W:World):Prop:=
  VaultAt X W vb b (bkF h k) h A E img rv op∧((q=0∧fitsI h 1 s=0∧HalfAt W nb 82 b (bkF h (!k)) h (1+(s.size+61)/62) (E+1) []∧∃st',Dev B W b st'∧LiveS n h (!k) (E+1) (1+(s.size+61)/62) s [] [s] [] lm st'∧st'.pend=[]) ∨
    (q=13∧lm=true∧∃st',Dev B W b st'∧DeadS n h k E r1 r2 s st')∨(q≠0∧q≠13∧fitsI h 1 s=q∧Dev B W b st0))
set_option maxHeartbeats 8000000 in
theorem renew_do {B b vb nb n h g:Nat}{k:Bool}{E A:Nat}{img:ByteArray}{rs r1 r2:List ByteArray}{lm:Bool}{st:St}{rv:Value}{W:World}(s:ByteArray)(hL:LiveR X B b vb n h k E A img rs r1 r2 lm st rv W)(hs:s.size≤1000000)(hE:E+1<9223372036854775808)(hB:B≤W.heap.size)
    (hnb:HalfAt W nb 82 b (bkF h (!k)) h 1 (E+1) []) (hnB:B≤nb) (hg:StepsAt W g (rnKs b vb nb s)) :
    Calls Tryz.prog 50 #[.pointer (some ⟨vb,0,none⟩),.slice (some ⟨g,0,none⟩) (10:Nat) (10:Nat)] W fun e w'=>∃q:Int,e=.returned (.int .i64 q)∧RnX X B b vb nb n h k E A img rs r1 r2 lm st rv s (decide (q≠13)) q w'∧Below B W w'∧Off vaTs W w':=by
  have hl:=hL.live;have hpd:=hl.pndh;have h9:=hl.n2;have h8:=hl.hn;have hle:=bkF_le hl.hn (!k);have hlen:=hl.len;have h2:=hl.h2;have hh1:1≤h:=by omega
  have hTh:82∉devTs:=by decide
  have keep:∀{W1 W2:World} {T:TypeId} {hb' F' S' A' E':Nat} {R':List Value},HalfAt W1 hb' T b F' S' A' E' R'→Off devTs W1 W2→T∈[82,84,98]→HalfAt W2 hb' T b F' S' A' E' R':=fun h1 h2 h3=>HalfAt.base_off h1 h2 h3
  refine(do_c g 10 (rnKs b vb nb s)
    (fun i W'=>Below B W W'∧Off vaTs W W'∧VaultAt X W' vb b (bkF h k) h A E img rv true∧HalfAt W' nb 82 b (bkF h (!k)) h (if i≤6 then 1 else 1+(s.size+61)/62) (E+1) []∧(2≤i→fitsI h 1 s=0)∧∃st',Dev B W' b st'∧RnI n h k E r1 r2 lm st s i st')
    (fun q W'=>Below B W W'∧Off vaTs W W'∧q≠0∧RnX X B b vb nb n h k E A img rs r1 r2 lm st rv s true q W')
    hL.vlt rfl (by decide) ?_ ⟨Below.refl _ _,Off.refl _ _,hL.vlt,hnb,by omega,st,hL.dev,rfl⟩ ?_ ?_ ?_).mono ?_
  · intro k hk;simp only[rnKs,List.mem_cons,List.mem_nil_iff,or_false]at hk;rcases hk with rfl|rfl|rfl|rfl|rfl|rfl|rfl|rfl|rfl|rfl
    · exact call_stands
    · exact call_fits
    · exact call_next
    · exact call_shut
    · exact call_flush
    · exact call_wipe
    · exact call_write
    · exact call_flush
    · exact call_sign
    · exact call_flush
  · rintro i W' ⟨_,ho,_⟩;exact ho _ (by decide) _ _ _ hg
  · rintro i kk W' hk ⟨hb,ho,hv,hn,hfit,st',hd,hi⟩;have hBW:B≤W'.heap.size:=Nat.le_trans hB hb.size;rcases i with _ | _ | _ | _ | _ | _ | _ | _ | _ | _|i
    ·
      injection hk with hk;subst hk;have hi':st'=st:=hi;subst hi';refine(stands_c hn hd hl.good (by omega)).mono ?_;rintro e w' ⟨rfl,hbb⟩;refine⟨_,rfl,?_⟩;cases hgo:goneB st'
      · have hq:standsI st' (bkF h (!k)) h=0:=by
          unfold standsI;rw[ask_ok hgo (by omega),if_pos rfl,if_neg (by omega)]
        exact Or.inl ⟨hq,hb.trans (hbb.mono hBW),ho.trans (Off.ofBelow hbb _),HalfAt.below hv hbb,HalfAt.below hn hbb,by omega,st',hd.below hbb,rfl⟩
      · have hq:standsI st' (bkF h (!k)) h=13:=by
          unfold standsI;rw[ask_gone hgo,if_neg (by decide)]
        rw[hq];exact Or.inr ⟨by decide,hb.trans (hbb.mono hBW),ho.trans (Off.ofBelow hbb _),by decide,HalfAt.below hv hbb,Or.inr (Or.inl ⟨rfl,gone_lim hgo hl.lim,st',hd.below hbb,hl.stg.dead (by omega) _⟩)⟩
    ·
      injection hk with hk;subst hk;have hi':st'=st:=hi;subst hi';refine(fits_c s hn (by omega) (by simp) (by omega)).mono ?_;rintro e w' ⟨rfl,hbb⟩;refine⟨_,rfl,?_⟩;by_cases hq:fitsI h 1 s=0
      · exact Or.inl ⟨hq,hb.trans (hbb.mono hBW),ho.trans (Off.ofBelow hbb _),HalfAt.below hv hbb,HalfAt.below hn hbb,fun _=>hq,st',hd.below hbb,rfl⟩
      · exact Or.inr ⟨hq,hb.trans (hbb.mono hBW),ho.trans (Off.ofBelow hbb _),hq,HalfAt.below hv hbb,Or.inr (Or.inr ⟨hq,by rcases fits_num h 1 s with e|e|e<;>rw[show fitsI h (if 0+1≤6 then 1 else 1+(s.size+61)/62) s=fitsI h 1 s from rfl,e]<;>decide,rfl,hd.below hbb⟩)⟩
    ·
      injection hk with hk;subst hk;have hi':st'=st:=hi;subst hi';refine(hasNext_c hv).mono ?_;rintro e w' ⟨rfl,rfl⟩;rw[if_neg (by omega)];exact⟨0,rfl,Or.inl ⟨rfl,hb,ho,hv,hn,fun _=>hfit (by omega),st',hd,rfl⟩⟩
    ·
      injection hk with hk;subst hk;have hi':st'=st:=hi;subst hi';refine(shut_c (B:=B) (Ps:=fun q w1=>HdP B b st' (bkF h (!k)) 0 q w1∧Below B W' w1∧Off devTs W' w1) hn hTh (fun W2 hW2=>?_)).mono ?_
      · refine(sethead_c (hd.below hW2) hl.good (by omega) (by omega) (Nat.le_trans hBW hW2.size) (by decide)).mono ?_;rintro e w' ⟨q,he,⟨h1,h3,h4⟩,h5⟩;exact⟨q,he,⟨h1,(hW2.mono hBW).trans h3,(Off.ofBelow hW2 _).trans h4⟩,h5⟩
      · rintro e w' ⟨q,rfl,hq,hbb,hoo⟩;refine⟨q,rfl,?_⟩;rcases hq with⟨rfl,hgo,hd'⟩|⟨rfl,hgo,hd'⟩
        · exact Or.inr ⟨by decide,hb.trans hbb,ho.trans hoo.va,by decide,keep hv hoo (by simp),Or.inr (Or.inl ⟨rfl,gone_lim hgo hl.lim,st',hd',hl.stg.dead (by omega) _⟩)⟩
        · exact Or.inl ⟨rfl,hb.trans hbb,ho.trans hoo.va,keep hv hoo (by simp),keep hn hoo (by simp),fun _=>hfit (by omega),_,hd',hl.stg.shut hh1 h8 hgo⟩
    ·
      injection hk with hk;subst hk;obtain⟨hS,he⟩:=hi;refine(flushq_c hd hS.good (by have:=hS.pnd;omega) hBW).mono ?_;rintro e w' ⟨q,rfl,hq,hbb,hoo⟩;refine⟨q,rfl,?_⟩;rcases hq with⟨rfl,hgo,hd'⟩|⟨rfl,hgo,hd'⟩
      · exact Or.inr ⟨by decide,hb.trans hbb,ho.trans hoo.va,by decide,keep hv hoo (by simp),Or.inr (Or.inl ⟨rfl,gone_lim hgo hS.lim,st',hd',hS.dead (by omega) _⟩)⟩
      · exact Or.inl ⟨rfl,hb.trans hbb,ho.trans hoo.va,keep hv hoo (by simp),keep hn hoo (by simp),fun _=>hfit (by omega),_,hd',hS.flush,he⟩
    ·
      injection hk with hk;subst hk;obtain⟨hS,he⟩:=hi;have hpz:=hS.pnd;have hl5:=hS.len;refine(wipe_c (B:=B) (Ps:=fun q w1=>WpP B b st' (bkF h (!k)) 1 h q w1∧Below B W' w1∧Off devTs W' w1) hn hTh (fun W2 hW2=>?_)).mono ?_
      · refine(wipeq_c (hd.below hW2) hS.good (by omega) hh1 (Nat.le_refl _) (by omega) (by omega) (Nat.le_trans hBW hW2.size)).mono ?_;rintro e w' ⟨q,he,⟨h1,h3,h4⟩,h5⟩;exact⟨q,he,⟨h1,(hW2.mono hBW).trans h3,(Off.ofBelow hW2 _).trans h4⟩,h5⟩
      · rintro e w' ⟨q,rfl,hq,hbb,hoo⟩;refine⟨q,rfl,?_⟩;rcases hq with⟨rfl,hgo,hd'⟩|⟨j,hj,hc,hr,hd'⟩
        · exact Or.inr ⟨by decide,hb.trans hbb,ho.trans hoo.va,by decide,keep hv hoo (by simp),Or.inr (Or.inl ⟨rfl,gone_lim hgo hS.lim,st',hd',hS.dead (by omega) _⟩)⟩
        · rcases hc with⟨rfl,rfl⟩|⟨rfl,hgo⟩
          · obtain⟨g1,g2,g3⟩:=hS.wiped hh1 h8 hr he;exact Or.inl ⟨rfl,hb.trans hbb,ho.trans hoo.va,keep hv hoo (by simp),keep hn hoo (by simp),fun _=>hfit (by omega),_,hd',g1.mono (by omega),g2,g3⟩
          · have hS':=hS.wipes hh1 h8 j hj hr;exact Or.inr ⟨by decide,hb.trans hbb,ho.trans hoo.va,by decide,keep hv hoo (by simp),Or.inr (Or.inl ⟨rfl,gone_lim hgo hS'.lim,_,hd',hS'.dead (by omega) _⟩)⟩
    ·
      injection hk with hk;subst hk;obtain⟨hS,hw,he⟩:=hi;have hpz:=hS.pnd;have hl5:=hS.len;have hfl:=framesL_length s;obtain⟨f1,f2,f3⟩:=fits_ok (hfit (by omega));refine(ewrite_c s (Ps:=fun x q w1=>WrP B b st' (bkF h (!k)) 1 h s x q w1∧Below B W' w1∧Off devTs W' w1) hn hTh (fun W2 hW2=>?_)).mono ?_
      · refine(writeq_c (hd.below hW2) hS.good (by omega) hh1 (Nat.le_refl _) hh1 (by omega) (by omega) (Nat.le_trans hBW hW2.size)).mono ?_;rintro e w' ⟨x,q,he,⟨h1,h3,h4⟩,h5⟩;exact⟨x,q,he,⟨h1,(hW2.mono hBW).trans h3,(Off.ofBelow hW2 _).trans h4⟩,h5⟩
      · rintro e w' ⟨x,q,w1,rfl,⟨hwr,hbb,hoo⟩,hn1,hq⟩;refine⟨q,rfl,?_⟩;rcases hq with⟨rfl,rfl⟩|⟨hq,rfl⟩
        · rcases hwr with⟨h1,_⟩|⟨h1,_⟩|⟨hft,j,hj,hc,hr,hd'⟩
          · cases h1
          · exact absurd rfl h1
          · rcases hc with⟨_,rfl,rfl⟩|⟨h1,_⟩
            · have htl:(framesL s).take ((s.size+61)/62)=framesL s:=List.take_of_length_le (by rw[hfl];exact Nat.le_refl _);rw[htl]at hr hd';obtain⟨g1,g2,g3⟩:=hS.written hh1 h8 f3 hr hw he;have hv1:VaultAt X w1 vb b (bkF h k) h A E img rv true:=keep hv hoo (by simp);have hset:Off vaTs w1 (w1.setCell ⟨nb,3,none⟩ (.int .i64 ((1+(s.size+61)/62:Nat):Int))):=va_set hn1 (by decide);have hset2:Off [82] w1 (w1.setCell ⟨nb,3,none⟩ (.int .i64 ((1+(s.size+61)/62:Nat):Int))):=(Off.refl _ _).setCell hn1 (by simp) _;exact Or.inl ⟨rfl,(hb.trans hbb).setCell (p:=⟨nb,3,none⟩) hnB _,(ho.trans hoo.va).trans hset,HalfAt.off hv1 hset2 (by decide),hn1.setEnd _,fun _=>hfit (by omega),_,hd'.vset hn1 (by simp),g1.mono (by omega),g2,g3⟩
            · cases h1
        · have hv1:VaultAt X w' vb b (bkF h k) h A E img rv true:=keep hv hoo (by simp);rcases hwr with⟨rfl,hgo,hd'⟩|⟨h1,h13,hgo,hft,hd'⟩|⟨hft,j,hj,hc,hr,hd'⟩
          · exact Or.inr ⟨by decide,hb.trans hbb,ho.trans hoo.va,by decide,hv1,Or.inr (Or.inl ⟨rfl,gone_lim hgo hS.lim,st',hd',hS.dead (by omega) _⟩)⟩
          · rw[hfit (by omega)]at hft;exact absurd hft.symm h1
          · rcases hc with⟨h1,_⟩|⟨rfl,hgo⟩
            · exact absurd h1 hq
            · have hS':=hS.puts hh1 h8 (framesL_size s) (by omega) j (by omega) hr;exact Or.inr ⟨by decide,hb.trans hbb,ho.trans hoo.va,by decide,hv1,Or.inr (Or.inl ⟨rfl,gone_lim hgo hS'.lim,_,hd',hS'.dead (by omega) _⟩)⟩
    ·
      injection hk with hk;subst hk;obtain⟨hS,hw,he⟩:=hi;refine(flushq_c hd hS.good (by have:=hS.pnd;omega) hBW).mono ?_;rintro e w' ⟨q,rfl,hq,hbb,hoo⟩;refine⟨q,rfl,?_⟩;rcases hq with⟨rfl,hgo,hd'⟩|⟨rfl,hgo,hd'⟩
      · exact Or.inr ⟨by decide,hb.trans hbb,ho.trans hoo.va,by decide,keep hv hoo (by simp),Or.inr (Or.inl ⟨rfl,gone_lim hgo hS.lim,st',hd',hS.dead (by omega) _⟩)⟩
      · exact Or.inl ⟨rfl,hb.trans hbb,ho.trans hoo.va,keep hv hoo (by simp),keep hn hoo (by simp),fun _=>hfit (by omega),_,hd',hS.flush,⟨holds_same hw rfl,he⟩,out_flushed⟩
    ·
      injection hk with hk;subst hk;obtain⟨hS,⟨hw,he⟩,hout⟩:=hi;have hpz:=hS.pnd;have hl5:=hS.len;obtain⟨f1,f2,f3⟩:=fits_ok (hfit (by omega));refine(sign_c (B:=B) (Ps:=fun q w1=>HdP B b st' (bkF h (!k)) (E+1) q w1∧Below B W' w1∧Off devTs W' w1) hn hTh (fun W2 hW2=>?_)).mono ?_
      · refine(sethead_c (hd.below hW2) hS.good (by omega) (by omega) (Nat.le_trans hBW hW2.size) (by omega)).mono ?_;rintro e w' ⟨q,he,⟨h1,h3,h4⟩,h5⟩;exact⟨q,he,⟨h1,(hW2.mono hBW).trans h3,(Off.ofBelow hW2 _).trans h4⟩,h5⟩
      · rintro e w' ⟨q,rfl,hq,hbb,hoo⟩;refine⟨q,rfl,?_⟩;rcases hq with⟨rfl,hgo,hd'⟩|⟨rfl,hgo,hd'⟩
        · exact Or.inr ⟨by decide,hb.trans hbb,ho.trans hoo.va,by decide,keep hv hoo (by simp),Or.inr (Or.inl ⟨rfl,gone_lim hgo hS.lim,st',hd',hS.dead (by omega) _⟩)⟩
        · exact Or.inl ⟨rfl,hb.trans hbb,ho.trans hoo.va,keep hv hoo (by simp),keep hn hoo (by simp),fun _=>hfit (by omega),_,hd',hS.signed h2 h8 h9 f1 f2 f3 hw he (by omega) hgo hout⟩
    ·
      injection hk with hk;subst hk;obtain⟨hD,hN⟩:=hi;refine(flushq_c hd hD.good hD.pnd hBW).mono ?_;rintro e w' ⟨q,rfl,hq,hbb,hoo⟩;refine⟨q,rfl,?_⟩;rcases hq with⟨rfl,hgo,hd'⟩|⟨rfl,hgo,hd'⟩
      · exact Or.inr ⟨by decide,hb.trans hbb,ho.trans hoo.va,by decide,keep hv hoo (by simp),Or.inr (Or.inl ⟨rfl,gone_lim hgo (fun e=>hN.lim e),st',hd',hD⟩)⟩
      · exact Or.inl ⟨rfl,hb.trans hbb,ho.trans hoo.va,keep hv hoo (by simp),keep hn hoo (by simp),fun _=>hfit (by omega),_,hd',hN,rfl⟩
    · cases hk
  · rintro q W' (⟨_,_,_,hv,_⟩|⟨_,_,_,_,hv,_⟩)
    · exact⟨_,_,_,_,_,_,_,_,hv⟩
    · exact⟨_,_,_,_,_,_,_,_,hv⟩
  · rintro e w' ⟨q,w1,rfl,hq,rfl⟩;refine⟨q,rfl,?_⟩;rcases hq with⟨rfl,hb,ho,hv,hn,hfit,st',hd,hi⟩|⟨_,hb,ho,hne,hv,hx⟩
    · have hset2:Off [98] w1 (w1.setCell ⟨vb,7,none⟩ (.bool (decide ((0:Int)≠13)))):=(Off.refl _ _).setCell hv (by simp) _;exact⟨⟨hv.setOpen _,Or.inl ⟨rfl,hfit (by omega),HalfAt.off hn hset2 (by decide),st',hd.vset hv (by simp),hi⟩⟩,hb.setCell (p:=⟨vb,7,none⟩) hL.hvb _,ho.setCell hv (by decide) _⟩
    · refine⟨⟨hv.setOpen _,?_⟩,hb.setCell (p:=⟨vb,7,none⟩) hL.hvb _,ho.setCell hv (by decide) _⟩;rcases hx with⟨h0,_⟩|⟨h13,h1,st',hd,hD⟩|⟨h0,h13,h1,hd⟩
      · exact absurd h0 hne
      · exact Or.inr (Or.inl ⟨h13,h1,st',hd.vset hv (by simp),hD⟩)
      · exact Or.inr (Or.inr ⟨h0,h13,h1,hd.vset hv (by simp)⟩)
def LeafOK (X:List Value)(B b vb:Nat)(w:World)(st':St)(W:World)(C:Array Value):Prop:=W.heap[vb]?=some (.cells C 98 (0,0))∧Below B w W∧Off vaTs w W∧Dev B W b st'
theorem LeafOK.set {B b vb:Nat}{w W:World}{st':St}{C:Array Value}(h:LeafOK X B b vb w st' W C)(hB:B≤vb)(j:Nat)(x:Value):LeafOK X B b vb w st' (W.setCell ⟨vb,j,none⟩ x) (C.setIfInBounds j x):=
  ⟨by rw[heap_setCell_same W vb j _ _ _ h.1],h.2.1.setCell (p:=⟨vb,j,none⟩) hB _,h.2.2.1.setCell h.1 (by decide) _,h.2.2.2.vset h.1 (by simp)⟩
def RnEnd (X:List Value)(B b vb n h:Nat)(k:Bool)(E:Nat)(s:ByteArray)(lm:Bool)(w W:World):Prop:=
  Below B w W∧Off vaTs w W∧∃st' rv',LiveR X B b vb n h (!k) (E+1) (1+(s.size+61)/62) s [] [s] [] lm st' rv' W∧st'.pend=[]∧rowBlk rv'=none
def RnPost (X:List Value)(B b vb n h:Nat)(k:Bool)(E A:Nat)(img:ByteArray)(rs r1 r2:List ByteArray)(lm:Bool)(st:St)(rv:Value)(s:ByteArray)(w:World)(e:Ending)(w':World):Prop:=
  ∃q:Int,e=.returned (.int .i64 q)∧((q=0∧fitsI h 1 s=0∧RnEnd X B b vb n h k E s lm w w')∨(Below B w w'∧Off vaTs w w'∧((q=13∧lm=true∧∃st',DeadR X B b vb n h k E r1 r2 s st' w')∨(q≠0∧q≠13∧fitsI h 1 s=q∧LiveR X B b vb n h k E A img rs r1 r2 lm st rv w'))))
set_option maxHeartbeats 2000000 in
theorem renew_c {B b vb n h:Nat}{k:Bool}{E A:Nat}{img:ByteArray}{rs r1 r2:List ByteArray}{lm:Bool}{st:St}{rv:Value}{w:World}(s:ByteArray)(hL:LiveR X B b vb n h k E A img rs r1 r2 lm st rv w)(hs:s.size≤1000000)(hE:E+1<9223372036854775808)(hB:B≤w.heap.size) :
    Calls Tryz.prog 121 #[.pointer (some ⟨vb,0,none⟩),.string s] w (RnPost X B b vb n h k E A img rs r1 r2 lm st rv s w):=by
  unfold RnPost;have HL:=Lib.hid hL;have HO:Hid (∀W,Below w.heap.size w W→Calls Tryz.prog 157 #[.pointer (some ⟨vb,0,none⟩)] W fun e w'=>e=.returned (.agg #[.pointer (some ⟨b,0,none⟩),.int .i64 (bkF h (!k)),.int .i64 h,.int .i64 1,.int .u64 (E+1:Nat)])∧Below W.heap.size W w'):=Lib.hid (fun W hW=>by
    have hl:=HL.out.live;have h9:=hl.n2;have h8:=hl.hn;have hbk:bkF h k≤h∧h-bkF h k=bkF h (!k):=by cases k<;>simp[bkF]
    have h1:=other_c (HalfAt.below HL.out.vlt hW) hbk.1 (by omega) (by omega);rw[hbk.2]at h1;exact h1)
  have cC:=fun W=>sclone_c s W (by omega)
  have HC0:Hid (∀W,Below w.heap.size w W→W.cell? ⟨vb,0,none⟩=some (.pointer (some ⟨b,0,none⟩))):=Lib.hid (fun W hW=>(HalfAt.below HL.out.vlt hW).cells.1);have HDO:Hid (∀(W:World) (nb:Nat),w.heap.size≤nb→Below w.heap.size w W→HalfAt W nb 82 b (bkF h (!k)) h 1 (E+1) []→Calls Tryz.prog 50 #[.pointer (some ⟨vb,0,none⟩),.slice (some ⟨W.heap.size,0,none⟩) (10:Nat) (10:Nat)] (W.alloc (.cells #[.func (.func 47) #[.pointer (some ⟨nb,0,none⟩)] #[],.func (.func 110) #[.agg #[.pointer (some ⟨nb,0,none⟩),.string s]] #[],.func (.func 158) #[.pointer (some ⟨vb,0,none⟩)] #[],.func (.func 111) #[.pointer (some ⟨nb,0,none⟩)] #[],.func (.func 53) #[.pointer (some ⟨b,0,none⟩)] #[],.func (.func 52) #[.pointer (some ⟨nb,0,none⟩)] #[],.func (.func 54) #[.agg #[.pointer (some ⟨nb,0,none⟩),.string s]] #[],.func (.func 53) #[.pointer (some ⟨b,0,none⟩)] #[],.func (.func 112) #[.pointer (some ⟨nb,0,none⟩)] #[],.func (.func 53) #[.pointer (some ⟨b,0,none⟩)] #[]] 169)) fun e w'=>∃q:Int,e=.returned (.int .i64 q)∧RnX X B b vb nb n h k E A img rs r1 r2 lm st rv s (decide (q≠13)) q w'∧Below B w w'∧Off vaTs w w'∧Off vaTs (W.alloc (.cells ((rnKs b vb nb s).map stepV).toArray 169)) w'):=Lib.hid (fun W nb hnb hW hN=>by
    have hWa:Below W.heap.size W (W.alloc (.cells ((rnKs b vb nb s).map stepV).toArray 169)):=(Below.refl _ _).alloc (Nat.le_refl _) _;have h1:=renew_do (W:=W.alloc (.cells ((rnKs b vb nb s).map stepV).toArray 169)) s ((HL.out.below hW).below hWa) hs hE (Nat.le_trans (Nat.le_trans hB hW.size) hWa.size) (HalfAt.below hN hWa) (Nat.le_trans hB hnb) (heap_alloc_new _ _);refine h1.mono ?_;rintro e w' ⟨q,he,hx,hb,ho⟩;exact⟨q,he,hx,(hW.mono hB).trans ((hWa.mono (Nat.le_trans hB hW.size)).trans hb),(Off.ofBelow hW _).trans ((Off.ofBelow hWa _).trans ho),ho⟩)
  have c0:=HC0.out w (Below.refl _ _);generalize bkF h (!k)=Fo at *;generalize E+1=E1 at *;obtain⟨Z,hZ⟩:∃Z:Obj,Z=.cells #[.pointer none,.int .i64 0,.int .i64 0,.int .i64 0,.int .u64 0] 82 (0,0):=⟨_,rfl⟩;have HZ:Hid (∀W W':World,Below (W.alloc Z).drew.heap.size (W.alloc Z).drew W'→HalfZ W' W.heap.size):=Lib.hid (fun W W' hb=>by
    unfold HalfZ;rw[hb.block W.heap.size (by show _<(W.alloc Z).heap.size;simp)];show(W.alloc Z).heap[W.heap.size]?=_
    rw[heap_alloc_new,hZ])
  have HS1:Hid (∀w1,Below w.heap.size w w1→(HalfAt (w1.alloc (.cells #[.pointer (some ⟨b,0,none⟩),.int .i64 Fo,.int .i64 h,.int .i64 1,.int .u64 E1] 82)) w1.heap.size 82 b Fo h 1 E1 []∧Below w.heap.size w (w1.alloc (.cells #[.pointer (some ⟨b,0,none⟩),.int .i64 Fo,.int .i64 h,.int .i64 1,.int .u64 E1] 82))∧w.heap.size≤w1.heap.size)):=Lib.hid (fun w1 hB1=>⟨heap_alloc_new _ _,hB1.alloc hB1.size _,hB1.size⟩);have HS2:Hid (∀w1,Below w.heap.size w w1→HalfZ w1 w.heap.size→(HalfAt (((((w1.setCell ⟨w.heap.size,0,none⟩ (.pointer (some ⟨b,0,none⟩))).setCell ⟨w.heap.size,1,none⟩ (.int .i64 Fo)).setCell ⟨w.heap.size,2,none⟩ (.int .i64 h)).setCell ⟨w.heap.size,3,none⟩ (.int .i64 1)).setCell ⟨w.heap.size,4,none⟩ (.int .u64 E1)) w.heap.size 82 b Fo h 1 E1 []∧Below w.heap.size w (((((w1.setCell ⟨w.heap.size,0,none⟩ (.pointer (some ⟨b,0,none⟩))).setCell ⟨w.heap.size,1,none⟩ (.int .i64 Fo)).setCell ⟨w.heap.size,2,none⟩ (.int .i64 h)).setCell ⟨w.heap.size,3,none⟩ (.int .i64 1)).setCell ⟨w.heap.size,4,none⟩ (.int .u64 E1))∧w.heap.size≤w.heap.size)):=Lib.hid (fun w1 hB1 zz=>⟨heap_setCells_at w.heap.size 82 [.pointer (some ⟨b,0,none⟩),.int .i64 Fo,.int .i64 h,.int .i64 1,.int .u64 E1] 0 w1 [.pointer none,.int .i64 0,.int .i64 0,.int .i64 0,.int .u64 0] zz (by simp),Below.setCells hB1 (Nat.le_refl _) 0 [.pointer (some ⟨b,0,none⟩),.int .i64 Fo,.int .i64 h,.int .i64 1,.int .u64 E1],Nat.le_refl _⟩);subst hZ;have c9:=HC0.out (w.alloc (.cells #[.pointer none,.int .i64 0,.int .i64 0,.int .i64 0,.int .u64 0] 82)) ((Below.refl _ _).alloc (Nat.le_refl _) _);clear hL;go_enter Tryz.func121,Tryz.ntmps121;go_upto_region 1 with fail;go_cut [5,6] from 9 (fun c d wx=>∃nb,c=.pointer (some ⟨nb,0,none⟩)∧d=.func (.func 53) #[.pointer (some ⟨b,0,none⟩)] #[]∧HalfAt wx nb 82 b Fo h 1 E1 []∧Below w.heap.size w wx∧w.heap.size≤nb)
  case first =>
    go_region_with (first|(go_at_call 157;refine(HO.out _ ?_).mono ?_;(first|exact(Below.refl _ _).drew|exact((Below.refl _ _).alloc (Nat.le_refl _) _).drew);rintro e w1 ⟨rfl,hb1⟩;have hB1:Below w.heap.size w w1:=(by first|exact(Below.refl _ _).drew.trans hb1|exact((Below.refl _ _).alloc (Nat.le_refl _) _).drew.trans (hb1.mono (by simp)));have d0:=HC0.out _ hB1;have d1:=HC0.out _ (hB1.alloc hB1.size (.cells #[.pointer none,.int .i64 0,.int .i64 0,.int .i64 0,.int .u64 0] 82));(first|(have zz:=HZ.out _ _ hb1;obtain⟨⟨y0,y1,y2,y3,y4⟩,x0,x1,x2,x3,x4⟩:=zz.all)|skip)))
    all_goals
      go_wp2;go_meet
      case rel =>
        first
          | (refine⟨w1.heap.size,by with_reducible rfl,rfl,?_⟩;exact HS1.out w1 hB1)
          | (refine⟨w.heap.size,by with_reducible rfl,rfl,?_⟩;exact HS2.out w1 hB1 zz)
  case rest =>
    obtain⟨nb,rfl,rfl,hnb,hbc,hnbw⟩:=hcut;have HNB:=Lib.hid hnb;have HBC:=Lib.hid hbc;clear hnb hbc c9 c0;obtain⟨W0,hW0⟩:∃W0,wc.alloc (.cells #[.pointer (some ⟨nb,0,none⟩),.string s] 119)=W0:=⟨_,rfl⟩;have HB0:Hid (Below w.heap.size w W0):=Lib.hid (by rw[←hW0];exact HBC.out.alloc HBC.out.size _);have hC0:W0.heap[wc.heap.size]?=some (.cells #[.pointer (some ⟨nb,0,none⟩),.string s] 119 (0,0)):=by rw[←hW0];exact heap_alloc_new _ _
    have HN0:Hid (HalfAt W0 nb 82 b Fo h 1 E1 []):=Lib.hid (by rw[←hW0];exact HalfAt.below HNB.out ((Below.refl _ _).alloc (Nat.le_refl _) _));have j0:W0.cell? ⟨wc.heap.size,0,none⟩=some (.pointer (some ⟨nb,0,none⟩)):=by rw[cell_of_row _ _ _ _ _ _ hC0];rfl
    have j1:W0.cell? ⟨wc.heap.size,1,none⟩=some (.string s):=by rw[cell_of_row _ _ _ _ _ _ hC0];rfl
    have HC0b:=Lib.hid hC0;have HHC:Hid (∀W:World,W.heap[wc.heap.size]?=some (.cells #[.pointer (some ⟨nb,0,none⟩),.string s] 119 (0,0))→(W.heap[wc.heap.size]?=some (.cells #[.pointer (some ⟨nb,0,none⟩),.string s] 119 (0,0))∧W.cell? ⟨wc.heap.size,0,none⟩=some (.pointer (some ⟨nb,0,none⟩))∧W.cell? ⟨wc.heap.size,1,none⟩=some (.string s))):=Lib.hid (fun W h=>⟨h,by rw[cell_of_row _ _ _ _ _ _ h];rfl,by rw[cell_of_row _ _ _ _ _ _ h];rfl⟩);have HKO:Hid (∀W W':World,W.heap[wc.heap.size]?=some (.cells #[.pointer (some ⟨nb,0,none⟩),.string s] 119 (0,0))→Off vaTs W W'→W'.heap[wc.heap.size]?=some (.cells #[.pointer (some ⟨nb,0,none⟩),.string s] 119 (0,0))):=Lib.hid (fun W W' hS ho=>ho _ (by decide) _ _ _ hS);have hS0:=HHC.out W0 hC0;clear hC0;go_upto_region 3 with fail
    try rw[hW0]
    clear hW0;have hS0d:W0.drew.heap[wc.heap.size]?=some (.cells #[.pointer (some ⟨nb,0,none⟩),.string s] 119 (0,0)):=hS0.1;refine wp_region_held_drew (S:=fun W:World=>W.heap[wc.heap.size]?=some (.cells #[.pointer (some ⟨nb,0,none⟩),.string s] 119 (0,0))) (by kernel_rfl) hS0d (fun hHeld=>?_);refine wpAnyH_take (i:=0) (oi:={ dst:=some 21,op:=.move (.tmp 0),type:=_,pos:=_,after:=_,guard:=none }) (v:=.pointer (some ⟨vb,0,none⟩)) rfl (by kernel_rfl) (by kernel_rfl) (by kernel_rfl) (fun _ _ _ h=>h) (Or.inl ⟨by rfl,by intro w _;first|rfl|go_simp⟩) (by assumption) ?_
    try simp only[Act.put,List.setIfInBounds_toArray,List.set_cons_zero,List.set_cons_succ]
    refine wpAnyH_take (i:=1) (oi:={ dst:=some 22,op:=.makeFunc (.func 47) #[.tmp 5] #[],type:=_,pos:=_,after:=_,guard:=none }) (v:=.func (.func 47) #[.pointer (some ⟨nb,0,none⟩)] #[]) rfl (by kernel_rfl) (by kernel_rfl) (by kernel_rfl) (fun _ _ _ h=>h) (Or.inl ⟨by rfl,by intro w _;first|rfl|go_simp⟩) (by assumption) ?_
    try simp only[Act.put,List.setIfInBounds_toArray,List.set_cons_zero,List.set_cons_succ]
    refine wpAnyH_take (i:=2) (oi:={ dst:=some 23,op:=.load 119 (.tmp 7),type:=_,pos:=_,after:=_,guard:=none }) (v:=.agg #[.pointer (some ⟨nb,0,none⟩),.string s]) rfl (by kernel_rfl) (by kernel_rfl) (by kernel_rfl) (fun _ _ _ h=>h) (Or.inl ⟨by rfl,by intro w hS;obtain⟨_,c0,c1⟩:=HHC.out w hS;go_simp⟩) (by assumption) ?_
    try simp only[Act.put,List.setIfInBounds_toArray,List.set_cons_zero,List.set_cons_succ]
    refine wpAnyH_take (i:=3) (oi:={ dst:=some 24,op:=.makeFunc (.func 110) #[.tmp 23] #[],type:=_,pos:=_,after:=_,guard:=none }) (v:=.func (.func 110) #[.agg #[.pointer (some ⟨nb,0,none⟩),.string s]] #[]) rfl (by kernel_rfl) (by kernel_rfl) (by kernel_rfl) (fun _ _ _ h=>h) (Or.inl ⟨by rfl,by intro w _;first|rfl|go_simp⟩) (by assumption) ?_
    try simp only[Act.put,List.setIfInBounds_toArray,List.set_cons_zero,List.set_cons_succ]
    refine wpAnyH_take (i:=4) (oi:={ dst:=some 25,op:=.move (.tmp 0),type:=_,pos:=_,after:=_,guard:=none }) (v:=.pointer (some ⟨vb,0,none⟩)) rfl (by kernel_rfl) (by kernel_rfl) (by kernel_rfl) (fun _ _ _ h=>h) (Or.inl ⟨by rfl,by intro w _;first|rfl|go_simp⟩) (by assumption) ?_
    try simp only[Act.put,List.setIfInBounds_toArray,List.set_cons_zero,List.set_cons_succ]
    refine wpAnyH_take (i:=5) (oi:={ dst:=some 26,op:=.nilCheck (.tmp 25),type:=_,pos:=_,after:=_,guard:=none }) (v:=.pointer (some ⟨vb,0,none⟩)) rfl (by kernel_rfl) (by kernel_rfl) (by kernel_rfl) (fun _ _ _ h=>h) (Or.inl ⟨by rfl,by intro w _;first|rfl|go_simp⟩) (by assumption) ?_
    try simp only[Act.put,List.setIfInBounds_toArray,List.set_cons_zero,List.set_cons_succ]
    refine wpAnyH_take (i:=6) (oi:={ dst:=some 27,op:=.fieldAddr 84 (.tmp 26) 0,type:=_,pos:=_,after:=_,guard:=none }) (v:=.pointer (some ⟨vb,0,none⟩)) rfl (by kernel_rfl) (by kernel_rfl) (by kernel_rfl) (fun _ _ _ h=>h) (Or.inl ⟨by rfl,by intro w _;go_simp⟩) (by assumption) ?_
    try simp only[Act.put,List.setIfInBounds_toArray,List.set_cons_zero,List.set_cons_succ]
    refine wpAnyH_take (i:=7) (oi:={ dst:=some 28,op:=.makeFunc (.func 158) #[.tmp 27] #[],type:=_,pos:=_,after:=_,guard:=none }) (v:=.func (.func 158) #[.pointer (some ⟨vb,0,none⟩)] #[]) rfl (by kernel_rfl) (by kernel_rfl) (by kernel_rfl) (fun _ _ _ h=>h) (Or.inl ⟨by rfl,by intro w _;first|rfl|go_simp⟩) (by assumption) ?_
    try simp only[Act.put,List.setIfInBounds_toArray,List.set_cons_zero,List.set_cons_succ]
    refine wpAnyH_take (i:=8) (oi:={ dst:=some 29,op:=.makeFunc (.func 111) #[.tmp 5] #[],type:=_,pos:=_,after:=_,guard:=none }) (v:=.func (.func 111) #[.pointer (some ⟨nb,0,none⟩)] #[]) rfl (by kernel_rfl) (by kernel_rfl) (by kernel_rfl) (fun _ _ _ h=>h) (Or.inl ⟨by rfl,by intro w _;first|rfl|go_simp⟩) (by assumption) ?_
    try simp only[Act.put,List.setIfInBounds_toArray,List.set_cons_zero,List.set_cons_succ]
    refine wpAnyH_take (i:=9) (oi:={ dst:=some 30,op:=.move (.tmp 6),type:=_,pos:=_,after:=_,guard:=none }) (v:=.func (.func 53) #[.pointer (some ⟨b,0,none⟩)] #[]) rfl (by kernel_rfl) (by kernel_rfl) (by kernel_rfl) (fun _ _ _ h=>h) (Or.inl ⟨by rfl,by intro w _;first|rfl|go_simp⟩) (by assumption) ?_
    try simp only[Act.put,List.setIfInBounds_toArray,List.set_cons_zero,List.set_cons_succ]
    refine wpAnyH_take (i:=10) (oi:={ dst:=some 31,op:=.makeFunc (.func 52) #[.tmp 5] #[],type:=_,pos:=_,after:=_,guard:=none }) (v:=.func (.func 52) #[.pointer (some ⟨nb,0,none⟩)] #[]) rfl (by kernel_rfl) (by kernel_rfl) (by kernel_rfl) (fun _ _ _ h=>h) (Or.inl ⟨by rfl,by intro w _;first|rfl|go_simp⟩) (by assumption) ?_
    try simp only[Act.put,List.setIfInBounds_toArray,List.set_cons_zero,List.set_cons_succ]
    refine wpAnyH_take (i:=11) (oi:={ dst:=some 32,op:=.load 119 (.tmp 7),type:=_,pos:=_,after:=_,guard:=none }) (v:=.agg #[.pointer (some ⟨nb,0,none⟩),.string s]) rfl (by kernel_rfl) (by kernel_rfl) (by kernel_rfl) (fun _ _ _ h=>h) (Or.inl ⟨by rfl,by intro w hS;obtain⟨_,c0,c1⟩:=HHC.out w hS;go_simp⟩) (by assumption) ?_
    try simp only[Act.put,List.setIfInBounds_toArray,List.set_cons_zero,List.set_cons_succ]
    refine wpAnyH_take (i:=12) (oi:={ dst:=some 33,op:=.makeFunc (.func 54) #[.tmp 32] #[],type:=_,pos:=_,after:=_,guard:=none }) (v:=.func (.func 54) #[.agg #[.pointer (some ⟨nb,0,none⟩),.string s]] #[]) rfl (by kernel_rfl) (by kernel_rfl) (by kernel_rfl) (fun _ _ _ h=>h) (Or.inl ⟨by rfl,by intro w _;first|rfl|go_simp⟩) (by assumption) ?_
    try simp only[Act.put,List.setIfInBounds_toArray,List.set_cons_zero,List.set_cons_succ]
    refine wpAnyH_take (i:=13) (oi:={ dst:=some 34,op:=.move (.tmp 6),type:=_,pos:=_,after:=_,guard:=none }) (v:=.func (.func 53) #[.pointer (some ⟨b,0,none⟩)] #[]) rfl (by kernel_rfl) (by kernel_rfl) (by kernel_rfl) (fun _ _ _ h=>h) (Or.inl ⟨by rfl,by intro w _;first|rfl|go_simp⟩) (by assumption) ?_
    try simp only[Act.put,List.setIfInBounds_toArray,List.set_cons_zero,List.set_cons_succ]
    refine wpAnyH_take (i:=14) (oi:={ dst:=some 35,op:=.makeFunc (.func 112) #[.tmp 5] #[],type:=_,pos:=_,after:=_,guard:=none }) (v:=.func (.func 112) #[.pointer (some ⟨nb,0,none⟩)] #[]) rfl (by kernel_rfl) (by kernel_rfl) (by kernel_rfl) (fun _ _ _ h=>h) (Or.inl ⟨by rfl,by intro w _;first|rfl|go_simp⟩) (by assumption) ?_
    try simp only[Act.put,List.setIfInBounds_toArray,List.set_cons_zero,List.set_cons_succ]
    refine wpAnyH_take (i:=15) (oi:={ dst:=some 36,op:=.move (.tmp 6),type:=_,pos:=_,after:=_,guard:=none }) (v:=.func (.func 53) #[.pointer (some ⟨b,0,none⟩)] #[]) rfl (by kernel_rfl) (by kernel_rfl) (by kernel_rfl) (fun _ _ _ h=>h) (Or.inl ⟨by rfl,by intro w _;first|rfl|go_simp⟩) (by assumption) ?_
    try simp only[Act.put,List.setIfInBounds_toArray,List.set_cons_zero,List.set_cons_succ]
    refine wpAnyH_ready (rs:=[16]) (by kernel_rfl) (by simp) (AllReadyH.cons (o:={ dst:=some 37,op:=.buildSlice 168 10 #[(0,.tmp 22),(1,.tmp 24),(2,.tmp 28),(3,.tmp 29),(4,.tmp 30),(5,.tmp 31),(6,.tmp 33),(7,.tmp 34),(8,.tmp 35),(9,.tmp 36)],type:=_,pos:=_,after:=_,guard:=none }) rfl (fun K hK=>?_) AllReadyH.nil);go_simp;refine hK.out _ _ (HKO.out _ _ hHeld ((Off.refl _ _).alloc _)) (fun hHeld2=>?_);clear hK K hHeld
    try simp only[Act.put,List.setIfInBounds_toArray,List.set_cons_zero,List.set_cons_succ]
    refine wpAnyH_ready (rs:=[17]) (by kernel_rfl) (by simp) (AllReadyH.cons (o:={ dst:=some 38,op:=.call { callee:=.value (.func 50),args:=#[.tmp 21,.tmp 37],argTypes:=#[60,168] },type:=_,pos:=_,after:=_,guard:=none }) rfl (fun K hK=>?_) AllReadyH.nil);go_simp;refine(HDO.out W0.drew nb hnbw HB0.out.drew HN0.out).mono ?_;rintro e w3 ⟨q,rfl,hx,hb3,ho3,hoc⟩;refine hK.out _ _ (HKO.out _ _ hHeld2 hoc) (fun hHeld3=>?_);clear hK K hHeld2
    try simp only[Act.put,List.setIfInBounds_toArray,List.set_cons_zero,List.set_cons_succ]
    refine wpAnyH_take (i:=18) (oi:={ dst:=some 8,op:=.assign (.tmp 38),type:=_,pos:=_,after:=_,guard:=none }) (v:=.int .i64 q) rfl (by kernel_rfl) (by kernel_rfl) (by kernel_rfl) (fun _ _ _ h=>h) (Or.inl ⟨by rfl,by intro _ _;rfl⟩) (by assumption) ?_
    try simp only[Act.put,List.setIfInBounds_toArray,List.set_cons_zero,List.set_cons_succ]
    refine wpAnyH_done (by kernel_rfl) ?_ _;have HX:=Lib.hid hx;have HB3:=Lib.hid hb3;have HO3:=Lib.hid ho3;clear hx hb3 ho3 hoc hHeld3 hS0 hS0d j0 j1;by_cases hq:q=0
    · subst hq;obtain⟨hv,hfit,hn,st',hd,hl',hpe⟩:VaultAt X w3 vb b (bkF h k) h A E img rv true∧fitsI h 1 s=0∧HalfAt w3 nb 82 b (bkF h (!k)) h (1+(s.size+61)/62) (E+1) []∧∃st',Dev B w3 b st'∧LiveS n h (!k) (E+1) (1+(s.size+61)/62) s [] [s] [] lm st'∧st'.pend=[]:=by
        obtain⟨hv,⟨_,h1,h2,h3⟩|⟨h1,_⟩|⟨h1,_⟩⟩:=HX.out
        · exact⟨hv,h1,h2,h3⟩
        · cases h1
        · exact absurd rfl h1
      have HFIT:=Lib.hid hfit;have HV:=Lib.hid hv;have HN:=Lib.hid hn;have HCV:Hid (∀W,Below w3.heap.size w3 W→VaultAt X W vb b (bkF h k) h A E img rv true):=Lib.hid (fun W hW=>HalfAt.below HV.out hW);have HCN:Hid (∀W,Below w3.heap.size w3 W→HalfAt W nb 82 b (bkF h (!k)) h (1+(s.size+61)/62) (E+1) []):=Lib.hid (fun W hW=>HalfAt.below HN.out hW);have HLF:Hid (∀W,Below w3.heap.size w3 W→LeafOK X B b vb w st' W (hvL b (bkF h k) h A E++([.string img,rv,.bool true]++X:List Value)).toArray):=Lib.hid (fun W hW=>⟨HalfAt.below HV.out hW,HB3.out.trans (hW.mono (Nat.le_trans hB (by have:=HB3.out.size;omega))),HO3.out.trans (Off.ofBelow hW _),hd.below hW⟩);have HEND:Hid (∀(W:World) (C:Array Value),LeafOK X B b vb w st' W C→C=(hvL b (bkF h (!k)) h (1+(s.size+61)/62) (E+1)++([.string s,.slice none 0 0,.bool true]++X:List Value)).toArray→RnEnd X B b vb n h k E s lm w W):=Lib.hid (fun W C hl hC=>by
        subst hC;exact⟨hl.2.1,hl.2.2.1,st',.slice none 0 0,⟨hl',hl.2.2.2,hl.1,Or.inl ⟨rfl,rfl⟩,HL.out.hvb⟩,hpe,rfl⟩)
      have HVB:Hid (B≤vb):=Lib.hid HL.out.hvb;obtain⟨m0,m1,m2,m3,m4⟩:=hn.cells;clear hv hn hd hl' hpe hfit HX;generalize (1+(s.size+61)/62)=A2 at *;generalize hE2:E+1=E2 at *;generalize bkF h (!k)=F2 at *;go_wp2_with fail;go_region_law (first|(refine step_callee rfl 55 _ _ rfl (fun xs W=>Tryz.call55 xs W) (.string s) (.string s) rfl (fun W9=>Below w3.drew.heap.size w3.drew W9) (cC w3.drew) ?_;intro w8 hb8;have hB8:Below w3.heap.size w3 w8:=(Below.refl _ _).drew.trans hb8;obtain⟨m0,m1,m2,m3,m4⟩:=(HCN.out _ hB8).cells;obtain⟨k0,k1,k2,k3,k4⟩:=HalfAt.cells (HCV.out _ hB8);obtain⟨k5,k6,k7⟩:=(HCV.out _ hB8).more;have f0:=(HCV.out _ hB8).frozen 0;have f1:=(HCV.out _ hB8).frozen 1;have f2:=(HCV.out _ hB8).frozen 2;have f3:=(HCV.out _ hB8).frozen 3;have f4:=(HCV.out _ hB8).frozen 4;have f5:=(HCV.out _ hB8).frozen 5;have f6:=(HCV.out _ hB8).frozen 6))
      all_goals
        have HL8:=Lib.hid (HLF.out _ hB8);clear hB8 hb8 k0 k1 k2 k3 k4 k5 k6 k7 f0 f1 f2 f3 f4 f5 f6;go_wp2;go_ret;exact⟨0,rfl,Or.inl ⟨rfl,HFIT.out,HEND.out _ _ (((((((HL8.out.set HVB.out _ _).set HVB.out _ _).set HVB.out _ _).set HVB.out _ _).set HVB.out _ _).set HVB.out _ _).set HVB.out _ _) rfl⟩⟩
    · have hqz:(q==0)=false:=by simpa using hq
      have HE:Hid ((q=13∧lm=true∧∃st',DeadR X B b vb n h k E r1 r2 s st' w3)∨(q≠0∧q≠13∧fitsI h 1 s=q∧LiveR X B b vb n h k E A img rs r1 r2 lm st rv w3)):=Lib.hid (by
        obtain⟨hv,⟨h0,_⟩|⟨h13,h1,st',hd,hD⟩|⟨h0,h13,h1,hd⟩⟩:=HX.out
        · exact absurd h0 hq
        · refine Or.inl ⟨h13,h1,st',hD,hd,?_,HL.out.hvb⟩;rw[h13]at hv;exact⟨_,_,_,hv⟩
        · refine Or.inr ⟨h0,h13,h1,HL.out.live,hd,?_,HL.out.row.off HO3.out,HL.out.hvb⟩;rw[decide_eq_true h13]at hv;exact hv)
      clear HX;go_wp2;go_ret;exact⟨q,rfl,Or.inr ⟨HB3.out,HO3.out,HE.out⟩⟩
end Go.Proofs.YtdmkhmeaphaapaaGreat.V.St
