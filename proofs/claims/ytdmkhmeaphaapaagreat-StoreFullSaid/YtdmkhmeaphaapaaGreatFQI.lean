/- Kit. -/
import Derived.Test.YtdmkhmeaphaapaaGreatFQH
import Derived.Test.YtdmkhmeaphaapaaGreatFQ4
import Derived.Deep.WholeRow
import Derived.Deep.MidRow
import Derived.Laws.EntriesVeiled
set_option maxRecDepth 100000
namespace Go.Proofs.YtdmkhmeaphaapaaGreat
open Go.RowKit Go.Sort
set_option linter.unusedVariables false
def zTree:Array Value:=(nilNodes 201++([.int .i64 0,.int .i64 0,.slice none 0 0,.int .i64 0]:List Value)).toArray
theorem zTree_size:zTree.size=406:=by
  unfold zTree;rw[List.size_toArray,List.length_append,nilNodes_len];rfl
theorem zero_tree (W:World):(zeroValue 96).run Tryz.prog W=.ok (.agg zTree) W:=(zero_of_info (P:=Tryz.prog) (t:=96) (v:=.agg zTree) (n:=406) (by kernel_rfl)).1 W
theorem Tryz.infoTreeS:(Tryz.prog.info? 96).map (·.size)=some 406:=(zero_of_info (P:=Tryz.prog) (t:=96) (v:=.agg zTree) (n:=406) (by kernel_rfl)).2
section
variable {w:World}{b:Nat}{K:Nat→Int}{E:Nat→List Ent}{R:Nat→Value}{u:Nat}{v:Value}{ys:List Int}{c:Int}
theorem one_slice {v:Value}(h:∃a n cap,v=.slice a n cap):v.oneCell'=true:=by
  obtain⟨a,n,cap,rfl⟩:=h;rfl
theorem treeO_one {cs:Array Value}(h:TreeO cs K R u v c)(hr:∀n,n≤200→∃a m cap,R n=.slice a m cap)(hv:∃a m cap,v=.slice a m cap):cs.all (·.oneCell')=true:=by
  rw[Array.all_eq_true];intro k hk;have hs:=h.size;have key:∃x,cs[k]?=some x∧x.oneCell'=true:=by
    by_cases h1:k<402
    · rcases Nat.mod_two_eq_zero_or_one k with h2|h2
      · exact⟨_,(by have:=h.kind (k/2) (by omega);rw[show k/2*2=k by omega]at this;exact this),rfl⟩
      · exact⟨_,(by have:=h.row (k/2) (by omega);rw[show k/2*2+1=k by omega]at this;exact this),one_slice (hr _ (by omega))⟩
    · have:k=402∨k=403∨k=404∨k=405:=by omega
      rcases this with rfl|rfl|rfl|rfl
      · exact⟨_,h.most,rfl⟩
      · exact⟨_,h.used,rfl⟩
      · exact⟨_,h.wait,one_slice hv⟩
      · exact⟨_,h.cook,rfl⟩
  obtain⟨x,h1,h2⟩:=key;rw[Array.getElem?_eq_getElem hk]at h1;rw[Option.some.inj h1];exact h2
structure ClI (w0:World)(W:World)(b2 n:Nat)(K:Nat→Int)(E:Nat→List Ent)(R R':Nat→Value)(u:Nat)(v:Value)(ys:List Int)(c:Int):Prop where
  cells:∃cs,W.heap[b2]?=some (.cells cs 96 (0,0))∧TreeO cs K R' u v c
  rows:∀j,j<n→W.ownsRow (b2+1) 112 5 (R' j) (E j).length ((E j).flatMap entC)
  apart:∀i j g,i<n→j<n→(R' i).ownBlock=some g→(R' j).ownBlock=some g→i=j
  rest:∀j,n≤j→j≤200→R' j=R j
  own:OwnN (b2+1) W v ys
  below:Below w0.heap.size w0 W
  at':w0.heap.size≤b2
set_option maxHeartbeats 8000000 in
theorem treeClone_c (h:TM w b K E R u v ys c)(hl:∀n,n≤200→(E n).length≤1000):Calls Tryz.prog 35 #[ptrV b] w fun e w'=>∃b2 R' u' v' ys',e=.returned (ptrV b2)∧w.heap.size≤b2∧TM w' b2 K E R' u' v' ys' c∧outRow u' ys'=outRow u ys∧Below w.heap.size w w':=by
  obtain⟨cs,hc,ho⟩:=h.cells;have hone:=treeO_one ho (fun n hn=>by
    obtain⟨a,cap,e⟩:=(h.ents hn).len;exact⟨a,_,cap,e⟩) (by
    obtain⟨a,cap,e⟩:=h.own.len;exact⟨a,_,cap,e⟩)
  have hld:(Instr.loadAt 96 (.pointer (some ⟨b,0,none⟩))).run Tryz.prog w=.ok (.agg cs) w:=by
    have:=run_loadAt_mid (P:=Tryz.prog) w b 0 96 cs.toList _ (fun j x hx=>by
      rw[Nat.zero_add,cell_of_row _ _ _ _ _ _ hc,←Array.getElem?_toList];exact hx) Tryz.underlying96 rfl (by rw[Array.length_toList,ho.size];exact Tryz.infoTreeS)
    rwa[Array.toArray_toList]at this
  have hst:(Instr.storeAt 96 (.pointer (some ⟨w.heap.size,0,none⟩)) (.agg cs)).run Tryz.prog (w.alloc (.cells zTree 96))=.ok () (w.alloc (.cells cs 96)):=run_storeAt_new (P:=Tryz.prog) w 96 zTree cs (by rw[ho.size];exact Tryz.infoTreeS) (by rw[zTree_size,ho.size]) hone;have hst2:(storeCells ⟨w.heap.size,0,none⟩ cs.toList 0).run Tryz.prog (w.alloc (.cells zTree 96))=.ok () (w.alloc (.cells cs 96)):=run_storeCells_new (P:=Tryz.prog) w 96 zTree cs (by rw[ho.size];exact Tryz.infoTreeS) (by rw[zTree_size,ho.size]) hone;have hsz:cs.size=406:=ho.size;have HZ:=zero_tree;have HO:=Lib.hid ho;have HT:=Lib.hid h;have HL:=Lib.hid hl;have hb0:Below w.heap.size w (w.alloc (.cells cs 96)):=(Below.refl _ w).alloc (Nat.le_refl _) _;have HB0:=Lib.hid hb0;have HN0:Hid ((w.alloc (.cells cs 96)).heap[w.heap.size]?=some (.cells cs 96 (0,0))):=Lib.hid (heap_alloc_new _ _);generalize zTree=Z at *;clear h hl hc ho hone hb0;go_enter Tryz.func35,Tryz.ntmps35;go_upto_region 2 with(first
    | ((with_reducible refine wpL_load 96 _ (.pointer (some ⟨b,0,none⟩)) (.agg cs) ?_ ?_ ?_);exact rfl;exact hld)
    | ((with_reducible refine wpL_store 96 _ _ (.pointer (some ⟨w.heap.size,0,none⟩)) (.agg cs) ?_ ?_ ?_ ?_);exact rfl;exact rfl;exact hst))
  have cC:=Emb.clone_c _ v.ownBlock 200 b v (outRow u ys) _ (HT.out.below HB0.out).poolIs;unfold ClonePost at cC;generalize (w.alloc (.cells cs 96))=W1 at *;clear hst hst2 hld HZ hsz;generalize hb2:w.heap.size=b2 at *;have HB2:=Lib.hid hb2;clear hb2;go_upto_region 3 with(go_at_call 79;refine cC.mono ?_;rintro e w2 ⟨pb,v2,rfl,hpb,hP⟩;obtain⟨u2,ys2,hbx,hg2,hl2⟩:=hP;have HBX:=Lib.hid hbx;have HG2:=Lib.hid hg2;have HL2:=Lib.hid hl2;obtain⟨k0,k1,k2⟩:w2.cell? ⟨pb,0,none⟩=some (.int .i64 ((200:Nat):Int))∧w2.cell? ⟨pb,1,none⟩=some (.int .i64 (u2:Int))∧w2.cell? ⟨pb,2,none⟩=some v2:=⟨Lib.cell_of_heap hbx.at' 0,Lib.cell_of_heap hbx.at' 1,Lib.cell_of_heap hbx.at' 2⟩;have hw12:Below W1.heap.size W1 w2:=hbx.keep.below hpb (Nat.le_refl _) (fun k hk=>by cases hk);have hc2:w2.heap[b2]?=some (.cells cs 96 (0,0)):=(hw12.block b2 (lt_of_get HN0.out)).trans HN0.out;have HC2:=Lib.hid hc2;have HW12:=Lib.hid hw12;obtain⟨m0,m1,m2⟩:w2.cell? ⟨b2,402,none⟩=some (.int .i64 ((200:Nat):Int))∧w2.cell? ⟨b2,403,none⟩=some (.int .i64 (u:Int))∧w2.cell? ⟨b2,404,none⟩=some v:=⟨(cell_of_row _ _ _ _ _ _ hc2).trans HO.out.most,(cell_of_row _ _ _ _ _ _ hc2).trans HO.out.used,(cell_of_row _ _ _ _ _ _ hc2).trans HO.out.wait⟩;obtain⟨f0,f1,f2⟩:w2.frozen? ⟨b2,402,none⟩=false∧w2.frozen? ⟨b2,403,none⟩=false∧w2.frozen? ⟨b2,404,none⟩=false:=⟨Lib.frozen_of_heap hc2 _,Lib.frozen_of_heap hc2 _,Lib.frozen_of_heap hc2 _⟩;obtain⟨a2,c2,hv2⟩:=hbx.own.len;subst hv2;clear hbx hg2 hl2 hw12 hc2);have HI0:Hid (ClI w (((w2.setCell ⟨b2,402,none⟩ (.int .i64 ((200:Nat):Int))).setCell ⟨b2,403,none⟩ (.int .i64 (u2:Int))).setCell ⟨b2,404,none⟩ (.slice a2 ys2.length c2)) b2 0 K E R R u2 (.slice a2 ys2.length c2) ys2 c):=Lib.hid (by
    have hlt:=lt_of_get HN0.out;have hbb:Below b2 w w2:=HB0.out.trans (HW12.out.mono (Nat.le_of_lt hlt));refine⟨⟨_,heap_setCell_same _ b2 404 _ _ _ (heap_setCell_same _ b2 403 _ _ _ (heap_setCell_same _ b2 402 _ _ _ HC2.out)),HO.out.pool u2 _⟩,fun j hj=>absurd hj (Nat.not_lt_zero _),fun i j g hi=>absurd hi (Nat.not_lt_zero _),fun j _ _=>rfl,?_,?_,by rw[HB2.out];exact Nat.le_refl _⟩
    · have ho2:=HBX.out.own;refine ownsRow_same (w:=w2) (B:=b2+1) ⟨ho2.1,?_⟩ (fun g hg=>?_)
      · rcases ho2.2 with h1|⟨g,cap,cur,hv,hg,h1⟩
        · exact Or.inl h1
        · exact Or.inr ⟨g,cap,cur,hv,by omega,h1⟩
      · have:=(World.ownsRow.lt ho2 g hg).1;rw[Below.heap_setCell _ _ _ _ (by show g≠b2;omega),Below.heap_setCell _ _ _ _ (by show g≠b2;omega),Below.heap_setCell _ _ _ _ (by show g≠b2;omega)]
    · rw[HB2.out];exact((hbb.setCell (p:=⟨b2,402,none⟩) (Nat.le_refl _) _).setCell (p:=⟨b2,403,none⟩) (Nat.le_refl _) _).setCell (p:=⟨b2,404,none⟩) (Nat.le_refl _) _)
  clear k0 k1 k2 m0 m1 m2 f0 f1 f2 cC;go_upto_region 3 with fail;clear HB0 HN0 HBX HC2 HW12;go_wp2;go_loopw [15] (fun iv wr=>∃(n:Nat) (R':Nat→Value),n≤201∧iv=.int .i64 n∧ClI w wr b2 n K E R R' u2 (.slice a2 ys2.length c2) ys2 c) (fun iv _=>201-(intOf iv).toNat)
  case atStart=>exact⟨0,R,by omega,rfl,HI0.out⟩
  case round =>
    obtain⟨n,R',hn,rfl,hcl⟩:=hrel;have HCL:=Lib.hid hcl;by_cases hn2:n≤200
    · have hnz:(n:Int)<201:=by omega
      have hn0:(0:Int)≤(n:Int):=by omega
      have htm:=HT.out.below hcl.below;have he:=htm.ents hn2;have cE:=eclone_c (R n) (E n) wr he (HL.out n hn2);unfold ECPost at cE;obtain⟨cs9,hc9,ho9⟩:=hcl.cells;have HC9:=Lib.hid hc9;have HO9:=Lib.hid ho9;have c1:wr.cell? ⟨b2,n*2+1,none⟩=some (R n):=by
        rw[cell_of_row _ _ _ _ _ _ hc9,ho9.row n hn2,hcl.rest n (Nat.le_refl _) hn2]
      obtain⟨a9,cap9,hr9⟩:=he.len;rw[hr9]at c1 cE;clear hcl htm he hc9 ho9 hr9;go_wp2_with (go_at_call 80;refine cE.mono ?_;rintro e w3 ⟨v3,rfl,ho3,hb3⟩;obtain⟨a3,c3,hv3⟩:=ownsRow_slice ho3;subst hv3;have HO3:=Lib.hid ho3;have HB3:=Lib.hid hb3;have hc3:=(hb3.block b2 (lt_of_get HC9.out)).trans HC9.out;have HC3:=Lib.hid hc3;have m1:w3.cell? ⟨b2,n*2+1,none⟩=some (R' n):=(cell_of_row _ _ _ _ _ _ hc3).trans (HO9.out.row n hn2);have f1:w3.frozen? ⟨b2,n*2+1,none⟩=false:=Lib.frozen_of_heap hc3 _;clear ho3 hb3 hc3);go_roundw
      case rel =>
        refine⟨n+1,upd R' n (.slice a3 (E n).length c3),by omega,by first|rfl|go_num,?_⟩;have hcl:=HCL.out;have hsz:=HB3.out.size;have hb2l:=lt_of_get HC9.out;have hf:∀g,g≠b2→(w3.setCell ⟨b2,n*2+1,none⟩ (.slice a3 (E n).length c3)).heap[g]?=w3.heap[g]?:=fun g hg=>Below.heap_setCell _ _ _ _ hg
        refine⟨⟨_,heap_setCell_same w3 b2 (n*2+1) _ _ _ HC3.out,HO9.out.setRow hn2 _⟩,fun j hj=>?_,fun i j g hi hj h1 h2=>?_,fun j hj1 hj2=>?_,?_,?_,hcl.at'⟩
        · by_cases e:j=n
          · subst e;rw[upd_same];refine ownsRow_same (w:=w3) ⟨HO3.out.1,?_⟩ (fun g hg=>hf g (by have:=(HO3.out.lt g hg).1;omega));rcases HO3.out.2 with h1|⟨g,cap,cur,hv,hg,h1⟩
            · exact Or.inl h1
            · exact Or.inr ⟨g,cap,cur,hv,by omega,h1⟩
          · rw[upd_ne _ _ e];have hr:=hcl.rows j (by omega);exact ownsRow_same hr (fun g hg=>by
              have:=hr.lt g hg;rw[hf g (by omega)];exact HB3.out.block g this.2)
        · by_cases e1:i=n
          · by_cases e2:j=n
            · rw[e1,e2]
            · rw[e1,upd_same]at h1;rw[upd_ne _ _ e2]at h2;have:=(HO3.out.lt g h1).1;have:=((hcl.rows j (by omega)).lt g h2).2;omega
          · rw[upd_ne _ _ e1]at h1;by_cases e2:j=n
            · rw[e2,upd_same]at h2;have:=(HO3.out.lt g h2).1;have:=((hcl.rows i (by omega)).lt g h1).2;omega
            · rw[upd_ne _ _ e2]at h2;exact hcl.apart i j g (by omega) (by omega) h1 h2
        · rw[upd_ne _ _ (by omega)];exact hcl.rest j (by omega) hj2
        · exact ownsRow_same hcl.own (fun g hg=>by
            have:=World.ownsRow.lt hcl.own g hg;rw[hf g (by omega)];exact HB3.out.block g this.2)
        · exact(hcl.below.trans (HB3.out.mono hcl.below.size)).setCell (p:=⟨b2,n*2+1,none⟩) hcl.at' _
      case measure=>simp[intOf];omega
    · have hnz:¬(n:Int)<201:=by omega
      obtain rfl:n=201:=by omega
      have HX:Hid (TM wr b2 K E R' u2 (.slice a2 ys2.length c2) ys2 c):=Lib.hid ⟨hcl.cells,fun j hj=>hcl.rows j (by omega),fun i j g hi hj=>hcl.apart i j g (by omega) (by omega),hcl.own,HG2.out⟩;have HBX:=Lib.hid hcl.below;have hat:=hcl.at';clear hcl;go_wp2;go_ret;refine⟨b2,rfl,hat,?_⟩;have hfin:=And.intro HX.out (And.intro HL2.out.symm HBX.out)
      first
        | exact⟨R',u2,_,ys2,hfin⟩
        | exact⟨R',u2,_,⟨ys2,HX.out,HL2.out.symm⟩,HBX.out⟩
        | exact⟨⟨R',u2,_,ys2,HX.out,HL2.out.symm⟩,HBX.out⟩
set_option maxHeartbeats 4000000 in
theorem eequal_c (v1 v2:Value)(l:List Ent)(w:World)(h1:EntsIs w v1 l)(h2:EntsIs w v2 l)(hl:l.length≤100000) :
    Calls Tryz.prog 44 #[v1,v2] w fun e w'=>e=.returned (.bool true)∧∃q,w'=w.drewN q:=by
  obtain⟨a1,cap1,rfl⟩:=h1.len;obtain⟨a2,cap2,rfl⟩:=h2.len;have H1:=Lib.hid h1;have H2:=Lib.hid h2;obtain⟨n1,hn1⟩:∃n,l.length=n:=⟨_,rfl⟩;have HN1:=Lib.hid hn1;rw[hn1]at hl ⊢;clear h1 h2 hn1;go_enter Tryz.func44,Tryz.ntmps44;go_wp2;go_loopw [13] (fun iv wr=>∃i:Nat,i≤n1∧iv=.int .i64 i∧∃q,wr=w.drewN q) (fun iv _=>n1-(intOf iv).toNat)
  case atStart=>exact⟨0,by omega,rfl,0,rfl⟩
  case round =>
    obtain⟨i,hi,rfl,q,hq⟩:=hrel;have HQ:=Lib.hid hq;clear hq;by_cases hin:i<n1
    · have hiz:(i:Int)<(n1:Int):=by omega
      obtain⟨x,hx⟩:∃x,l[i]?=some x:=⟨_,List.getElem?_eq_getElem (by rw[HN1.out];omega)⟩;have hb:Below w.heap.size w wr:=by rw[HQ.out];exact below_drewN1 (Below.refl _ _) q
      obtain⟨g1,o1,rfl,hg1,r1⟩:=(LstIs.kept H1.out hb).at hx;obtain⟨g2,o2,rfl,hg2,r2⟩:=(LstIs.kept H2.out hb).at hx;obtain⟨d0,d1,d2,d3,d4⟩:=ent_at r1;obtain⟨e0,e1,e2,e3,e4⟩:=ent_at r2;have hcmp:=ent_neq x x;rw[decide_eq_true rfl]at hcmp;have hgd:=fun op a b=>ent_guard op a b x x
      clear hx r1 r2 hg1 hg2 hb;obtain⟨xn,xa,xb,xc,xd⟩:=x;simp only at d0 d1 d2 d3 d4 e0 e1 e2 e3 e4;unfold entV at hcmp hgd;go_wp2;go_quiet (fail);go_wp2;go_roundw
      case rel=>exact⟨i+1,by omega,by first|rfl|go_num,_,by rw[HQ.out,World.drewN_drewN]⟩
      case measure=>simp[intOf];omega
    · have hge:¬((i:Int)<(n1:Int)):=by omega
      go_wp2;go_ret;exact⟨rfl,q,HQ.out⟩
set_option maxHeartbeats 4000000 in
theorem treeSame_c {b':Nat}{K':Nat→Int}{E':Nat→List Ent}{R':Nat→Value}{u':Nat}{v':Value}{ys':List Int}(h:TM w b K E R u v ys c)(h':TM w b' K' E' R' u' v' ys' c)(hE:∀n,n≤200→E' n=E n)(hl:∀n,n≤200→(E n).length≤1000) :
    Calls Tryz.prog 21 #[ptrV b,ptrV b'] w fun e w'=>e=.returned (.bool true)∧∃q,w'=w.drewN q:=by
  have HT:=Lib.hid h;have HT':=Lib.hid h';have HE:=Lib.hid hE;have HL:=Lib.hid hl;clear h h' hE hl;go_enter Tryz.func21,Tryz.ntmps21;go_wp2;go_loopw [6] (fun iv wr=>∃i:Nat,i≤201∧iv=.int .i64 i∧∃q,wr=w.drewN q) (fun iv _=>201-(intOf iv).toNat)
  case atStart=>exact⟨0,by omega,rfl,0,rfl⟩
  case round =>
    obtain⟨i,hi,rfl,q,hq⟩:=hrel;have HQ:=Lib.hid hq;have hb:Below w.heap.size w wr:=by rw[hq];exact below_drewN1 (Below.refl _ _) q
    have ht:=HT.out.below hb;have ht':=HT'.out.below hb;clear hq hb;by_cases hin:i≤200
    · have hiz:(i:Int)<201:=by omega
      have hi0:(0:Int)≤(i:Int):=by omega
      have c1:=(ht.rcell hin).1;have c2:=(ht'.rcell hin).1;have he2:=ht'.ents hin;rw[HE.out i hin]at he2;have cS:∀p,Calls Tryz.prog 44 #[R i,R' i] (wr.drewN p) fun e w'=>e=.returned (.bool true)∧∃q,w'=(wr.drewN p).drewN q:=fun p=>eequal_c (R i) (R' i) (E i) (wr.drewN p) (LstIs.kept (ht.ents hin) (below_drewN1 (Below.refl _ _) p)) (LstIs.kept he2 (below_drewN1 (Below.refl _ _) p)) (by have:=HL.out i hin;omega)
      obtain⟨a1,cap1,e1⟩:=(ht.ents hin).len;obtain⟨a2,cap2,e2⟩:=he2.len;rw[e1]at c1 cS;rw[e2]at c2 cS;clear ht ht' he2 e1 e2;go_wp2;go_quiet ((go_at_call 44;exact Calls.quiet_of (cS _)));go_wp2;go_roundw
      case rel=>exact⟨i+1,by omega,by first|rfl|go_num,_,by rw[HQ.out,World.drewN_drewN]⟩
      case measure=>simp[intOf];omega
    · have hiz:¬(i:Int)<201:=by omega
      have c1:=ht.ccell.1;have c2:=ht'.ccell.1;have hcc:(c==c)=true:=by simp
      clear ht ht';go_wp2;go_quiet (fail);go_wp2;go_ret;exact⟨rfl,_,by rw[HQ.out,World.drewN_drewN]⟩
end
theorem theClone {w:World}{b:Nat}{l:List Itm}{nx:Int}{S:Nat→Prop}(h:theTree.Is w b l nx S):Calls Tryz.prog 35 #[ptrV b] w fun e w'=>∃b2 S2,e=.returned (ptrV b2)∧theTree.Is w' b2 l nx S2∧(∀k,S2 k→w.heap.size≤k)∧Below w.heap.size w w':=by
  obtain⟨R,u,v,ys,hm,ho,hg,_⟩:=h;refine(treeClone_c hm (fun n hn=>Nat.le_trans (hg.elen n) (by omega))).mono ?_;rintro e w' ⟨b2,R',u',v',ys',rfl,hle,hm',ho',hb⟩;exact⟨b2,Foot b2 R' v',rfl,⟨R',u',v',ys',hm',ho'.trans ho,hg,rfl⟩,fun k hk=>Nat.le_trans hle (hm'.lt k hk).1,hb⟩
theorem theSame {w:World}{b b':Nat}{l:List Itm}{nx:Int}{S S':Nat→Prop}(h:theTree.Is w b l nx S)(h':theTree.Is w b' l nx S'):Calls Tryz.prog 21 #[ptrV b,ptrV b'] w fun e w'=>e=.returned (.bool true)∧Below w.heap.size w w':=by
  obtain⟨R,u,v,ys,hm,ho,hg,_⟩:=h;obtain⟨R',u',v',ys',hm',ho',hg',_⟩:=h';refine(treeSame_c hm hm' (fun _ _=>rfl) (fun n hn=>Nat.le_trans (hg.elen n) (by omega))).mono ?_;rintro e w' ⟨rfl,q,rfl⟩;exact⟨rfl,below_drewN1 (Below.refl _ _) q⟩
end Go.Proofs.YtdmkhmeaphaapaaGreat
namespace Go.Proofs.YtdmkhmeaphaapaaGreat
open Go.RowKit Go.Sort
set_option linter.unusedVariables false
def lastI (l:List Ent):Int:=match l.getLast? with
  | some x=>x.cookie
  | none=>0
section
variable {w:World}{b:Nat}{K:Nat→Int}{E:Nat→List Ent}{R:Nat→Value}{u:Nat}{v:Value}{ys:List Int}{c:Int}
set_option maxHeartbeats 2000000 in
theorem lastCookie_c (h:TM w b K E R u v ys c){d:Nat}(hd:d≤200)(hl:(E d).length≤1000):Calls Tryz.prog 192 #[ptrV b,.int .i64 (d:Int)] w fun e w'=>e=.returned (.int .i64 (lastI (E d)))∧w'=w:=by
  have c1:=(h.rcell hd).1;have he:=h.ents hd;obtain⟨a,cap,hr⟩:=he.len;obtain⟨X,hX⟩:∃X,lastI (E d)=X:=⟨_,rfl⟩;rw[hX];rw[hr]at c1 he;have hd0:(0:Int)≤(d:Int):=by omega
  have hd1:(d:Int)<201:=by omega
  cases hm:(E d).length with
  | zero =>
    have HX:Hid (X=0):=Lib.hid (by rw[←hX,List.eq_nil_of_length_eq_zero hm];rfl);rw[hm]at c1;clear h he hr hX hl hm;go_enter Tryz.func192,Tryz.ntmps192;go_wp2;go_ret;exact⟨by rw[HX.out];rfl,rfl⟩
  | succ m =>
    obtain⟨x,hx⟩:∃x,(E d)[m]?=some x:=⟨_,List.getElem?_eq_getElem (by omega)⟩;have HX:Hid (X=x.cookie):=Lib.hid (by
      rw[←hX];unfold lastI;rw[List.getLast?_eq_getElem?,hm,Nat.add_sub_cancel,hx])
    obtain⟨g,off,rfl,hg,hrg⟩:=he.at hx;obtain⟨d0,d1,d2,d3,d4⟩:=ent_at hrg;rw[hm]at c1;have hz:((m:Int)+1==0)=false:=by rw[beq_eq_false_iff_ne];omega
    have hz1:(m:Int)+1-1=(m:Int):=by omega
    have hz2:(m:Int)<(m:Int)+1:=by omega
    have hz3:¬(m:Int)+1=0:=by omega
    have hw:IntKind.i64.wrap ((m:Int)+1-1)=(m:Int):=by rw[IntKind.wrap_i64];omega
    have hw2:IntKind.i64.wrap (m:Int)=(m:Int):=by rw[IntKind.wrap_i64];omega
    clear h he hr hX hl hm hx hg hrg;go_enter Tryz.func192,Tryz.ntmps192;go_wp2;go_ret;exact⟨by rw[HX.out];rfl,rfl⟩
theorem sameCook_c (e:Ent)(ck:Int)(q:Nat)(w:World)(hq:w.heap[q]?=some (.cells #[.int .i64 ck] 2 (0,0)))(t:Bool)(ht:decide (e.cookie=ck)=t) :
    Calls Tryz.prog 204 #[entV e,.pointer (some ⟨q,0,none⟩)] w fun r w'=>r=.returned (.bool t)∧Below w.heap.size w w':=by
  obtain⟨nm,nd,dr,c0,sh⟩:=e;have p0:(w.alloc (.cells #[.string nm,.int .i64 nd,.bool dr,.int .i64 c0,.int .i64 sh] 112)).cell? ⟨q,0,none⟩=some (.int .i64 ck):=by
    rw[World.cell?_of_block (w:=w) (Below.heap_alloc w _ q (lt_of_get hq)),Lib.cell_of_heap hq];rfl
  have HB:Hid (Below w.heap.size w (w.alloc (.cells #[.string nm,.int .i64 nd,.bool dr,.int .i64 c0,.int .i64 sh] 112))):=Lib.hid ((Below.refl _ _).alloc (Nat.le_refl _) _);have he:(c0==ck)=t:=by rw[←ht];rfl
  clear hq ht;unfold entV;go_enter Tryz.func204,Tryz.ntmps204;go_wp2;go_ret
  first|exact⟨by rw[←he];rfl,HB.out⟩|exact⟨rfl,HB.out⟩
def posC (ck:Int):List Ent→Nat→Int
  | [],_=>-1
  | x::l,k=>if x.cookie=ck then(k:Int) else posC ck l (k+1)
theorem posC_any (ck:Int):∀(l:List Ent) (k:Nat),-1≤posC ck l k∧(0≤posC ck l k↔l.any (fun x=>decide (x.cookie=ck))=true)
  | [],k=>by unfold posC;simp
  | x::l,k=>by
    unfold posC;rw[List.any_cons];by_cases h:x.cookie=ck
    · rw[if_pos h];simp[h]<;>omega
    · rw[if_neg h];have:=posC_any ck l (k+1);simp only[decide_eq_false h,Bool.false_or];exact this
set_option maxHeartbeats 2000000 in
theorem idxCook_c (v:Value)(l:List Ent)(q:Nat)(s:Int)(w:World)(hv:EntsIs w v l)(hl:l.length≤1000)(hq:w.heap[q]?=some (.cells #[.int .i64 s] 2 (0,0))) :
    Calls Tryz.prog 188 #[v,.func (.func 204) #[] #[.pointer (some ⟨q,0,none⟩)]] w fun e w'=>e=.returned (.int .i64 (posC s l 0))∧Below w.heap.size w w':=by
  obtain⟨a,cap,rfl⟩:=hv.len;obtain⟨n,hn⟩:∃n,l.length=n:=⟨_,rfl⟩;rw[hn]at hl hv ⊢;have HV:=Lib.hid hv;have HN:=Lib.hid hn;have HQ:=Lib.hid hq;have cC:=fun W e t (h:W.heap[q]?=some (.cells #[.int .i64 s] 2 (0,0))) (ht:decide (e.cookie=s)=t)=>sameCook_c e s q W h t ht
  unfold entV at cC;obtain⟨X,hX⟩:∃X,posC s l 0=X:=⟨_,rfl⟩;have HX:=Lib.hid hX;rw[hX];clear hv hn hq hX;go_enter Tryz.func188,Tryz.ntmps188;go_wp2;go_loopw [8] (fun iv wr=>∃i:Nat,i≤n∧iv=.int .i64 i∧posC s (l.drop i) i=X∧Below w.heap.size w wr) (fun iv _=>n-(intOf iv).toNat)
  case atStart=>exact⟨0,by omega,rfl,HX.out,Below.refl _ _⟩
  case round =>
    obtain⟨i,hi,rfl,hgo,hb⟩:=hrel;have HGO:=Lib.hid hgo;have HB:=Lib.hid hb;clear hgo;by_cases hin:i<n
    · have hiz:(i:Int)<(n:Int):=by omega
      obtain⟨x,hx⟩:∃x,l[i]?=some x:=⟨_,List.getElem?_eq_getElem (by rw[HN.out];omega)⟩;obtain⟨g,off,rfl,hg,hr⟩:=HV.out.at hx;obtain⟨d0,d1,d2,d3,d4⟩:=ent_at (rangeAt_below hr hg hb);have HG:Hid (posC s (l.drop i) i=if x.cookie=s then(i:Int) else posC s (l.drop (i+1)) (i+1)):=Lib.hid (by rw[drop_eq_cons hx];rfl);obtain⟨t,ht⟩:∃t,decide (x.cookie=s)=t:=⟨_,rfl⟩;have HT:=Lib.hid ht;have cC1:=cC wr x t ((hb.block q (lt_of_get HQ.out)).trans HQ.out) ht;clear hr hx hg cC hb ht;cases t with
      | true =>
        have HE:Hid ((i:Int)=X):=Lib.hid (by rw[←HGO.out,HG.out,if_pos (of_decide_eq_true HT.out)]);go_wp2_with (go_at_call 204;refine cC1.mono ?_;rintro e w2 ⟨rfl,hb2⟩);go_ret;exact⟨by rw[HE.out];rfl,HB.out.trans (hb2.mono HB.out.size)⟩
      | false =>
        have HE:Hid (posC s (l.drop (i+1)) (i+1)=X):=Lib.hid (by rw[←HGO.out,HG.out,if_neg (of_decide_eq_false HT.out)]);go_wp2_with (go_at_call 204;refine cC1.mono ?_;rintro e w2 ⟨rfl,hb2⟩);go_roundw
        case rel=>exact⟨i+1,by omega,by first|rfl|go_num,HE.out,HB.out.trans (hb2.mono HB.out.size)⟩
        case measure=>simp[intOf];omega
    · have hiz:¬(i:Int)<(n:Int):=by omega
      have HE:Hid (X=-1):=Lib.hid (by rw[←HGO.out,List.drop_of_length_le (by rw[HN.out];omega)];rfl);clear hb cC;go_wp2;go_ret;exact⟨by rw[HE.out];rfl,HB.out⟩
theorem conCook_c (v:Value)(l:List Ent)(q:Nat)(s:Int)(w:World)(hv:EntsIs w v l)(hl:l.length≤1000)(hq:w.heap[q]?=some (.cells #[.int .i64 s] 2 (0,0)))(t:Bool)(ht:l.any (fun x=>decide (x.cookie=s))=t) :
    Calls Tryz.prog 203 #[v,.func (.func 204) #[] #[.pointer (some ⟨q,0,none⟩)]] w fun e w'=>e=.returned (.bool t)∧Below w.heap.size w w':=by
  have cI:=idxCook_c v l q s w hv hl hq;have hp:=posC_any s l 0;rw[ht]at hp;generalize posC s l 0=p at *;obtain⟨a,cap,rfl⟩:=hv.len;have HT:Hid (decide (0≤p)=t):=Lib.hid (by
    cases t with
    | true=>exact decide_eq_true (hp.2.2 rfl)
    | false=>exact decide_eq_false (fun h=>by simpa using hp.2.1 h))
  clear hv hq ht hp;go_enter Tryz.func203,Tryz.ntmps203;go_wp2_with (go_at_call 188;refine cI.mono ?_;rintro e w1 ⟨rfl,hb1⟩);go_ret;exact⟨by rw[←HT.out];rfl,hb1⟩
theorem nodeHas_c (k:Int)(v:Value)(l:List Ent)(q:Nat)(s:Int)(w:World)(hv:EntsIs w v l)(hl:l.length≤1000)(hq:w.heap[q]?=some (.cells #[.int .i64 s] 2 (0,0)))(t:Bool)(ht:l.any (fun x=>decide (x.cookie=s))=t) :
    Calls Tryz.prog 202 #[.agg #[.int .i64 k,v],.pointer (some ⟨q,0,none⟩)] w fun e w'=>e=.returned (.bool t)∧Below w.heap.size w w':=by
  obtain⟨a,cap,rfl⟩:=hv.len;have hb0:Below w.heap.size w (w.alloc (.cells #[.int .i64 k,.slice a l.length cap] 88)):=(Below.refl _ _).alloc (Nat.le_refl _) _;have HB:=Lib.hid hb0;have cC:=conCook_c (.slice a l.length cap) l q s _ (LstIs.kept hv hb0) hl ((hb0.block q (lt_of_get hq)).trans hq) t ht;clear hv hq ht hb0;go_enter Tryz.func202,Tryz.ntmps202;go_wp2_with (go_at_call 203;refine cC.mono ?_;rintro e w1 ⟨rfl,hb1⟩);go_ret;exact⟨rfl,HB.out.trans (hb1.mono HB.out.size)⟩
def posN (E:Nat→List Ent)(ck:Int):Nat→Nat→Int
  | 0,_=>-1
  | f+1,k=>if(E k).any (fun x=>decide (x.cookie=ck))=true then(k:Int) else posN E ck f (k+1)
theorem posN_any (E:Nat→List Ent)(ck:Int):∀(f k:Nat),(0≤posN E ck f k↔∃n,k≤n∧n<k+f∧(E n).any (fun x=>decide (x.cookie=ck))=true)
  | 0,k=>by
    unfold posN;constructor
    · intro h;omega
    · rintro⟨n,h1,h2,_⟩;omega
  | f+1,k=>by
    unfold posN;by_cases h:(E k).any (fun x=>decide (x.cookie=ck))=true
    · rw[if_pos h];exact⟨fun _=>⟨k,Nat.le_refl _,by omega,h⟩,fun _=>by omega⟩
    · rw[if_neg h,posN_any E ck f (k+1)];constructor
      · rintro⟨n,h1,h2,h3⟩;exact⟨n,by omega,by omega,h3⟩
      · rintro⟨n,h1,h2,h3⟩;have:n≠k:=fun e=>h (e▸h3)
        exact⟨n,by omega,by omega,h3⟩
set_option maxHeartbeats 2000000 in
theorem idxNode_c (h:TM w b K E R u v ys c)(hE:∀n,n≤200→(E n).length≤1000)(q:Nat)(s:Int)(hq:w.heap[q]?=some (.cells #[.int .i64 s] 2 (0,0))) :
    Calls Tryz.prog 210 #[.slice (some ⟨b,0,none⟩) 201 201,.func (.func 202) #[] #[.pointer (some ⟨q,0,none⟩)]] w fun e w'=>e=.returned (.int .i64 (posN E s 201 0))∧Below w.heap.size w w':=by
  have HV:=Lib.hid h;have HQ:=Lib.hid hq;have HL:=Lib.hid hE;have cC:=fun(W:World) k x l t (h1:EntsIs W x l) h2 h3 ht=>nodeHas_c k x l q s W h1 h2 h3 t ht
  obtain⟨X,hX⟩:∃X,posN E s 201 0=X:=⟨_,rfl⟩;have HX:=Lib.hid hX;rw[hX];clear h hq hX hE;go_enter Tryz.func210,Tryz.ntmps210;go_wp2;go_loopw [8] (fun iv wr=>∃i:Nat,i≤201∧iv=.int .i64 i∧posN E s (201-i) i=X∧Below w.heap.size w wr) (fun iv _=>201-(intOf iv).toNat)
  case atStart=>exact⟨0,by omega,rfl,HX.out,Below.refl _ _⟩
  case round =>
    obtain⟨i,hi,rfl,hgo,hb⟩:=hrel;have HGO:=Lib.hid hgo;have HB:=Lib.hid hb;clear hgo;by_cases hin:i<201
    · have hiz:(i:Int)<201:=by omega
      have d0:=((HV.out.below hb).kcell (n:=i) (by omega)).1;have d1:=((HV.out.below hb).rcell (n:=i) (by omega)).1;have HG:Hid (posN E s (201-i) i=if(E i).any (fun x=>decide (x.cookie=s))=true then(i:Int) else posN E s (201-(i+1)) (i+1)):=Lib.hid (by rw[show 201-i=(201-(i+1))+1 by omega];rfl);obtain⟨t,ht⟩:∃t,(E i).any (fun x=>decide (x.cookie=s))=t:=⟨_,rfl⟩;have HT:=Lib.hid ht;have cC1:=cC wr (K i) (R i) (E i) t ((HV.out.below hb).ents (by omega)) (HL.out i (by omega)) ((hb.block q (lt_of_get HQ.out)).trans HQ.out) ht;clear cC hb ht;cases t with
      | true =>
        have HE:Hid ((i:Int)=X):=Lib.hid (by rw[←HGO.out,HG.out,if_pos HT.out]);go_wp2_with (go_at_call 202;refine cC1.mono ?_;rintro e w2 ⟨rfl,hb2⟩);go_ret;exact⟨by rw[HE.out];rfl,HB.out.trans (hb2.mono HB.out.size)⟩
      | false =>
        have HE:Hid (posN E s (201-(i+1)) (i+1)=X):=Lib.hid (by rw[←HGO.out,HG.out,if_neg (by rw[HT.out];decide)]);go_wp2_with (go_at_call 202;refine cC1.mono ?_;rintro e w2 ⟨rfl,hb2⟩);go_roundw
        case rel=>exact⟨i+1,by omega,by first|rfl|go_num,HE.out,HB.out.trans (hb2.mono HB.out.size)⟩
        case measure=>simp[intOf];omega
    · have hiz:¬(i:Int)<201:=by omega
      have HE:Hid (X=-1):=Lib.hid (by rw[←HGO.out,show 201-i=0 by omega];rfl);clear hb cC;go_wp2;go_ret;exact⟨by rw[HE.out];rfl,HB.out⟩
def hasCk (E:Nat→List Ent)(s:Int):Prop:=∃n,n≤200∧(E n).any (fun x=>decide (x.cookie=s))=true
theorem conNode_c (h:TM w b K E R u v ys c)(hE:∀n,n≤200→(E n).length≤1000)(q:Nat)(s:Int)(hq:w.heap[q]?=some (.cells #[.int .i64 s] 2 (0,0)))(t:Bool)(ht:t=true↔hasCk E s) :
    Calls Tryz.prog 201 #[.slice (some ⟨b,0,none⟩) 201 201,.func (.func 202) #[] #[.pointer (some ⟨q,0,none⟩)]] w fun e w'=>e=.returned (.bool t)∧Below w.heap.size w w':=by
  have cI:=idxNode_c h hE q s hq;have hp:=posN_any E s 201 0;generalize posN E s 201 0=p at *;have HT:Hid (decide (0≤p)=t):=Lib.hid (by
    cases t with
    | true =>
      obtain⟨n,h1,h2⟩:=ht.1 rfl;exact decide_eq_true (hp.2 ⟨n,by omega,by omega,h2⟩)
    | false=>exact decide_eq_false (fun h=>by
        obtain⟨n,h1,h2,h3⟩:=hp.1 h;exact absurd (ht.2 ⟨n,by omega,h3⟩) (by decide)))
  clear h hE hq ht hp;go_enter Tryz.func201,Tryz.ntmps201;go_wp2_with (go_at_call 210;refine cI.mono ?_;rintro e w1 ⟨rfl,hb1⟩);go_ret;exact⟨by rw[←HT.out];rfl,hb1⟩
theorem hasCookie_c (h:TM w b K E R u v ys c)(hE:∀n,n≤200→(E n).length≤1000)(s:Int)(t:Bool)(ht:t=true↔hasCk E s) :
    Calls Tryz.prog 193 #[ptrV b,.int .i64 s] w fun e w'=>e=.returned (.bool t)∧Below w.heap.size w w':=by
  have hb0:Below w.heap.size w (w.alloc (.cells #[.int .i64 s] 2)):=(Below.refl _ _).alloc (Nat.le_refl _) _;have HB:=Lib.hid hb0;have cC:=conNode_c (h.below hb0) hE w.heap.size s (heap_alloc_new _ _) t ht;clear h hE ht hb0;go_enter Tryz.func193,Tryz.ntmps193;go_wp2_with (go_at_call 201;refine cC.mono ?_;rintro e w1 ⟨rfl,hb1⟩);go_ret;exact⟨rfl,HB.out.trans (hb1.mono HB.out.size)⟩
end
end Go.Proofs.YtdmkhmeaphaapaaGreat
