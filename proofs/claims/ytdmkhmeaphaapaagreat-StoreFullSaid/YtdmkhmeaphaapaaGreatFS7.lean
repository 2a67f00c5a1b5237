/- Kit. -/
import Derived.Test.YtdmkhmeaphaapaaGreatFS6
import Derived.Test.YtdmkhmeaphaapaaGreatFS3
import Derived.Test.YtdmkhmeaphaapaaGreatFX3
import Derived.Test.YtdmkhmeaphaapaaGreatFX8
import Derived.Test.YtdmkhmeaphaapaaGreatFJ6
import Derived.Great.FillDense
import Derived.StillTailTactics
import Derived.Deep.MidRow
import Derived.Test.YtdmkhmeaphaapaaGreatFS2
set_option maxRecDepth 100000
namespace Go.Proofs.YtdmkhmeaphaapaaGreat
open Go.RowKit Go.Sort
set_option linter.unusedVariables false
set_option linter.unusedSimpArgs false
theorem set_tail {a X Y:List Value}(ha:a.length=8)(hX:X.length=Y.length):(a++X).take 8++Y++(a++X).drop (8+Y.length)=a++Y:=by
  rw[List.take_append_of_le_length (by omega),List.take_of_length_le (by omega),List.drop_eq_nil_of_le (by rw[List.length_append];omega),List.append_nil]
section
variable {B b sb n:Nat}{X:List Value}{rm sz:Int}{O:TI→Prop}{lm:Bool}{E:Nat}{t:TI}{w w':World}
theorem VL.setTree {Y:List Value}(h:VL X w B b sb n rm O lm E t)(hX:X.length=406)(hY:Y.length=406):VL Y (w.setCells sb 8 Y) B b sb n rm O lm E t∧V.Off V.vaTs w (w.setCells sb 8 Y)∧Below B w (w.setCells sb 8 Y):=by
  obtain⟨h',k,A,img,rs,r1,r2,st,rv,a1,a⟩:=h;have hv:w.heap[sb]?=some (.cells _ 98 (0,0)):=a1.vlt;have ho:V.Off V.vaTs w (w.setCells sb 8 Y):=(V.Off.refl V.vaTs w).setCells hv (by decide) Y;refine⟨⟨h',k,A,img,rs,r1,r2,st,rv,⟨a1.live,a1.dev.off ((V.Off.refl [82,84,98] w).setCells hv (by simp) Y) (by decide) (by decide) (by decide),?_,a1.row.off ho,a1.hvb⟩,a⟩,ho,Below.setCells (Below.refl _ _) a1.hvb 8 Y⟩;have e:∀Q:List Value,V.hvL b (V.bkF h' k) h' A E++([.string img,rv,.bool true]++Q)=(V.hvL b (V.bkF h' k) h' A E++[.string img,rv,.bool true])++Q:=fun Q=>(List.append_assoc _ _ _).symm
  have h8:=V.heap_setCells_at sb 98 Y 8 w (V.hvL b (V.bkF h' k) h' A E++([.string img,rv,.bool true]++X)) a1.vlt (by simp[V.hvL,hX,hY]);rw[e X,set_tail (by simp[V.hvL]) (by omega)]at h8;show(w.setCells sb 8 Y).heap[sb]?=_
  rw[h8,e Y]
def SL (w:World)(B b sb n:Nat)(t:TI)(rm:Int)(O:TI→Prop)(lm:Bool)(E:Nat):Prop:=∃X,VL X w B b sb n rm O lm E t∧TxIs w X t.1 t.2
def SD (w:World)(B b sb n:Nat)(O:TI→Prop)(E:Nat):Prop:=∃X,VD X w B b sb n O E
theorem SL.below (h:SL w B b sb n t rm O lm E)(hb:Below w.heap.size w w'):SL w' B b sb n t rm O lm E:=by
  obtain⟨X,h1,h2⟩:=h;exact⟨X,h1.below hb,h2.keep (RowsStay.ofBelow hb)⟩
theorem sdo_zero {x:De}(hx:(deI t.1 t.2 x).2.2=0)(h:(sdoI t sz rm x).2.2=0):(sdoI t sz rm x).1.1=(deI t.1 t.2 x).1∧(sdoI t sz rm x).2.1=(deI t.1 t.2 x).2.1:=by
  by_cases h1:framesN (bytesL x)≤rm
  · rw[sdo_fit hx h1];exact⟨rfl,rfl⟩
  · by_cases h2:sz<framesN (imgI t.1 t.2)
    · rw[sdo_big hx h1 h2]at h;exact absurd h (by show ¬(11:Int)=0;decide)
    · by_cases h3:framesN (bytesL x)≤sz-framesN (imgI t.1 t.2)
      · rw[sdo_new hx h1 (by omega) h3];exact⟨rfl,rfl⟩
      · rw[sdo_none hx h1 (by omega) h3]at h;exact absurd h (by show ¬(11:Int)=0;decide)
theorem sdo_err0 {x:De}(h:(sdoI t sz rm x).2.2≠0):(sdoI t sz rm x).2.1=0:=by
  unfold sdoI at h ⊢;split
  · rfl
  · rename_i h1;rw[if_neg h1]at h;split
    · rfl
    · rename_i h2;rw[if_neg h2]at h;split
      · rename_i h3;rw[if_pos h3]at h;exact absurd rfl h
      · rename_i h3;rw[if_neg h3]at h;split
        · rfl
        · rename_i h4;rw[if_neg h4]at h;split
          · rename_i h5;rw[if_pos h5]at h;exact absurd rfl h
          · rfl
def DoX (w:World)(B b sb n:Nat)(t:TI)(rm:Int)(O:TI→Prop)(lm:Bool)(E:Nat)(x:De)(e:Ending)(w':World):Prop:=
  Below B w w'∧Spares w w'∧∃(O':TI→Prop) (E':Nat),E'≤E+1∧(∀u,O' u→O u∨Like t u∨Like (sdoI t (((n/2:Nat):Int)-1) rm x).1.1 u) ∧
    ((e=.returned (.tuple #[.int .i64 (sdoI t (((n/2:Nat):Int)-1) rm x).2.1,.int .i64 (sdoI t (((n/2:Nat):Int)-1) rm x).2.2])∧SL w' B b sb n (sdoI t (((n/2:Nat):Int)-1) rm x).1.1 (sdoI t (((n/2:Nat):Int)-1) rm x).1.2 O' lm E') ∨
     (lm=true∧e=.returned (.tuple #[.int .i64 0,.int .i64 13])∧SD w' B b sb n O' E'))
abbrev deO (x:De):Obj:=.cells #[.int .i64 x.k,.int .i64 x.d,.int .i64 x.dt,.string x.s,.string x.ns,.bool x.isD,.int .i64 x.sh] 38
set_option maxHeartbeats 4000000 in
theorem do_no (x:De)(hL:SL w B b sb n t rm O lm E)(hm:¬May x)(hB:B≤w.heap.size):Calls Tryz.prog 14 #[ptrV sb,deV x] w (DoX w B b sb n t rm O lm E x):=by
  unfold DoX;have hb0:Below w.heap.size w (w.alloc (deO x)):=(Below.refl _ _).alloc (Nat.le_refl _) _;obtain⟨X,hV,hT⟩:=hL;have cO:=vl_over (hV.below hb0);have cE:=fun W=>enc_no x W hm
  unfold EncNo deV at cE;have hR:sdoI t (((n/2:Nat):Int)-1) rm x=((t,rm),0,1):=by unfold sdoI;rw[if_pos hm]
  have HEND:Hid (∀w',Below (w.alloc (deO x)).heap.size (w.alloc (deO x)) w'→Below B w w'∧Spares w w'∧SL w' B b sb n t rm O lm E):=Lib.hid fun w' hb=>by
    have h1:=hb0.trans (hb.mono hb0.size);exact⟨h1.mono hB,Spares.ofBelow h1,SL.below ⟨X,hV,hT⟩ h1⟩
  have c0:=Lib.cell_of_heap (heap_alloc_new w (deO x));have cc:∀j v,#[Value.int .i64 x.k,.int .i64 x.d,.int .i64 x.dt,.string x.s,.string x.ns,.bool x.isD,.int .i64 x.sh][j]?=some v→(w.alloc (deO x)).cell? ⟨w.heap.size,j,none⟩=some v:=fun j v h=>(c0 j).trans h
  have k0:=cc 0 _ rfl;have k1:=cc 1 _ rfl;have k2:=cc 2 _ rfl;have k3:=cc 3 _ rfl;have k4:=cc 4 _ rfl;have k5:=cc 5 _ rfl;have k6:=cc 6 _ rfl;rw[hR];unfold deO at *;clear c0 cc hV hT hb0 hR;obtain⟨k,d,dt,s,ns,isD,shr⟩:=x;simp only[deV]at *;go_enter Tryz.func14,Tryz.ntmps14;go_upto_region 1 with fail;generalize (w.alloc (.cells #[.int .i64 k,.int .i64 d,.int .i64 dt,.string s,.string ns,.bool isD,.int .i64 shr] 38))=W at *;go_wp2_with (first
    | (go_at_call 32;refine cO.mono ?_;rintro e w1 ⟨rfl,rfl⟩)
    | (go_at_call 34;refine(cE _).mono ?_;rintro e w2 ⟨rfl,hb2⟩;have HX:=Lib.hid (HEND.out _ hb2);clear hb2))
  go_ret2;obtain⟨h1,h2,h3⟩:=HX.out;exact⟨h1,h2,O,E,by omega,fun u hu=>Or.inl hu,Or.inl ⟨rfl,h3⟩⟩
set_option maxHeartbeats 8000000 in
theorem do_yes (x:De)(hL:SL w B b sb n t rm O lm E)(hm:May x)(hx:t.2≤9223372036854775000)(hE:E≤1000000)(hB:B≤w.heap.size):Calls Tryz.prog 14 #[ptrV sb,deV x] w (DoX w B b sb n t rm O lm E x):=by
  unfold DoX;have hb0:Below w.heap.size w (w.alloc (deO x)):=(Below.refl _ _).alloc (Nat.le_refl _) _;obtain⟨X,hV,hT⟩:=hL;have HV:=Lib.hid hV;have HT:=Lib.hid hT;have cO:=vl_over (hV.below hb0);have cE:=fun W=>enc_yes x W hm
  unfold EncYes deV at cE;have CC:Hid (∀W,Below w.heap.size w W→Calls Tryz.prog 35 #[ptrE sb] W fun e w'=>∃b2 S2,e=.returned (ptrV b2)∧theTree.Is w' b2 t.1 t.2 S2∧(∀k,S2 k→W.heap.size≤k)∧Below W.heap.size W w'):=Lib.hid fun W hW=>by
    obtain⟨F,S,A,img,rv,hv,_⟩:=(HV.out.below hW).at;exact Ste.clone ((HT.out.keep (RowsStay.ofBelow hW)).te hv)
  have CD:Hid (∀W b2 S2,theTree.Is W b2 t.1 t.2 S2→Calls Tryz.prog 36 #[ptrV b2,deV x] W (DonePost theTree W b2 S2 (deI t.1 t.2 x))):=Lib.hid fun W b2 S2 hI=>deedDo_c theTree x hI (by omega)
  have CK:Hid ((deI t.1 t.2 x).2.2=0→∀W,Below w.heap.size w W→Calls Tryz.prog 37 #[ptrV sb,.string ⟨(bytesL x).toArray⟩] W fun e w'=>∃q:Int,e=.returned (.int .i64 q)∧KeQ X W B b sb n (((n/2:Nat):Int)-1) rm O lm E t x q w'):=Lib.hid fun h0 W hW=>keep_c x (HV.out.below hW) (HT.out.keep (RowsStay.ofBelow hW)) h0 (by omega) hE rfl (Nat.le_trans hB hW.size)
  have HBX:Hid (∀W,Below (w.alloc (deO x)).heap.size (w.alloc (deO x)) W→W.heap[w.heap.size]?=some (deO x)):=Lib.hid fun W hW=>by
    rw[hW.block w.heap.size (by simp)];exact heap_alloc_new _ _
  have HCC:Hid (∀W:World,W.heap[w.heap.size]?=some (deO x)→W.cell? ⟨w.heap.size,0,none⟩=some (.int .i64 x.k)∧W.cell? ⟨w.heap.size,1,none⟩=some (.int .i64 x.d)∧W.cell? ⟨w.heap.size,2,none⟩=some (.int .i64 x.dt)∧W.cell? ⟨w.heap.size,3,none⟩=some (.string x.s)∧W.cell? ⟨w.heap.size,4,none⟩=some (.string x.ns)∧W.cell? ⟨w.heap.size,5,none⟩=some (.bool x.isD)∧W.cell? ⟨w.heap.size,6,none⟩=some (.int .i64 x.sh)):=Lib.hid fun W h=>⟨Lib.cell_of_heap h 0,Lib.cell_of_heap h 1,Lib.cell_of_heap h 2,Lib.cell_of_heap h 3,Lib.cell_of_heap h 4,Lib.cell_of_heap h 5,Lib.cell_of_heap h 6⟩
  have HM:=Lib.hid hm;have HX0:=Lib.hid hx;have HE0:=Lib.hid hE;have HB0:=Lib.hid hb0;obtain⟨k0,k1,k2,k3,k4,k5,k6⟩:=HCC.out _ (HBX.out _ (Below.refl _ _));obtain⟨s0,hs0⟩:∃s0:ByteArray,(⟨(bytesL x).toArray⟩:ByteArray)=s0:=⟨_,rfl⟩;obtain⟨R,hR⟩:∃R,deI t.1 t.2 x=R:=⟨_,rfl⟩;have HR:=Lib.hid hR;rw[hs0]at cE CK;rw[hR]at CD CK;clear hV hT hb0 hm hx hE hs0 hR;obtain⟨Z,hZ⟩:∃Z,sdoI t (((n/2:Nat):Int)-1) rm x=Z:=⟨_,rfl⟩;have HZ:=Lib.hid hZ;rw[hZ];clear hZ;obtain⟨XX,hXX⟩:∃XX,x=XX:=⟨_,rfl⟩;have HXX:=Lib.hid hXX;rw[hXX]at HM HR HZ;have CK2:Hid (R.2.2=0→∀W,Below w.heap.size w W→Calls Tryz.prog 37 #[ptrV sb,.string s0] W fun e w'=>∃q:Int,e=.returned (.int .i64 q)∧KeQ X W B b sb n (((n/2:Nat):Int)-1) rm O lm E t XX q w'):=Lib.hid (by rw[←hXX];exact CK.out);clear CK hXX HXX;unfold DonePost deV at CD;unfold deO at *;obtain⟨k,d,dt,s,ns,isD,shr⟩:=x;simp only[deV]at k0 k1 k2 k3 k4 k5 k6 cE ⊢;go_enter Tryz.func14,Tryz.ntmps14;go_upto_region 1 with fail;generalize (w.alloc (.cells #[.int .i64 k,.int .i64 d,.int .i64 dt,.string s,.string ns,.bool isD,.int .i64 shr] 38))=W at *;go_upto_region 7 with(first
    | (go_at_call 32;refine cO.mono ?_;rintro e w1 ⟨rfl,rfl⟩)
    | (go_at_call 34;refine(cE _).mono ?_;rintro e w2 ⟨rfl,hb2⟩;have HB2:=Lib.hid hb2;clear hb2)
    | (go_at_call 35;refine(CC.out _ (HB0.out.trans (HB2.out.mono HB0.out.size))).mono ?_;rintro e w3 ⟨b2,S2,rfl,hi2,hs2,hb3⟩;have HI3:=Lib.hid hi2;have HS3:=Lib.hid hs2;have HB3:=Lib.hid hb3;clear hi2 hs2 hb3))
  clear k0 k1 k2 k3 k4 k5 k6 cO cE;have cD:=CD.out _ b2 S2 HI3.out
  try simp only at cD
  obtain⟨k0,k1,k2,k3,k4,k5,k6⟩:=HCC.out _ (HBX.out _ (HB2.out.trans (HB3.out.mono HB2.out.size)))
  try simp only at k0 k1 k2 k3 k4 k5 k6
  go_upto_region 8 with(go_at_call 36;refine cD.mono ?_;rintro e w4 ⟨S4,rfl,hi4,ht4⟩;have HI4:=Lib.hid hi4;have HT4:=Lib.hid ht4;clear hi4 ht4);clear k0 k1 k2 k3 k4 k5 k6 cD;have hb03:=HB0.out.trans (HB2.out.mono HB0.out.size);have hb33:=hb03.trans (HB3.out.mono hb03.size);have hlow:=HT4.out.low hb33.size (fun k hk=>Nat.le_trans hb03.size (HS3.out k hk));have HB4:Hid (Below w.heap.size w w4):=Lib.hid (hb33.trans hlow.1);clear hb03 hb33 hlow HCC HBX CD CC HB2 HB3 HS3 HI3 HT4;have hno:R.2.2≠0→(deI t.1 t.2 XX).2.2≠0:=fun h=>by rw[HR.out];exact h
  have HNO:=Lib.hid hno;clear hno;by_cases h0:R.2.2=0
  · have cK:=CK2.out h0 w4 HB4.out;have hHH:=Lib.hid h0;obtain⟨⟨⟨l5,nx5⟩,n5⟩,rfl⟩:∃r:(TI×Int),R=(r.1,r.2,0):=⟨(R.1,R.2.1),by rw[←h0]⟩;clear h0 hHH
    try simp only at HI4 cK ⊢
    go_upto_region 11 with(go_at_call 37;refine cK.mono ?_;rintro e w5 ⟨q,rfl,hq⟩;have HQ:=Lib.hid hq;clear hq);clear cK;by_cases hq:q=0
    · subst hq;have hdx:(deI t.1 t.2 XX).2.2=0:=by rw[HR.out]
      obtain⟨⟨hbq,hsq⟩,O',E',hE',hO',⟨hz,hV5⟩|⟨h13,_⟩⟩:=HQ.out;rotate_left
      · exact absurd h13 (by decide)
      obtain⟨hz1,hz2⟩:=sdo_zero hdx hz.symm;have hI5:=theSpares HI4.out hsq hbq.size;obtain⟨cs,hc,hcs,hone,hT5⟩:=TxIs.of hI5;have hXl:=HT.out.len;obtain⟨hV6,ho6,hb6⟩:=hV5.setTree (Y:=cs.toList) hXl (by rw[Array.length_toList];exact hcs);have hld:(Instr.loadAt 96 (.pointer (some ⟨b2,0,none⟩))).run Tryz.prog w5=.ok (.agg cs) w5:=by
        have:=run_loadAt_mid (P:=Tryz.prog) w5 b2 0 96 cs.toList _ (fun j x hx=>by
          rw[Nat.zero_add,cell_of_row _ _ _ _ _ _ hc,←Array.getElem?_toList];exact hx) Tryz.underlying96 rfl (by rw[Array.length_toList,hcs];exact Tryz.infoTreeS)
        rwa[Array.toArray_toList]at this
      obtain⟨F,S,A,img,rv,hv,_⟩:=hV5.at;have hst:(Instr.storeAt 96 (.pointer (some ⟨sb,8,none⟩)) (.agg cs)).run Tryz.prog w5=.ok () (w5.setCells sb 8 cs.toList):=
        run_storeAt_mid (P:=Tryz.prog) w5 sb 8 96 cs (V.there_of_block hv 8 cs.size (by rw[hcs];simp[V.hvL,hXl])) (by rw[hcs];exact Tryz.infoTreeS) hone
      have hst2:(storeCells ⟨sb,8,none⟩ cs.toList 0).run Tryz.prog w5=.ok () (w5.setCells sb 8 cs.toList):=by
        have hthe:=V.there_of_block hv 8 cs.size (by rw[hcs];simp[V.hvL,hXl]);have:=run_storeCells_cells (P:=Tryz.prog) sb 8 cs.toList 0 w5 (fun j hj=>by simpa using (hthe j (by simpa using hj)).1) (fun j hj=>by simpa using (hthe j (by simpa using hj)).2) (fun v hv=>(Array.all_eq_true_iff_forall_mem.1 hone) v (by simpa using hv));simpa only[Nat.add_zero]using this
      have HFIN:Hid (Below B w (w5.setCells sb 8 cs.toList)∧Spares w (w5.setCells sb 8 cs.toList)∧∃(O':TI→Prop) (E':Nat),E'≤E+1∧(∀u,O' u→O u∨Like t u∨Like Z.1.1 u)∧n5=Z.2.1∧Z.2.2=0∧SL (w5.setCells sb 8 cs.toList) B b sb n Z.1.1 Z.1.2 O' lm E'):=Lib.hid (by
        rw[HZ.out]at hz hz1 hz2 hV6 hO';rw[HR.out]at hz1 hz2;refine⟨((HB4.out.mono hB).trans hbq).trans hb6,((Spares.ofBelow HB4.out).trans hsq).trans (sp_va ho6),O',E',hE',hO',hz2.symm,hz.symm,cs.toList,hV6,?_⟩;rw[hz1];exact hT5.spares (sp_va ho6))
      clear hdx hbq hsq hz hV5 hz1 hz2 hI5 hone hT5 hV6 ho6 hb6 hv hc hO' hE' hXl;go_wp2_with (first
        | ((with_reducible refine wpL_load 96 _ (.pointer (some ⟨b2,0,none⟩)) (.agg cs) ?_ ?_ ?_);exact rfl;exact hld)
        | ((with_reducible refine wpL_store 96 _ _ (.pointer (some ⟨sb,8,none⟩)) (.agg cs) ?_ ?_ ?_ ?_);exact rfl;exact rfl;exact hst))
      go_ret2;obtain⟨h1,h2,O',E',h3,h4,h5,h6,h7⟩:=HFIN.out;exact⟨h1,h2,O',E',h3,h4,Or.inl ⟨by rw[h5,h6];rfl,h7⟩⟩
    · have hqz:(q==0)=false:=beq_eq_false_iff_ne.2 hq;have HFIN:Hid (Below B w w5∧Spares w w5∧∃(O':TI→Prop) (E':Nat),E'≤E+1∧(∀u,O' u→O u∨Like t u∨Like Z.1.1 u)∧((0=Z.2.1∧q=Z.2.2∧SL w5 B b sb n Z.1.1 Z.1.2 O' lm E')∨(lm=true∧q=13∧SD w5 B b sb n O' E'))):=Lib.hid (by
        obtain⟨⟨hbq,hsq⟩,O',E',hE',hO',h⟩:=HQ.out;refine⟨(HB4.out.mono hB).trans hbq,(Spares.ofBelow HB4.out).trans hsq,O',E',hE',by rw[HZ.out]at hO';exact hO',?_⟩;rcases h with⟨hz,hV5⟩|⟨h13,hl,hD⟩
        · have hz9:(sdoI t (((n/2:Nat):Int)-1) rm XX).2.2≠0:=by rw[←hz];exact hq
          have h1:=sdo_err hz9;have h2:=sdo_err0 hz9;rw[HZ.out]at hz h1 h2 hV5;refine Or.inl ⟨h2.symm,hz,X,hV5,?_⟩;rw[h1];exact(HT.out.keep (RowsStay.ofBelow HB4.out)).spares hsq
        · exact Or.inr ⟨hl,h13,X,hD⟩)
      clear hq;go_wp2;go_ret2;obtain⟨h1,h2,O',E',h3,h4,⟨h5,h6,h7⟩|⟨h5,h6,h7⟩⟩:=HFIN.out
      · exact⟨h1,h2,O',E',h3,h4,Or.inl ⟨by rw[←h5,←h6];rfl,h7⟩⟩
      · exact⟨h1,h2,O',E',h3,h4,Or.inr ⟨h5,by rw[h6];rfl,h7⟩⟩
  · have hqz:(R.2.2==0)=false:=beq_eq_false_iff_ne.2 h0;have HFIN:Hid (Z=((t,rm),0,R.2.2)∧SL w4 B b sb n t rm O lm E∧Below B w w4∧Spares w w4):=Lib.hid ⟨by
      rw[←HZ.out];unfold sdoI;rw[if_neg (by simpa using HM.out),if_pos (HNO.out h0),HR.out],SL.below ⟨X,HV.out,HT.out⟩ HB4.out,HB4.out.mono hB,Spares.ofBelow HB4.out⟩
    clear h0;go_wp2;go_ret2;obtain⟨h1,h2,h3,h4⟩:=HFIN.out;rw[h1];exact⟨h3,h4,O,E,by omega,fun u hu=>Or.inl hu,Or.inl ⟨rfl,h2⟩⟩
theorem do_over13 (x:De)(hD:SD w B b sb n O E):Calls Tryz.prog 14 #[ptrV sb,deV x] w fun e w'=>e=.returned (.tuple #[.int .i64 0,.int .i64 13])∧Below w.heap.size w w':=by
  have hb0:Below w.heap.size w (w.alloc (deO x)):=(Below.refl _ _).alloc (Nat.le_refl _) _;have HB0:=Lib.hid hb0;obtain⟨X,hV⟩:=hD;have cO:=vd_over (hV.below hb0);clear hV hb0;unfold deO at *;obtain⟨k,d,dt,s,ns,isD,shr⟩:=x;simp only[deV]at *;go_enter Tryz.func14,Tryz.ntmps14;go_upto_region 1 with fail;generalize (w.alloc (.cells #[.int .i64 k,.int .i64 d,.int .i64 dt,.string s,.string ns,.bool isD,.int .i64 shr] 38))=W at *;go_wp2_with (go_at_call 32;refine cO.mono ?_;rintro e w1 ⟨rfl,rfl⟩);go_ret2;exact⟨rfl,HB0.out⟩
end
end Go.Proofs.YtdmkhmeaphaapaaGreat
namespace Go.Proofs.YtdmkhmeaphaapaaGreat
open Go.RowKit Go.Sort
set_option linter.unusedVariables false
set_option linter.unusedSimpArgs false
def redoI (t:TI)(L:List UInt8):TI×Int:=if(decA L).2=0 then((deI t.1 t.2 (decA L).1).1,(deI t.1 t.2 (decA L).1).2.2) else(t,2)
def runR:TI→List (List UInt8)→Option TI
  | t,[]=>some t
  | t,L::r=>if(redoI t L).2=0 then runR (redoI t L).1 r else none
theorem decA_yes {L:List UInt8}(h:(decA L).2=0):May (decA L).1∧bytesL (decA L).1=L:=by
  unfold decA at h ⊢;split
  · assumption
  · rename_i hc;rw[if_neg hc]at h;exact absurd h (by decide)
theorem decA_of {x:De}(h:May x):decA (bytesL x)=(x,0):=by
  have hd:decL (bytesL x)=x:=by
    have h1:=decL_bytes x h [];rwa[List.append_nil]at h1
  unfold decA;rw[hd,if_pos ⟨h,rfl⟩]
theorem redo_grow (t:TI)(L:List UInt8):t.2≤(redoI t L).1.2∧(redoI t L).1.2≤t.2+1:=by
  unfold redoI;split
  · exact deI_grow t _
  · exact⟨Int.le_refl _,by show t.2≤t.2+1;omega⟩
theorem redo_deed {x:De}(h:May x)(t:TI):redoI t (bytesL x)=((deI t.1 t.2 x).1,(deI t.1 t.2 x).2.2):=by
  unfold redoI;rw[decA_of h,if_pos rfl]
theorem runR_deeds:∀(ds:List De) (t:TI),(∀x∈ds,May x)→runR t (ds.map bytesL)=runD t ds
  | [],t,_=>rfl
  | x::ds,t,h=>by
    rw[List.map_cons];unfold runR;rw[redo_deed (h x (List.mem_cons_self ..)),runD_cons,runR_deeds ds _ (fun y hy=>h y (List.mem_cons_of_mem _ hy))]
theorem runR_some:∀{rs:List (List UInt8)} {t u:TI},runR t rs=some u→∃ds:List De,rs=ds.map bytesL∧(∀x∈ds,May x)∧runD t ds=some u
  | [],t,u,h=>⟨[],rfl,fun x hx=>(by cases hx),h⟩
  | L::rs,t,u,h=>by
    unfold runR at h;split at h
    · rename_i h0;obtain⟨ds,e1,e2,e3⟩:=runR_some h;have hd:(decA L).2=0:=by
        unfold redoI at h0;split at h0
        · assumption
        · exact absurd h0 (by show ¬(2:Int)=0;decide)
      obtain⟨m1,m2⟩:=decA_yes hd;have hr:=redo_deed m1 t;rw[m2]at hr;rw[hr]at h0 e3;refine⟨(decA L).1::ds,by rw[List.map_cons,m2,←e1],fun x hx=>?_,?_⟩
      · rcases List.mem_cons.1 hx with rfl|hx
        · exact m1
        · exact e2 x hx
      · rw[runD_cons,if_pos h0];exact e3
    · cases h
theorem runR_mounts {A t:TI}{img:List UInt8}{rs:List (List UInt8)}(hg:GoodTI A)(hx:A.2≤9223372036854775807)(hi:imgI A.1 A.2=img)(h:runR A rs=some t):Mounts img rs t:=by
  obtain⟨ds,e1,e2,e3⟩:=runR_some h;exact⟨A,ds,hg,hx,hi,e1,e2,e3⟩
theorem runR_no {A:TI}{img:List UInt8}{rs:List (List UInt8)}(hg:GoodTI A)(hx:A.2≤9223372036854775807)(hi:imgI A.1 A.2=img)(h:runR A rs=none):NoMount img rs:=by
  rintro u ⟨C,ds,c1,c2,c3,c4,c5,c6⟩;obtain⟨e1,_,e2⟩:=twin_img hg c1 hx c2 (c3.trans hi.symm);rcases runD_like ds ⟨e2,e1.symm⟩ hg c1 with⟨_,h2⟩|⟨x,y,h1,h2,h3⟩
  · rw[h2]at c6;cases c6
  · rw[c4,runR_deeds ds A c5,h1]at h;cases h
section
variable {w:World}{b:Nat}{l:List Itm}{nx:Int}{S:Nat→Prop}
set_option maxHeartbeats 4000000 in
theorem redo_c (L:List UInt8)(h:theTree.Is w b l nx S)(hL:L.length≤100000)(hnx:nx+1≤9223372036854775807) :
    Calls Tryz.prog 105 #[ptrV b,.string ⟨L.toArray⟩] w fun e w'=>∃S',e=.returned (.int .i64 (redoI (l,nx) L).2)∧theTree.Is w' b (redoI (l,nx) L).1.1 (redoI (l,nx) L).1.2 S'∧Trod w w' S S':=by
  have cD:=decode_c L w hL;unfold DecPost deV at cD;obtain⟨R,hR⟩:∃R,redoI (l,nx) L=R:=⟨_,rfl⟩;rw[hR];unfold redoI at hR;have hq2:(decA L).2=0∨(decA L).2=2:=by
    unfold decA;split<;>simp
  obtain⟨⟨⟨k,d,dt,s,ns,isD,shr⟩,q⟩,hA⟩:∃A,decA L=A:=⟨_,rfl⟩;rw[hA]at cD hR hq2;simp only at cD hR hq2;have HQ2:=Lib.hid hq2;generalize (⟨L.toArray⟩:ByteArray)=text at *;have HR:=Lib.hid hR;have HT:=Lib.hid h;clear hR h hA hq2;go_enter Tryz.func105,Tryz.ntmps105;go_upto_region 2 with(go_at_call 26;refine cD.mono ?_;rintro e w1 ⟨rfl,hb1⟩;have HB1:=Lib.hid hb1;clear hb1);have HB2:Hid (Below w.heap.size w (w1.alloc (.cells #[.int .i64 k,.int .i64 d,.int .i64 dt,.string s,.string ns,.bool isD,.int .i64 shr] 38))):=Lib.hid (HB1.out.alloc HB1.out.size _);have hc:=heap_alloc_new w1 (.cells #[.int .i64 k,.int .i64 d,.int .i64 dt,.string s,.string ns,.bool isD,.int .i64 shr] 38);generalize (w1.alloc (.cells #[.int .i64 k,.int .i64 d,.int .i64 dt,.string s,.string ns,.bool isD,.int .i64 shr] 38))=W at *;obtain⟨k0,k1,k2,k3,k4,k5,k6⟩:W.cell? ⟨w1.heap.size,0,none⟩=some (.int .i64 k)∧W.cell? ⟨w1.heap.size,1,none⟩=some (.int .i64 d)∧W.cell? ⟨w1.heap.size,2,none⟩=some (.int .i64 dt)∧W.cell? ⟨w1.heap.size,3,none⟩=some (.string s)∧W.cell? ⟨w1.heap.size,4,none⟩=some (.string ns)∧W.cell? ⟨w1.heap.size,5,none⟩=some (.bool isD)∧W.cell? ⟨w1.heap.size,6,none⟩=some (.int .i64 shr):=⟨Lib.cell_of_heap hc 0,Lib.cell_of_heap hc 1,Lib.cell_of_heap hc 2,Lib.cell_of_heap hc 3,Lib.cell_of_heap hc 4,Lib.cell_of_heap hc 5,Lib.cell_of_heap hc 6⟩;clear hc cD HB1;by_cases h0:q=0
  · subst h0;have cO:=deedDo_c theTree ⟨k,d,dt,s,ns,isD,shr⟩ (theTree.below HT.out HB2.out) hnx;unfold DonePost deV at cO;have HR2:Hid (deI l nx ⟨k,d,dt,s,ns,isD,shr⟩=(R.1,(deI l nx ⟨k,d,dt,s,ns,isD,shr⟩).2.1,R.2)):=Lib.hid (by
      have h9:=HR.out;rw[if_pos rfl]at h9;rw[←h9])
    obtain⟨n9,hn9⟩:∃n9,(deI l nx ⟨k,d,dt,s,ns,isD,shr⟩).2.1=n9:=⟨_,rfl⟩;rw[hn9]at HR2;rw[HR2.out]at cO;simp only at cO;clear hn9 HR HR2;go_wp2_with (go_at_call 36;refine cO.mono ?_;rintro e w2 ⟨S2,rfl,hi2,ht2⟩;have HI2:=Lib.hid hi2;have HT2:=Lib.hid ht2;clear hi2 ht2);go_ret;exact⟨S2,rfl,HI2.out,(Trod.of_below HB2.out).trans HT2.out⟩
  · have hqz:(q==0)=false:=beq_eq_false_iff_ne.2 h0;have HR2:Hid (R=((l,nx),2)):=Lib.hid (by
      have h9:=HR.out;rw[if_neg h0]at h9;exact h9.symm)
    have HQ:Hid (q=2):=Lib.hid (HQ2.out.resolve_left h0);clear h0 HR;go_wp2;go_ret;rw[HR2.out,HQ.out];exact⟨S,rfl,theTree.below HT.out HB2.out,Trod.of_below HB2.out⟩
end
theorem bl_back (s:ByteArray):(⟨(bl s).toArray⟩:ByteArray)=s:=by
  unfold bl;rw[Array.toArray_toList]
def RepT (img:ByteArray)(rs:List ByteArray)(w w':World)(b:Nat):Prop:=∃(t:TI) (S:Nat→Prop),theTree.Is w' b t.1 t.2 S∧(∀k,S k→w.heap.size≤k)∧Mounts (bl img) (rs.map bl) t
def RepP (img:ByteArray)(rs:List ByteArray)(w:World)(e:Ending)(w':World):Prop:=
  Below w.heap.size w w'∧((∃q:Int,q≠0∧e=.returned (.tuple #[.pointer none,.int .i64 q])∧NoMount (bl img) (rs.map bl)) ∨
    (∃b:Nat,e=.returned (.tuple #[ptrV b,.int .i64 0])∧RepT img rs w w' b))
set_option maxHeartbeats 8000000 in
theorem replay_c (img:ByteArray)(rs:List ByteArray)(v:Value)(w:World)(hv:V.StrsIs w v rs)(hi:img.size≤9223372036854775807)(hs:∀s∈rs,s.size≤60000)(hn:rs.length≤400)(hck:∀A:TI,GoodTI A→A.2≤9223372036854775807→imgI A.1 A.2=bl img→A.2≤9223372036854775000) :
    Calls Tryz.prog 61 #[.string img,v] w (RepP img rs w):=by
  unfold RepP;have cI:=decodeI_c (bl img) w (by show img.data.toList.length≤_;rw[Array.length_toList];exact hi);rw[bl_back]at cI;unfold IDPost at cI;obtain⟨n,hnl⟩:∃n,rs.length=n:=⟨_,rfl⟩;obtain⟨a,cap,rfl⟩:∃a cap,v=.slice a n cap:=by
    rcases hv with⟨rfl,a,cap,rfl⟩|⟨g,off,cap,_,rfl,_⟩
    · exact⟨a,cap,by rw[←hnl];rfl⟩
    · exact⟨_,cap,by rw[hnl]⟩
  have HV:=Lib.hid hv;have HN:=Lib.hid hnl;have HS:=Lib.hid hs;have HCK:=Lib.hid hck;rw[hnl]at hn;clear hv hnl hs hck hi;go_enter Tryz.func61,Tryz.ntmps61;go_upto_region 2 with(go_at_call 104;refine cI.mono ?_;rintro e w1 h1;have H1:=Lib.hid h1;rcases h1 with⟨rfl,_⟩|⟨b,A,nx,S,rfl,_⟩)
  · obtain⟨hb1,hno⟩:Below w.heap.size w w1∧NoImg (bl img):=by
      rcases H1.out with⟨_,h1,h2⟩|⟨b,A,nx,S,h1,_⟩
      · exact⟨h1,h2⟩
      · exact absurd h1 (by simp)
    have HF:=Lib.hid (And.intro hb1 (no_image (rs:=rs.map bl) hno));clear hb1 hno cI H1;go_wp2;go_ret2;exact⟨HF.out.1,Or.inl ⟨2,by decide,rfl,HF.out.2⟩⟩
  · obtain⟨A,nx,S,hI,hS,hb1,himg,hnx⟩:∃A nx S,theTree.Is w1 b A nx S∧(∀k,S k→w.heap.size≤k)∧Below w.heap.size w w1∧imgI A nx=bl img∧nx≤9223372036854775807:=by
      rcases H1.out with⟨h1,_⟩|⟨b',A,nx,S,h1,h2,h3,h4,h5,h6⟩
      · exact absurd h1 (by simp)
      · injection h1 with h1;simp at h1;obtain rfl:=h1;exact⟨A,nx,S,h2,h3,h4,h5,h6⟩
    have hgood:GoodTI (A,nx):=theGood hI;have hck:=HCK.out (A,nx) hgood hnx himg;have HI1:=Lib.hid hI;have HS1:=Lib.hid hS;have HB1:=Lib.hid hb1;have HIM:=Lib.hid himg;have HG:=Lib.hid hgood;have HNX:=Lib.hid hnx;have HCK2:Hid (nx≤9223372036854775000):=Lib.hid hck;clear hI hS hb1 himg hgood hnx hck H1 cI;go_wp2_with fail;go_loopw [21] (fun iv wr=>∃i:Nat,i≤n∧iv=.int .i64 i∧∃(T:TI) (S:Nat→Prop),theTree.Is wr b T.1 T.2 S∧(∀k,S k→w.heap.size≤k)∧Below w.heap.size w wr∧runR (A,nx) (rs.map bl)=runR T ((rs.drop i).map bl)∧T.2≤nx+i) (fun iv _=>n-(intOf iv).toNat)
    case atStart=>exact⟨0,Nat.zero_le _,rfl,(A,nx),S,HI1.out,HS1.out,HB1.out,rfl,by simp⟩
    case round =>
      obtain⟨i,hin,rfl,T,S',hI,hS,hb,hrun,hT⟩:=hrel;have HI:=Lib.hid hI;have HS2:=Lib.hid hS;have HB:=Lib.hid hb;have HRUN:=Lib.hid hrun;have HTX:=Lib.hid hT;clear hI hS hb hrun hT;by_cases hlt:i<n
      · have hiz:(i:Int)<(n:Int):=by omega
        have hi0:(0:Int)≤(i:Int):=by omega
        obtain⟨s,hsi⟩:∃s,rs[i]?=some s:=⟨_,List.getElem?_eq_getElem (by rw[HN.out];exact hlt)⟩;have hvr:=V.StrsIs.kept HV.out HB.out;obtain⟨g,off,rfl,hc⟩:∃g off,a=some ⟨g,off,none⟩∧wr.cell? ⟨g,off+i,none⟩=some (.string s):=by
          rcases hvr with⟨h1,_⟩|⟨g,off,cap',_,h1,h2⟩
          · rw[h1]at hsi;cases hsi
          · injection h1 with h1 _ _;exact⟨g,off,h1,h2 i s hsi⟩
        have hsz:=HS.out s (List.mem_of_getElem? hsi);have cR:=redo_c (bl s) HI.out (by show s.data.toList.length≤_;rw[Array.length_toList];exact Nat.le_trans hsz (by omega)) (by have:=HTX.out;have:=HCK2.out;omega);rw[bl_back]at cR;have hdrop:(rs.drop i).map bl=bl s::(rs.drop (i+1)).map bl:=by
          have:rs.drop i=s::rs.drop (i+1):=by
            have h9:=List.drop_eq_getElem_cons (l:=rs) (i:=i) (by rw[HN.out];exact hlt);rw[List.getElem?_eq_getElem (by rw[HN.out];exact hlt)]at hsi;rw[h9,Option.some.inj hsi]
          rw[this];rfl
        have HDR:Hid (runR (A,nx) (rs.map bl)=if(redoI T (bl s)).2=0 then runR (redoI T (bl s)).1 ((rs.drop (i+1)).map bl) else none):=Lib.hid (by rw[HRUN.out,hdrop];rfl);have HGR:=Lib.hid (redo_grow T (bl s));have hTe:(T.1,T.2)=T:=rfl;rw[hTe]at cR;generalize redoI T (bl s)=Q at *;clear hvr hsi hsz hdrop hTe;go_upto_region 8 with(go_at_call 105;refine cR.mono ?_;rintro e w3 ⟨S3,rfl,hi3,ht3⟩;have HI3:=Lib.hid hi3;have HT3:=Lib.hid ht3;clear hi3 ht3);have hlow:=HT3.out.low HB.out.size HS2.out;have HB3:Hid (Below w.heap.size w w3):=Lib.hid (HB.out.trans hlow.1);have HS3:=Lib.hid hlow.2;clear hlow cR hc;by_cases hq:Q.2=0
        · have HRU:Hid (runR (A,nx) (rs.map bl)=runR Q.1 ((rs.drop (i+1)).map bl)):=Lib.hid (by rw[HDR.out,if_pos hq]);clear HDR;go_wp2;go_roundw
          case rel=>exact⟨i+1,by omega,by first|rfl|go_num,Q.1,S3,HI3.out,HS3.out,HB3.out,HRU.out,by have:=HGR.out.2;have:=HTX.out;omega⟩
          case measure=>simp[intOf];omega
        · have hqz:(Q.2==0)=false:=beq_eq_false_iff_ne.2 hq;have HF:Hid (Q.2≠0∧NoMount (bl img) (rs.map bl)):=Lib.hid ⟨hq,runR_no HG.out HNX.out HIM.out (by rw[HDR.out,if_neg hq])⟩;clear hq;go_wp2;go_ret2;exact⟨HB3.out,Or.inl ⟨_,HF.out.1,rfl,HF.out.2⟩⟩
      · have hiz:¬(i:Int)<(n:Int):=by omega
        have HF:Hid (Mounts (bl img) (rs.map bl) T):=Lib.hid (runR_mounts HG.out HNX.out HIM.out (by rw[HRUN.out,List.drop_of_length_le (by rw[HN.out];omega)];rfl));go_wp2;go_ret2;exact⟨HB.out,Or.inr ⟨b,rfl,T,S',HI.out,HS2.out,HF.out⟩⟩
end Go.Proofs.YtdmkhmeaphaapaaGreat
namespace Go.Proofs.YtdmkhmeaphaapaaGreat
open Go.RowKit Go.Sort
set_option linter.unusedVariables false
set_option linter.unusedSimpArgs false
def zStore:Array Value:=(([.pointer none,.int .i64 0,.int .i64 0,.int .i64 0,.int .u64 0,.string ⟨#[]⟩,.slice none 0 0,.bool false]:List Value)++(nilNodes 201++([.int .i64 0,.int .i64 0,.slice none 0 0,.int .i64 0]:List Value))).toArray
theorem zStore_size:zStore.size=414:=by
  unfold zStore;rw[List.size_toArray,List.length_append,List.length_append,nilNodes_len];rfl
theorem built_sto (parts:List (Nat×Value)):Tryz.prog.built 98 parts=Instr.fill ((#[(0,8),(8,406)]:Array (Nat×Nat))[·]?) zStore parts:=by kernel_rfl
theorem fill_sto (v8:List Value)(cs:Array Value)(h8:v8.length=8)(hc:cs.size=406):Instr.fill ((#[(0,8),(8,406)]:Array (Nat×Nat))[·]?) zStore [(0,.agg v8.toArray),(1,.agg cs)]=some (v8++cs.toList).toArray:=by
  have h1:(Value.agg v8.toArray).cells=v8.toArray:=rfl;have h2:(Value.agg cs).cells=cs:=rfl;have hl:cs.toList.length=406:=by rw[Array.length_toList];exact hc
  obtain⟨f1,f2⟩:=Go.Great.foldl_set 0 v8 0 zStore;obtain⟨g1,g2⟩:=Go.Great.foldl_set 8 cs.toList 0 ((v8.zipIdx 0).foldl (fun cs (x:Value×Nat)=>cs.setIfInBounds (0+x.2) x.1) zStore);unfold Instr.fill;simp only[List.getElem?_toArray,List.getElem?_cons_zero,h1];rw[if_neg (by simp[h8,zStore_size])];unfold Instr.fill;simp only[List.getElem?_cons_succ,List.getElem?_cons_zero,h2];rw[←Array.foldl_toList,Array.toList_zipIdx,List.toList_toArray];generalize (List.foldl (fun cs (x:Value×Nat)=>cs.setIfInBounds (0+x.2) x.1) zStore v8.zipIdx)=Z at *;rw[zStore_size]at f1 f2;rw[h8]at f2;rw[hl,f1]at g2;rw[if_neg (by rw[f1,hc];decide)];unfold Instr.fill;congr 1;rw[←Array.foldl_toList,Array.toList_zipIdx];apply Array.ext_getElem?;intro j;refine Eq.trans (g2 j) ?_;refine Eq.trans ?_ (List.getElem?_toArray (xs:=v8++cs.toList) (i:=j)).symm;by_cases hj:8+0≤j∧j<8+0+406∧j<414
  · rw[if_pos hj,List.getElem?_append_right (by omega),h8]
  · rw[if_neg hj,f2 j];by_cases hj0:0+0≤j∧j<0+0+8∧j<414
    · rw[if_pos hj0,List.getElem?_append_left (by omega)];rfl
    · rw[if_neg hj0,Array.getElem?_eq_none (by rw[zStore_size];omega),List.getElem?_eq_none (by rw[List.length_append,h8,hl];omega)]
theorem build_sto (v8:List Value)(cs:Array Value)(h8:v8.length=8)(hc:cs.size=406)(W:World):(Instr.build 98 #[(0,.agg v8.toArray),(1,.agg cs)]).run Tryz.prog W=.ok (.agg (v8++cs.toList).toArray) W:=
  run_build W _ _ _ (by rw[built_sto];exact fill_sto v8 cs h8 hc)
theorem Tryz.infoVaultS:(Tryz.prog.info? 84).map (·.size)=some 8:=by kernel_rfl
section
variable {P:Program}{ops:Array Oper}{rest:List Oper}{d:Option Tmp}{T:TypeId}{pos:String}{af:Array Edge}{a:Act}{w:World}{Q:Act→Prop}
theorem wanted_none13 {o:Oper}{ys:Nat→Option Bool}(hgd:o.guard=none):Region.wanted o ys=true:=by simp[Region.wanted,hgd]
theorem wpStill_load13 (ty:TypeId)(x:Operand)(px v:Value)(hx:a.eval x=px)(hr:(Instr.loadAt ty px).run P w=.ok v w)(h:wpStill P ops w Q rest (a.put d v)) :
    wpStill P ops w Q ({ dst:=d,op:=.load ty x,type:=T,pos:=pos,after:=af,guard:=none }::rest) a:=by
  unfold wpStill;rw[if_pos (wanted_none13 rfl)];unfold Oper.still execOp;simp only[hx,Sem.run_bind,hr,Result.andThen_ok];exact⟨rfl,h⟩
end
section
variable {B b n:Nat}{k:Bool}{E:Nat}{img:ByteArray}{rs:List ByteArray}{st:V.St}{w:World}
def MoT (B b n sb E:Nat)(img:ByteArray)(rs:List ByteArray)(w':World):Prop:=∃t:TI,Mounts (bl img) (rs.map bl) t∧SL w' B b sb n t (((n/2:Nat):Int)-((1+(V.layB (V.recs (img::rs))).length:Nat):Int)) (Like t) false E
def MoD (B b n:Nat)(k:Bool)(E:Nat)(img:ByteArray)(rs:List ByteArray)(w w':World):Prop:=
  (Below B w w'∧Spares w w'∧V.OffB w.heap.size w w')∧∃st',V.Dev B w' b st'∧V.LiveS n (n/2) k E (1+(V.layB (V.recs (img::rs))).length) img rs (img::rs) [] false st'
def MoP (B b n:Nat)(k:Bool)(E:Nat)(img:ByteArray)(rs:List ByteArray)(w:World)(e:Ending)(w':World):Prop:=
  MoD B b n k E img rs w w'∧((e=.returned (.tuple #[.pointer none,.int .i64 2])∧NoMount (bl img) (rs.map bl))∨(∃sb:Nat,e=.returned (.tuple #[ptrV sb,.int .i64 0])∧MoT B b n sb E img rs w'))
theorem MoD.below {w1 w2:World}(h:MoD B b n k E img rs w w1)(hb:Below w1.heap.size w1 w2)(hB:B≤w.heap.size):MoD B b n k E img rs w w2:=by
  obtain⟨⟨h1,h2,h3⟩,st',hd,hl⟩:=h;have h9:=hb.mono h1.size;exact⟨⟨h1.trans (h9.mono hB),h2.trans (Spares.ofBelow hb),h3.trans (V.OffB.ofBelow h9)⟩,st',hd.below hb,hl⟩
set_option maxHeartbeats 8000000 in
theorem mountX_c (hd:V.Dev B w b st)(hk:V.KnX n (n/2) k E img rs st)(hck:∀A:TI,GoodTI A→A.2≤9223372036854775807→imgI A.1 A.2=bl img→A.2≤9223372036854775000)(hB:B≤w.heap.size) :
    Calls Tryz.prog 27 #[ptrV b] w (MoP B b n k E img rs w):=by
  unfold MoP;have cO:=V.reopen_c hd hk hB;unfold V.ReX at cO;have HCK:=Lib.hid hck;clear hd hk hck;go_enter Tryz.func27,Tryz.ntmps27;go_upto_region 4 with(go_at_call 22;refine cO.mono ?_;rintro e w1 ⟨vb,rv,st',rfl,hb1,ho1,hvb,hrow,hL,hpe⟩;have HL:=Lib.hid hL;have HB1:=Lib.hid hb1;have HO1:=Lib.hid ho1;have HVB:=Lib.hid hvb;clear hb1 ho1 hvb hrow hL hpe);have hsz:=HL.out.live.sizes;have hrl:=rs_few HL.out.live;have cI:=V.image_c HL.out.vlt;have cR:=V.records_c HL.out.vlt HL.out.row (by omega);have HRP:Hid (∀W v,W.ownsRow w1.heap.size 9 1 v rs.length (rs.map Value.string)→Calls Tryz.prog 61 #[.string img,v] W (RepP img rs W)):=Lib.hid fun W v hv =>
    replay_c img rs v W (V.own_row hv rfl).strs (Nat.le_trans (hsz img (List.mem_cons_self ..)).2 (by decide)) (fun s hs=>(hsz s (List.mem_cons_of_mem _ hs)).2) hrl HCK.out
  unfold RepP at HRP;have HMD:Hid (MoD B b n k E img rs w w1):=Lib.hid ⟨⟨HB1.out,sp_va HO1.out.1,HO1.out.2⟩,st',HL.out.dev,HL.out.live⟩;obtain⟨rl,hrl2⟩:∃rl,rs.length=rl:=⟨_,rfl⟩;rw[hrl2]at cR HRP;clear hsz hrl hrl2 cO;go_upto_region 5 with(first
    | (go_at_call 62;refine cI.mono ?_;rintro e w2 ⟨rfl,rfl⟩)
    | (go_at_call 63;refine cR.mono ?_;rintro e w3 ⟨v3,rfl,ho3,hb3⟩;obtain⟨a3,c3,hv3⟩:=ownsRow_slice ho3;have HO3:=Lib.hid ho3;have HB3:=Lib.hid hb3;clear ho3 hb3;subst hv3)
    | (go_at_call 61;refine(HRP.out _ _ HO3.out).mono ?_;rintro e w4 ⟨hb4,hc4⟩;have HB4:=Lib.hid hb4;clear hb4;rcases hc4 with⟨q,hq,rfl,hno⟩|⟨bt,rfl,ht⟩))
  · have HNO:=Lib.hid hno;have hqz:(q==0)=false:=beq_eq_false_iff_ne.2 hq;have HMD4:=Lib.hid ((HMD.out.below HB3.out hB).below HB4.out hB);clear hno hq cI cR;go_wp2;go_ret2;exact⟨HMD4.out,Or.inl ⟨rfl,HNO.out⟩⟩
  · obtain⟨t,S,hI,hS,hM⟩:=ht;have hb14:=HB3.out.trans (HB4.out.mono HB3.out.size);have HMD4:=Lib.hid ((HMD.out.below HB3.out hB).below HB4.out hB);have hL4:=HL.out.below hb14;obtain⟨cs,hc,hcs,hone,hT⟩:=TxIs.of hI;obtain⟨V8,hV8⟩:∃V8:List Value,V.hvL b (V.bkF (n/2) k) (n/2) (1+(V.layB (V.recs (img::rs))).length) E++[.string img,rv,.bool true]=V8:=⟨_,rfl⟩;have hv8:V8.length=8:=by rw[←hV8];simp[V.hvL]
    have hvl:w4.heap[vb]?=some (.cells V8.toArray 84 (0,0)):=by rw[←hV8];exact hL4.vlt
    have hldV:(Instr.loadAt 84 (.pointer (some ⟨vb,0,none⟩))).run Tryz.prog w4.drew=.ok (.agg V8.toArray) w4.drew:=run_loadAt_mid (P:=Tryz.prog) w4.drew vb 0 84 V8 _ (fun j x hx=>by
      rw[Nat.zero_add,show w4.drew.cell? ⟨vb,j,none⟩=w4.cell? ⟨vb,j,none⟩ from rfl,cell_of_row _ _ _ _ _ _ hvl,List.getElem?_toArray];exact hx) Tryz.underlying84 rfl (by rw[hv8];exact Tryz.infoVaultS)
    have hldT:(Instr.loadAt 96 (.pointer (some ⟨bt,0,none⟩))).run Tryz.prog w4.drew=.ok (.agg cs) w4.drew:=by
      have:=run_loadAt_mid (P:=Tryz.prog) w4.drew bt 0 96 cs.toList _ (fun j x hx=>by
        rw[Nat.zero_add,show w4.drew.cell? ⟨bt,j,none⟩=w4.cell? ⟨bt,j,none⟩ from rfl,cell_of_row _ _ _ _ _ _ hc,←Array.getElem?_toList];exact hx) Tryz.underlying96 rfl (by rw[Array.length_toList,hcs];exact Tryz.infoTreeS)
      rwa[Array.toArray_toList]at this
    have HBT:Hid (∀W:World,(Instr.build 98 #[(0,.agg V8.toArray),(1,.agg cs)]).run Tryz.prog W=.ok (.agg (V8++cs.toList).toArray) W):=Lib.hid fun W=>build_sto V8 cs hv8 hcs W
    have hsize:(V8++cs.toList).toArray.size=414:=by rw[List.size_toArray,List.length_append,hv8,Array.length_toList,hcs]
    have HFIN:Hid (∀W',W'=w4.drew.alloc (.cells (V8++cs.toList).toArray 98)→MoD B b n k E img rs w W'∧MoT B b n w4.heap.size E img rs W'):=Lib.hid (by
      intro W' hW';have hbN:Below w4.heap.size w4 W':=by rw[hW'];exact(Below.drew (Below.refl _ _)).alloc (Nat.le_refl _) _
      have hnew:W'.heap[w4.heap.size]?=some (.cells (V8++cs.toList).toArray 98 (0,0)):=by rw[hW'];exact heap_alloc_new w4.drew _
      have hL5:=hL4.below hbN;refine⟨HMD4.out.below hbN hB,t,hM,cs.toList,⟨n/2,k,_,img,rs,img::rs,[],st',rv,⟨hL5.live,hL5.dev,?_,hL5.row,?_⟩,rfl,by simp,hM,rfl,fun u hu=>OutO.all rfl hM u hu⟩,hT.keep (RowsStay.ofBelow hbN)⟩
      · show W'.heap[w4.heap.size]?=_
        rw[hnew,←hV8,List.append_assoc]
      · have:=HB1.out.size;have:=hb14.size;omega)
    generalize (V8++cs.toList).toArray=AA at *;clear hI hS hM hb14 hL4 hc hcs hone hT hV8 hv8 hvl cI cR HMD HMD4 HL HRP;go_wp2_with fail;refine wp_region_still_tail 6 (by kernel_rfl) (by kernel_rfl) ?_;simp only[List.take_succ_cons,List.take_zero,List.drop_succ_cons,List.drop_zero];change wpStill _ _ w4.drew _ _ _;obtain⟨W5,hW5⟩:∃W5,w4.drew=W5:=⟨_,rfl⟩;rw[hW5]at hldV hldT HFIN ⊢
    still_step
    still_step
    refine wpStill_load13 84 _ (.pointer (some ⟨vb,0,none⟩)) (.agg V8.toArray) rfl hldV ?_;simp only[Act.put,List.setIfInBounds_toArray,List.set_cons_zero,List.set_cons_succ]
    still_step
    still_step
    refine wpStill_load13 96 _ (.pointer (some ⟨bt,0,none⟩)) (.agg cs) rfl hldT ?_;simp only[Act.put,List.setIfInBounds_toArray,List.set_cons_zero,List.set_cons_succ];refine wpStill_nil ?_;have hsz5:W5.heap.size=w4.heap.size:=by rw[←hW5];rfl
    have HSZ5:=Lib.hid hsz5;have HW5:=Lib.hid hW5;clear hldV hldT hW5 hsz5;go_wp2_with ((with_reducible refine wpL_build 98 _ #[(0,.agg V8.toArray),(1,.agg cs)] (.agg AA) ?_ ?_ ?_);exact rfl;exact HBT.out _);go_ret2;have hF:=HFIN.out (w4.alloc (.cells AA 98)).drew (by rw[←HW5.out];rfl);exact⟨hF.1,Or.inr ⟨w4.heap.size,rfl,hF.2⟩⟩
end
end Go.Proofs.YtdmkhmeaphaapaaGreat
namespace Go.Proofs.YtdmkhmeaphaapaaGreat
open Go.RowKit Go.Sort
set_option linter.unusedVariables false
set_option linter.unusedSimpArgs false
section
variable {B b sb n:Nat}{rm:Int}{O:TI→Prop}{lm:Bool}{E:Nat}{t:TI}{w w':World}
theorem SL.off (h:SL w B b sb n t rm O lm E)(ho:V.Off refTs w w'):SL w' B b sb n t rm O lm E:=by
  obtain⟨X,h1,h2⟩:=h;exact⟨X,h1.off ho,h2.keep (RowsStay.ofRef ho)⟩
theorem SL.spares (h:SL w B b sb n t rm O lm E){X:List Value}(hT:TxIs w X t.1 t.2)(hV:VL X w' B b sb n rm O lm E t)(hs:Spares w w'):SL w' B b sb n t rm O lm E:=⟨X,hV,hT.spares hs⟩
theorem SL.te (h:SL w B b sb n t rm O lm E):TeIs w sb t.1 t.2:=by
  obtain⟨X,h1,h2⟩:=h;obtain⟨F,S,A,img,rv,hv,_⟩:=h1.at;exact h2.te hv
theorem stree_c (h:SL w B b sb n t rm O lm E):Calls Tryz.prog 20 #[ptrV sb] w fun e w'=>∃tb S,e=.returned (ptrV tb)∧theTree.Is w' tb t.1 t.2 S∧(∀k,S k→w.heap.size≤k)∧Below w.heap.size w w':=by
  have cC:=Ste.clone h.te;clear h;go_enter Tryz.func20,Tryz.ntmps20;go_wp2_with (go_at_call 35;refine cC.mono ?_;rintro e w1 ⟨tb,S,rfl,hi,hs,hb⟩;have HI:=Lib.hid hi;have HS:=Lib.hid hs;have HB:=Lib.hid hb;clear hi hs hb);go_ret
  first|exact⟨tb,S,rfl,HI.out,HS.out,HB.out⟩|exact⟨tb,rfl,S,HI.out,HS.out,HB.out⟩|exact⟨tb,rfl,⟨S,HI.out,HS.out⟩,HB.out⟩
theorem sroom_c (h:SL w B b sb n t rm O lm E):Calls Tryz.prog 18 #[ptrV sb] w fun e w'=>e=.returned (.int .i64 rm)∧Below w.heap.size w w':=by
  obtain⟨X,hV,_⟩:=h;have cC:=vl_room hV;clear hV;go_enter Tryz.func18,Tryz.ntmps18;go_wp2_with (go_at_call 43;refine cC.mono ?_;rintro e w1 ⟨rfl,hb⟩;have HB:=Lib.hid hb;clear hb);go_ret;exact⟨rfl,HB.out⟩
theorem sover_of (o:Bool)(hc:Calls Tryz.prog 32 #[ptrV sb] w fun e w'=>e=.returned (.bool o)∧w'=w):Calls Tryz.prog 12 #[ptrV sb] w fun e w'=>e=.returned (.bool o)∧Below w.heap.size w w':=by
  go_enter Tryz.func12,Tryz.ntmps12;go_wp2_with (go_at_call 32;refine hc.mono ?_;rintro e w1 ⟨rfl,rfl⟩);go_ret;exact⟨rfl,Below.refl _ _⟩
theorem ssync_of {Q:Int→World→Prop}(hc:Calls Tryz.prog 33 #[ptrV sb] w fun e w'=>∃q:Int,e=.returned (.int .i64 q)∧Q q w'):Calls Tryz.prog 13 #[ptrV sb] w fun e w'=>∃q:Int,e=.returned (.int .i64 q)∧Q q w':=by
  go_enter Tryz.func13,Tryz.ntmps13;go_wp2_with (go_at_call 33;refine hc.mono ?_;rintro e w1 ⟨q,rfl,hq⟩;have HQ:=Lib.hid hq;clear hq);go_ret;exact⟨q,rfl,HQ.out⟩
theorem img0_len:(imgI [] 1).length≤62:=by decide +kernel
set_option maxHeartbeats 2000000 in
theorem sformat_c (hd:V.Dev B w b (V.stNew n))(h4:4≤n)(hn:n≤400)(hB:B≤w.heap.size) :
    Calls Tryz.prog 29 #[ptrV b] w fun e w'=>e=.returned (.int .i64 0)∧KnD w' B b n ([],1) (((n/2:Nat):Int)-2) 1∧Below B w w'∧Spares w w':=by
  have cN:=theTree.new w;have CE:Hid (∀W bt S,theTree.Is W bt [] 1 S→Calls Tryz.prog 72 #[ptrV bt] W fun e w'=>e=.returned (.string ⟨(imgI [] 1).toArray⟩)∧Below W.heap.size W w'):=Lib.hid fun W bt S h=>encode_c h (by decide)
  have hl:=img0_len;have hp:=imgI_pos [] 1;have hsz:=size_bytes (imgI [] 1);have CF:Hid (∀W,Below w.heap.size w W→Calls Tryz.prog 71 #[ptrV b,.string ⟨(imgI [] 1).toArray⟩] W fun e w'=>e=.returned (.int .i64 0)∧KnD w' B b n ([],1) (((n/2:Nat):Int)-2) 1∧Below B w w'∧Spares w w'):=Lib.hid fun W hW=>by
    have hfr:((⟨(imgI [] 1).toArray⟩:ByteArray).size+61)/62=1:=by rw[hsz];omega
    have hfit:V.fitsI (n/2) 1 ⟨(imgI [] 1).toArray⟩=0:=by
      rw[fits_eq (by rw[hsz];exact hp) (by rw[hsz];omega),if_neg (by rw[hfr];omega)]
    refine(V.format_c (h:=n/2) ⟨(imgI [] 1).toArray⟩ (hd.below hW) (V.fmNew n hn) rfl hn (by rw[hsz];omega) (Nat.le_trans hB hW.size)).mono ?_;rintro e w' ⟨q,rfl,hb,ho,hx⟩;rcases hx with⟨h1,_⟩|⟨_,h1,h3,_⟩|⟨_,h1,_,st',h3,hL,_⟩
    · omega
    · rw[hfit]at h3;exact absurd h3.symm h1
    · refine⟨by rw[h1],⟨false,⟨(imgI [] 1).toArray⟩,[],st',h3,hL.kn rfl,Mounts.own goodTI_nil (by decide),?_⟩,(hW.mono hB).trans hb,(Spares.ofBelow hW).trans (sp_va ho)⟩;rw[V.layB_one,V.cut_len,hfr];omega
  generalize (⟨(imgI [] 1).toArray⟩:ByteArray)=s at *;clear hd hl hp hsz;go_enter Tryz.func29,Tryz.ntmps29;go_wp2_with (first
    | (go_at_call 73;refine cN.mono ?_;rintro e w1 ⟨bt,S,rfl,hi,hs,hb1⟩;have HI:=Lib.hid hi;have HB1:=Lib.hid hb1;clear hi hs hb1)
    | (go_at_call 72;refine(CE.out _ _ _ HI.out).mono ?_;rintro e w2 ⟨rfl,hb2⟩;have HB2:=Lib.hid (HB1.out.trans (hb2.mono HB1.out.size));clear hb2)
    | (go_at_call 71;refine(CF.out _ HB2.out).mono ?_;rintro e w3 ⟨rfl,hk⟩;have HK:=Lib.hid hk;clear hk))
  go_ret;exact⟨rfl,HK.out⟩
theorem cook_of {img:ByteArray}{rs:List ByteArray}(hm:Mounts (bl img) (rs.map bl) t)(ht:t.2≤9223372036854775000):∀A:TI,GoodTI A→A.2≤9223372036854775807→imgI A.1 A.2=bl img→A.2≤9223372036854775000:=fun A h1 h2 h3=>by
  have:=hm.cook A h1 h2 h3;omega
theorem rowAt_offB {W W':World}{v:Value}{l:List ByteArray}(h:V.RowAt B W v l)(ho:V.OffB W.heap.size W W'):V.RowAt B W' v l:=by
  rcases h with h|⟨g,off,cap,cur,hv,hB,h1,h2,hg,h3,h4⟩
  · exact Or.inl h
  · exact Or.inr ⟨g,off,cap,cur,hv,hB,h1,h2,ho _ (by decide) _ _ _ (lt_of_get hg) hg,h3,h4⟩
theorem sagain_c (h:SL w B b sb n t rm O false E)(ht:t.2≤9223372036854775000)(hB:B≤w.heap.size) :
    Calls Tryz.prog 27 #[ptrV b] w fun e w'=>∃sb2 t',e=.returned (.tuple #[ptrV sb2,.int .i64 0])∧SL w' B b sb n t rm (Like t) false E∧SL w' B b sb2 n t' rm (Like t') false E∧Like t t'∧Below B w w'∧Spares w w':=by
  obtain⟨X,⟨h',k,A,img,rs,r1,r2,st,rv,a1,rfl,hne,hm,hrm,hO⟩,hT⟩:=h;have hA:=a1.live.end_;refine(mountX_c a1.dev (a1.live.kn rfl) (cook_of hm ht) hB).mono ?_;rintro e w' ⟨⟨⟨hb,hs,ho⟩,st',hd',hl'⟩,⟨rfl,hno⟩|⟨sb2,rfl,t',hm',hL'⟩⟩
  · exact absurd hm (hno t)
  · rw[←hA]at hl' hL';refine⟨sb2,t',rfl,⟨X,⟨n/2,k,A,img,rs,img::rs,[],st',rv,⟨hl',hd',ho _ (by decide) _ _ _ (lt_of_get a1.vlt) a1.vlt,rowAt_offB a1.row ho,a1.hvb⟩,rfl,by simp,hm,hrm,fun u hu=>OutO.all rfl hm u hu⟩,hT.spares hs⟩,?_,hm.one hm',hb,hs⟩;rw[hrm];exact hL'
theorem smount_c {t0:TI}(h:KnD w B b n t0 rm E)(ht:t0.2≤9223372036854775000)(hB:B≤w.heap.size) :
    Calls Tryz.prog 27 #[ptrV b] w fun e w'=>∃sb t',e=.returned (.tuple #[ptrV sb,.int .i64 0])∧SL w' B b sb n t' rm (Like t') false E∧Like t0 t'∧Below B w w'∧Spares w w':=by
  obtain⟨k,img,rs,st,hd,hk,hm,hrm⟩:=h;refine(mountX_c hd hk (cook_of hm ht) hB).mono ?_;rintro e w' ⟨⟨⟨hb,hs,ho⟩,_⟩,⟨rfl,hno⟩|⟨sb2,rfl,t',hm',hL'⟩⟩
  · exact absurd hm (hno t0)
  · exact⟨sb2,t',rfl,by rw[hrm];exact hL',hm.one hm',hb,hs⟩
end
def theStore:StC where
  Live:=fun w B b sb n t rm O lm E=>SL w B b sb n t rm O lm E
  Over:=fun w B b sb n O E=>SD w B b sb n O E
  Kn:=fun w B b n t rm E=>KnD w B b n t rm E
  good:=by
    rintro w B b sb n t rm O lm E ⟨X,h,_⟩;exact h.good
  off:=by
    rintro w w' B b sb n t rm O lm E h ho _;exact SL.off h ho
  offO:=by
    rintro w w' B b sb n O E ⟨X,h⟩ ho _;exact⟨X,h.off ho⟩
  weak:=by
    rintro w B b sb n t rm O O' lm E ⟨X,h,hT⟩ hO;exact⟨X,h.weak hO,hT⟩
  weakO:=by
    rintro w B b sb n O O' E ⟨X,h⟩ hO;exact⟨X,h.weak hO⟩
  format:=by
    rintro w B b n hd h4 hn hB;exact sformat_c hd h4 hn hB
  mount:=by
    rintro w B b n t rm E h ht hB;exact smount_c h ht hB
  again:=by
    rintro w B b sb n t rm O E h ht hB;exact sagain_c h ht hB
  kn:=by
    rintro w B b sb n t rm O E ⟨X,h,_⟩;obtain⟨k,img,rs,st,h1,h2,h3,_⟩:=h.kn;exact⟨k,img,rs,st,t,h1,h2,h3,Like.refl t⟩
  mountOk:=by
    rintro w B b n k E img rs st t hd hk hm ht hB;refine(mountX_c hd hk (cook_of hm ht) hB).mono ?_;rintro e w' ⟨⟨⟨hb,hs,ho⟩,_⟩,⟨rfl,hno⟩|⟨sb2,rfl,t',hm',hL'⟩⟩
    · exact absurd hm (hno t)
    · exact⟨sb2,t',_,rfl,hL',hm.one hm',hb,hs⟩
  mountNo:=by
    rintro w B b n k E img rs st hd hk hno hck hB;refine(mountX_c hd hk hck hB).mono ?_;rintro e w' ⟨⟨⟨hb,hs,ho⟩,_⟩,⟨rfl,_⟩|⟨sb2,rfl,t',hm',hL'⟩⟩
    · exact⟨rfl,hb,hs⟩
    · exact absurd hm' (hno t')
  tree:=by
    rintro w B b sb n t rm O lm E h;exact stree_c h
  room:=by
    rintro w B b sb n t rm O lm E h;exact sroom_c h
  over:=by
    rintro w B b sb n t rm O lm E ⟨X,h,_⟩;exact sover_of false (vl_over h)
  overO:=by
    rintro w B b sb n O E ⟨X,h⟩;exact sover_of true (vd_over h)
  sync:=by
    rintro w B b sb n t rm O lm E ⟨X,h,hT⟩ hB;refine(ssync_of (vl_sync h hB)).mono ?_;rintro e w' ⟨q,rfl,⟨hb,hs⟩,⟨rfl,hv⟩|⟨rfl,hl,hv⟩⟩
    · exact⟨hb,hs,Or.inl ⟨rfl,X,hv,hT.spares hs⟩⟩
    · exact⟨hb,hs,Or.inr ⟨hl,rfl,X,hv⟩⟩
  syncO:=by
    rintro w B b sb n O E ⟨X,h⟩ hB;refine(ssync_of (Q:=fun q w'=>q=13∧Below w.heap.size w w') ((vd_sync h).mono fun e w' ⟨h1,h2⟩=>⟨13,h1,rfl,h2⟩)).mono ?_;rintro e w' ⟨q,rfl,rfl,hb⟩;exact⟨rfl,hb⟩
  do':=by
    rintro w B b sb n t rm O lm E x h hs hns ht hE hB;by_cases hm:May x
    · exact do_yes x h hm ht hE hB
    · exact do_no x h hm hB
  doO:=by
    rintro w B b sb n O E x h hB;exact do_over13 x h
  cut:=by
    rintro w B b sb n t rm O lm E N ⟨X,h,hT⟩ h1 h2;refine(h.cut h1 h2).mono ?_;rintro e w' ⟨he,hv,hb,hs⟩;exact⟨he,⟨X,hv,hT.spares hs⟩,hb,hs⟩
  cutO:=by
    rintro w B b sb n O E N ⟨X,h⟩ h1 h2;refine(h.cut h1 h2).mono ?_;rintro e w' ⟨he,hv,hb,hs⟩;exact⟨he,⟨X,hv⟩,hb,hs⟩
  restart:=by
    rintro w B b sb n t rm O lm E v l ⟨X,h,hT⟩ hv hl hB;exact h.restart v l hv hl hB
  restartO:=by
    rintro w B b sb n O E v l ⟨X,h⟩ hv hl hB;exact h.restart v l hv hl hB
end Go.Proofs.YtdmkhmeaphaapaaGreat
