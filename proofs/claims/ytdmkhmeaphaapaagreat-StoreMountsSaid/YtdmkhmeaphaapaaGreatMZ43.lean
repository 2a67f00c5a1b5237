/- Kit. -/
import Derived.Test.YtdmkhmeaphaapaaGreatMZ42
import Derived.Test.YtdmkhmeaphaapaaGreatMZ36
import Derived.Test.YtdmkhmeaphaapaaGreatMZ0
import Derived.Test.YtdmkhmeaphaapaaGreatMZ37
import Derived.Test.YtdmkhmeaphaapaaGreatMZ18
import Derived.Test.YtdmkhmeaphaapaaGreatMZ35
import Derived.Great.FillDense
import Derived.StillTailTactics
import Derived.Deep.MidRow
set_option maxRecDepth 100000
set_option linter.unusedVariables false
set_option linter.unusedSimpArgs false
namespace Go.Proofs.YtdmkhmeaphaapaaGreat
open Go.RowKit Go.Sort
theorem set_tail {a X Y:List Value}(ha:a.length=8)(hX:X.length=Y.length):(a++X).take 8++Y++(a++X).drop (8+Y.length)=a++Y:=by
 rw[List.take_append_of_le_length (by omega),CO (by omega),List.drop_eq_nil_of_le (by rw[Bg];omega),Ct]
section
variable {B b sb n:Nat}{X:List Value}{rm sz:Int}{O:TI→Prop}{lm:Bool}{E:Nat}{t:TI}{w w':World}
theorem VL.tH {Y:List Value}(h:VL X w B b sb n rm O lm E t)(hX:X.length=406)(hY:Y.length=406):VL Y (w.setCells sb 8 Y) B b sb n rm O lm E t∧V.Off V.CY w (w.setCells sb 8 Y)∧Below B w (w.setCells sb 8 Y):=by
 obtain⟨h',k,A,img,rs,r1,r2,st,rv,a1,a⟩:=h;have hv:w.heap[sb]?=some (.cells _ 98 (0,0)):=a1.KW;have ho:V.Off V.CY w (w.setCells sb 8 Y):=(V.Off.refl V.CY w).setCells hv (by decide) Y;refine⟨⟨h',k,A,img,rs,r1,r2,st,rv,⟨a1.live,a1.dev.off ((V.Off.refl [82,84,98] w).setCells hv (by simp) Y) (by decide) (by decide) (by decide),?_,a1.row.off ho,a1.hvb⟩,a⟩,ho,Below.setCells (Ad _ _) a1.hvb 8 Y⟩;have e:∀Q:List Value,V.WJ b (V.BF h' k) h' A E++([.string img,rv,.bool true]++Q)=(V.WJ b (V.BF h' k) h' A E++[.string img,rv,.bool true])++Q:=fun Q=>(Cc _ _ _).symm
 have h8:=Ch sb 98 Y 8 w (V.WJ b (V.BF h' k) h' A E++([.string img,rv,.bool true]++X)) a1.KW (by simp[V.WJ,hX,hY]);rw[e X,set_tail (by simp[V.WJ]) (by omega)]at h8;show(w.setCells sb 8 Y).heap[sb]?=_
 rw[h8,e Y]
def SL (w:World)(B b sb n:Nat)(t:TI)(rm:Int)(O:TI→Prop)(lm:Bool)(E:Nat):Prop:=∃X,VL X w B b sb n rm O lm E t∧Nb w X t.1 t.2
def SD (w:World)(B b sb n:Nat)(O:TI→Prop)(E:Nat):Prop:=∃X,VD X w B b sb n O E
theorem SL.below (h:SL w B b sb n t rm O lm E)(hb:Below w.heap.size w w'):SL w' B b sb n t rm O lm E:=by
 obtain⟨X,h1,h2⟩:=h;exact⟨X,h1.below hb,h2.keep (EB.Ar hb)⟩
theorem lM {x:De}(hx:(Eg t.1 t.2 x).2.2=0)(h:(Dw t sz rm x).2.2=0):(Dw t sz rm x).1.1=(Eg t.1 t.2 x).1∧(Dw t sz rm x).2.1=(Eg t.1 t.2 x).2.1:=by
 by_cases h1:Ay (Ac x)≤rm
 · rw[Oz hx h1];exact⟨rfl,rfl⟩
 · by_cases h2:sz<Ay (BI t.1 t.2)
   · rw[Wd hx h1 h2]at h;exact absurd h (by show ¬(11:Int)=0;decide)
   · by_cases h3:Ay (Ac x)≤sz-Ay (BI t.1 t.2)
     · rw[Oy hx h1 (by omega) h3];exact⟨rfl,rfl⟩
     · rw[Sa hx h1 (by omega) h3]at h;exact absurd h (by show ¬(11:Int)=0;decide)
theorem lQ {x:De}(h:(Dw t sz rm x).2.2≠0):(Dw t sz rm x).2.1=0:=by
 unfold Dw at h ⊢;split
 · rfl
 · rename_i h1;rw[if_neg h1]at h;split
   · rfl
   · rename_i h2;rw[if_neg h2]at h;split
     · rename_i h3;rw[if_pos h3]at h;exact absurd rfl h
     · rename_i h3;rw[if_neg h3]at h;split
       · rfl
       · rename_i h4;rw[if_neg h4]at h;split
         · rename_i h5;rw[if_pos h5]at h;exact absurd rfl h
         · rfl
def DoX (w:World)(B b sb n:Nat)(t:TI)(rm:Int)(O:TI→Prop)(lm:Bool)(E:Nat)(x:De)(e:Ending)(w':World):Prop:=
 Below B w w'∧Be w w'∧∃(O':TI→Prop) (E':Nat),E'≤E+1∧(∀u,O' u→O u∨CG t u∨CG (Dw t (((n/2:Nat):Int)-1) rm x).1.1 u) ∧
  ((e=.returned (.tuple #[.int .i64 (Dw t (((n/2:Nat):Int)-1) rm x).2.1,.int .i64 (Dw t (((n/2:Nat):Int)-1) rm x).2.2])∧SL w' B b sb n (Dw t (((n/2:Nat):Int)-1) rm x).1.1 (Dw t (((n/2:Nat):Int)-1) rm x).1.2 O' lm E') ∨
   (lm=true∧e=.returned (.tuple #[.int .i64 0,.int .i64 13])∧SD w' B b sb n O' E'))
abbrev eP (x:De):Obj:=.cells #[.int .i64 x.k,.int .i64 x.d,.int .i64 x.dt,.string x.s,.string x.ns,.bool x.Ba,.int .i64 x.sh] 38
set_option maxHeartbeats 4000000 in
theorem Aa2 (x:De)(hL:SL w B b sb n t rm O lm E)(hm:¬May x)(hB:B≤w.heap.size):Calls Tryz.prog 14 #[Aj sb,F7 x] w (DoX w B b sb n t rm O lm E x):=by
 unfold DoX;have hb0:Below w.heap.size w (w.alloc (eP x)):=(Ad _ _).alloc (Ae _) _;obtain⟨X,hV,hT⟩:=hL;have cO:=VV (hV.below hb0);have cE:=fun W=>Tw x W hm
 unfold TW F7 at cE;have hR:Dw t (((n/2:Nat):Int)-1) rm x=((t,rm),0,1):=by unfold Dw;rw[if_pos hm]
 have Xr:Hid (∀w',Below (w.alloc (eP x)).heap.size (w.alloc (eP x)) w'→Below B w w'∧Be w w'∧SL w' B b sb n t rm O lm E):=Aa fun w' hb=>by
  have h1:=hb0.trans (hb.mono hb0.size);exact⟨h1.mono hB,Be.Ar h1,SL.below ⟨X,hV,hT⟩ h1⟩
 have c0:=Av (Ai w (eP x));have cc:∀j v,#[Value.int .i64 x.k,.int .i64 x.d,.int .i64 x.dt,.string x.s,.string x.ns,.bool x.Ba,.int .i64 x.sh][j]?=some v→(w.alloc (eP x)).cell? ⟨w.heap.size,j,none⟩=some v:=fun j v h=>(c0 j).trans h
 have k0:=cc 0 _ rfl;have k1:=cc 1 _ rfl;have k2:=cc 2 _ rfl;have k3:=cc 3 _ rfl;have k4:=cc 4 _ rfl;have k5:=cc 5 _ rfl;have k6:=cc 6 _ rfl;rw[hR];unfold eP at *;clear c0 cc hV hT hb0 hR;obtain⟨k,d,dt,s,ns,Ba,shr⟩:=x;simp only[F7]at *;go_enter Tryz.func14,Tryz.ntmps14;go_upto_region 1 with fail;generalize (w.alloc (.cells #[.int .i64 k,.int .i64 d,.int .i64 dt,.string s,.string ns,.bool Ba,.int .i64 shr] 38))=W at *;go_wp2_with (first
  | (go_at_call 32;refine cO.mono ?_;rintro e w1 ⟨rfl,rfl⟩)
  | (go_at_call 34;refine(cE _).mono ?_;rintro e w2 ⟨rfl,hb2⟩;have HX:=Aa (Xr.out _ hb2);clear hb2))
 go_ret2;obtain⟨h1,h2,h3⟩:=HX.out;exact⟨h1,h2,O,E,by omega,fun u hu=>Or.inl hu,Or.inl ⟨rfl,h3⟩⟩
set_option maxHeartbeats 8000000 in
theorem zi (x:De)(hL:SL w B b sb n t rm O lm E)(hm:May x)(hx:t.2≤9223372036854775000)(hE:E≤1000000)(hB:B≤w.heap.size):Calls Tryz.prog 14 #[Aj sb,F7 x] w (DoX w B b sb n t rm O lm E x):=by
 unfold DoX;have hb0:Below w.heap.size w (w.alloc (eP x)):=(Ad _ _).alloc (Ae _) _;obtain⟨X,hV,hT⟩:=hL;have HV:=Aa hV;have HT:=Aa hT;have cO:=VV (hV.below hb0);have cE:=fun W=>Lf x W hm
 unfold Lp F7 at cE;have CC:Hid (∀W,Below w.heap.size w W→Calls Tryz.prog 35 #[QT sb] W fun e w'=>∃b2 S2,e=.returned (Aj b2)∧Bp.Is w' b2 t.1 t.2 S2∧(∀k,S2 k→W.heap.size≤k)∧Below W.heap.size W w'):=Aa fun W hW=>by
  obtain⟨F,S,A,img,rv,hv,_⟩:=(HV.out.below hW).at;exact xe.clone ((HT.out.keep (EB.Ar hW)).te hv)
 have CD:Hid (∀W b2 S2,Bp.Is W b2 t.1 t.2 S2→Calls Tryz.prog 36 #[Aj b2,F7 x] W (CQ Bp W b2 S2 (Eg t.1 t.2 x))):=Aa fun W b2 S2 hI=>YT Bp x hI (by omega)
 have CK:Hid ((Eg t.1 t.2 x).2.2=0→∀W,Below w.heap.size w W→Calls Tryz.prog 37 #[Aj sb,.string ⟨(Ac x).toArray⟩] W fun e w'=>∃q:Int,e=.returned (.int .i64 q)∧jY X W B b sb n (((n/2:Nat):Int)-1) rm O lm E t x q w'):=Aa fun h0 W hW=>yx x (HV.out.below hW) (HT.out.keep (EB.Ar hW)) h0 (by omega) hE rfl (Al hB hW.size)
 have JK:Hid (∀W,Below (w.alloc (eP x)).heap.size (w.alloc (eP x)) W→W.heap[w.heap.size]?=some (eP x)):=Aa fun W hW=>by
  rw[hW.block w.heap.size (by simp)];exact Ai _ _
 have bJ:Hid (∀W:World,W.heap[w.heap.size]?=some (eP x)→W.cell? ⟨w.heap.size,0,none⟩=some (.int .i64 x.k)∧W.cell? ⟨w.heap.size,1,none⟩=some (.int .i64 x.d)∧W.cell? ⟨w.heap.size,2,none⟩=some (.int .i64 x.dt)∧W.cell? ⟨w.heap.size,3,none⟩=some (.string x.s)∧W.cell? ⟨w.heap.size,4,none⟩=some (.string x.ns)∧W.cell? ⟨w.heap.size,5,none⟩=some (.bool x.Ba)∧W.cell? ⟨w.heap.size,6,none⟩=some (.int .i64 x.sh)):=Aa fun W h=>⟨Av h 0,Av h 1,Av h 2,Av h 3,Av h 4,Av h 5,Av h 6⟩
 have HM:=Aa hm;have HX0:=Aa hx;have xE:=Aa hE;have HB0:=Aa hb0;obtain⟨k0,k1,k2,k3,k4,k5,k6⟩:=bJ.out _ (JK.out _ (Ad _ _));obtain⟨s0,hs0⟩:∃s0:ByteArray,(⟨(Ac x).toArray⟩:ByteArray)=s0:=⟨_,rfl⟩;obtain⟨R,hR⟩:∃R,Eg t.1 t.2 x=R:=⟨_,rfl⟩;have HR:=Aa hR;rw[hs0]at cE CK;rw[hR]at CD CK;clear hV hT hb0 hm hx hE hs0 hR;obtain⟨Z,hZ⟩:∃Z,Dw t (((n/2:Nat):Int)-1) rm x=Z:=⟨_,rfl⟩;have HZ:=Aa hZ;rw[hZ];clear hZ;obtain⟨XX,hXX⟩:∃XX,x=XX:=⟨_,rfl⟩;have HXX:=Aa hXX;rw[hXX]at HM HR HZ;have CK2:Hid (R.2.2=0→∀W,Below w.heap.size w W→Calls Tryz.prog 37 #[Aj sb,.string s0] W fun e w'=>∃q:Int,e=.returned (.int .i64 q)∧jY X W B b sb n (((n/2:Nat):Int)-1) rm O lm E t XX q w'):=Aa (by rw[←hXX];exact CK.out);clear CK hXX HXX;unfold CQ F7 at CD;unfold eP at *;obtain⟨k,d,dt,s,ns,Ba,shr⟩:=x;simp only[F7]at k0 k1 k2 k3 k4 k5 k6 cE ⊢;go_enter Tryz.func14,Tryz.ntmps14;go_upto_region 1 with fail;generalize (w.alloc (.cells #[.int .i64 k,.int .i64 d,.int .i64 dt,.string s,.string ns,.bool Ba,.int .i64 shr] 38))=W at *;go_upto_region 7 with(first
  | (go_at_call 32;refine cO.mono ?_;rintro e w1 ⟨rfl,rfl⟩)
  | (go_at_call 34;refine(cE _).mono ?_;rintro e w2 ⟨rfl,hb2⟩;have HB2:=Aa hb2;clear hb2)
  | (go_at_call 35;refine(CC.out _ (HB0.out.trans (HB2.out.mono HB0.out.size))).mono ?_;rintro e w3 ⟨b2,S2,rfl,hi2,hs2,hb3⟩;have HI3:=Aa hi2;have xu:=Aa hs2;have HB3:=Aa hb3;clear hi2 hs2 hb3))
 clear k0 k1 k2 k3 k4 k5 k6 cO cE;have cD:=CD.out _ b2 S2 HI3.out
 try simp only at cD
 obtain⟨k0,k1,k2,k3,k4,k5,k6⟩:=bJ.out _ (JK.out _ (HB2.out.trans (HB3.out.mono HB2.out.size)))
 try simp only at k0 k1 k2 k3 k4 k5 k6
 go_upto_region 8 with(go_at_call 36;refine cD.mono ?_;rintro e w4 ⟨S4,rfl,hi4,wL⟩;have HI4:=Aa hi4;have kC:=Aa wL;clear hi4 wL);clear k0 k1 k2 k3 k4 k5 k6 cD;have u6:=HB0.out.trans (HB2.out.mono HB0.out.size);have yY:=u6.trans (HB3.out.mono u6.size);have hlow:=kC.out.low yY.size (fun k hk=>Al u6.size (xu.out k hk));have KT:Hid (Below w.heap.size w w4):=Aa (yY.trans hlow.1);clear u6 yY hlow bJ JK CD CC HB2 HB3 xu HI3 kC;have hno:R.2.2≠0→(Eg t.1 t.2 XX).2.2≠0:=fun h=>by rw[HR.out];exact h
 have Zk:=Aa hno;clear hno;by_cases h0:R.2.2=0
 · have cK:=CK2.out h0 w4 KT.out;have hHH:=Aa h0;obtain⟨⟨⟨l5,nx5⟩,n5⟩,rfl⟩:∃r:(TI×Int),R=(r.1,r.2,0):=⟨(R.1,R.2.1),by rw[←h0]⟩;clear h0 hHH
   try simp only at HI4 cK ⊢
   go_upto_region 11 with(go_at_call 37;refine cK.mono ?_;rintro e w5 ⟨q,rfl,hq⟩;have HQ:=Aa hq;clear hq);clear cK;by_cases hq:q=0
   · subst hq;have hdx:(Eg t.1 t.2 XX).2.2=0:=by rw[HR.out]
     obtain⟨⟨hbq,hsq⟩,O',E',hE',wV,⟨hz,hV5⟩|⟨Ka,_⟩⟩:=HQ.out;rotate_left
     · exact absurd Ka (by decide)
     obtain⟨hz1,hz2⟩:=lM hdx hz.symm;have hI5:=fJ HI4.out hsq hbq.size;obtain⟨cs,hc,hcs,hone,hT5⟩:=Nb.of hI5;have hXl:=HT.out.len;obtain⟨hV6,ho6,hb6⟩:=hV5.tH (Y:=cs.toList) hXl (by rw[BP];exact hcs);have hld:(Instr.loadAt 96 (.pointer (some ⟨b2,0,none⟩))).run Tryz.prog w5=.ok (.agg cs) w5:=by
      have:=run_loadAt_mid (P:=Tryz.prog) w5 b2 0 96 cs.toList _ (fun j x hx=>by
       rw[Gl,AB _ _ _ _ _ _ hc,←Array.getElem?_toList];exact hx) Tryz.underlying96 rfl (by rw[BP,hcs];exact Tryz.Jc)
      rwa[Array.toArray_toList]at this
     obtain⟨F,S,A,img,rv,hv,_⟩:=hV5.at;have hst:(Instr.storeAt 96 (.pointer (some ⟨sb,8,none⟩)) (.agg cs)).run Tryz.prog w5=.ok () (w5.setCells sb 8 cs.toList):=
      run_storeAt_mid (P:=Tryz.prog) w5 sb 8 96 cs (C9 hv 8 cs.size (by rw[hcs];simp[V.WJ,hXl])) (by rw[hcs];exact Tryz.Jc) hone
     have AaC:(storeCells ⟨sb,8,none⟩ cs.toList 0).run Tryz.prog w5=.ok () (w5.setCells sb 8 cs.toList):=by
      have AaB:=C9 hv 8 cs.size (by rw[hcs];simp[V.WJ,hXl]);have:=run_storeCells_cells (P:=Tryz.prog) sb 8 cs.toList 0 w5 (fun j hj=>by simpa using (AaB j (by simpa using hj)).1) (fun j hj=>by simpa using (AaB j (by simpa using hj)).2) (fun v hv=>(Array.all_eq_true_iff_forall_mem.1 hone) v (by simpa using hv));simpa only[Nat.add_zero]using this
     have EZ:Hid (Below B w (w5.setCells sb 8 cs.toList)∧Be w (w5.setCells sb 8 cs.toList)∧∃(O':TI→Prop) (E':Nat),E'≤E+1∧(∀u,O' u→O u∨CG t u∨CG Z.1.1 u)∧n5=Z.2.1∧Z.2.2=0∧SL (w5.setCells sb 8 cs.toList) B b sb n Z.1.1 Z.1.2 O' lm E'):=Aa (by
      rw[HZ.out]at hz hz1 hz2 hV6 wV;rw[HR.out]at hz1 hz2;refine⟨((KT.out.mono hB).trans hbq).trans hb6,((Be.Ar KT.out).trans hsq).trans (Ou ho6),O',E',hE',wV,hz2.symm,hz.symm,cs.toList,hV6,?_⟩;rw[hz1];exact hT5.II (Ou ho6))
     clear hdx hbq hsq hz hV5 hz1 hz2 hI5 hone hT5 hV6 ho6 hb6 hv hc wV hE' hXl;go_wp2_with (first
      | ((with_reducible refine Jl 96 _ (.pointer (some ⟨b2,0,none⟩)) (.agg cs) ?_ ?_ ?_);exact rfl;exact hld)
      | ((with_reducible refine UC 96 _ _ (.pointer (some ⟨sb,8,none⟩)) (.agg cs) ?_ ?_ ?_ ?_);exact rfl;exact rfl;exact hst))
     go_ret2;obtain⟨h1,h2,O',E',h3,h4,h5,h6,h7⟩:=EZ.out;exact⟨h1,h2,O',E',h3,h4,Or.inl ⟨by rw[h5,h6];rfl,h7⟩⟩
   · have hqz:(q==0)=false:=A8.2 hq;have EZ:Hid (Below B w w5∧Be w w5∧∃(O':TI→Prop) (E':Nat),E'≤E+1∧(∀u,O' u→O u∨CG t u∨CG Z.1.1 u)∧((0=Z.2.1∧q=Z.2.2∧SL w5 B b sb n Z.1.1 Z.1.2 O' lm E')∨(lm=true∧q=13∧SD w5 B b sb n O' E'))):=Aa (by
      obtain⟨⟨hbq,hsq⟩,O',E',hE',wV,h⟩:=HQ.out;refine⟨(KT.out.mono hB).trans hbq,(Be.Ar KT.out).trans hsq,O',E',hE',by rw[HZ.out]at wV;exact wV,?_⟩;rcases h with⟨hz,hV5⟩|⟨Ka,hl,hD⟩
      · have hz9:(Dw t (((n/2:Nat):Int)-1) rm XX).2.2≠0:=by rw[←hz];exact hq
        have h1:=tJ hz9;have h2:=lQ hz9;rw[HZ.out]at hz h1 h2 hV5;refine Or.inl ⟨h2.symm,hz,X,hV5,?_⟩;rw[h1];exact(HT.out.keep (EB.Ar KT.out)).II hsq
      · exact Or.inr ⟨hl,Ka,X,hD⟩)
     clear hq;go_wp2;go_ret2;obtain⟨h1,h2,O',E',h3,h4,⟨h5,h6,h7⟩|⟨h5,h6,h7⟩⟩:=EZ.out
     · exact⟨h1,h2,O',E',h3,h4,Or.inl ⟨by rw[←h5,←h6];rfl,h7⟩⟩
     · exact⟨h1,h2,O',E',h3,h4,Or.inr ⟨h5,by rw[h6];rfl,h7⟩⟩
 · have hqz:(R.2.2==0)=false:=A8.2 h0;have EZ:Hid (Z=((t,rm),0,R.2.2)∧SL w4 B b sb n t rm O lm E∧Below B w w4∧Be w w4):=Aa ⟨by
    rw[←HZ.out];unfold Dw;rw[if_neg (by simpa using HM.out),if_pos (Zk.out h0),HR.out],SL.below ⟨X,HV.out,HT.out⟩ KT.out,KT.out.mono hB,Be.Ar KT.out⟩
   clear h0;go_wp2;go_ret2;obtain⟨h1,h2,h3,h4⟩:=EZ.out;rw[h1];exact⟨h3,h4,O,E,by omega,fun u hu=>Or.inl hu,Or.inl ⟨rfl,h2⟩⟩
theorem jk (x:De)(hD:SD w B b sb n O E):Calls Tryz.prog 14 #[Aj sb,F7 x] w fun e w'=>e=.returned (.tuple #[.int .i64 0,.int .i64 13])∧Below w.heap.size w w':=by
 have hb0:Below w.heap.size w (w.alloc (eP x)):=(Ad _ _).alloc (Ae _) _;have HB0:=Aa hb0;obtain⟨X,hV⟩:=hD;have cO:=bQ (hV.below hb0);clear hV hb0;unfold eP at *;obtain⟨k,d,dt,s,ns,Ba,shr⟩:=x;simp only[F7]at *;go_enter Tryz.func14,Tryz.ntmps14;go_upto_region 1 with fail;generalize (w.alloc (.cells #[.int .i64 k,.int .i64 d,.int .i64 dt,.string s,.string ns,.bool Ba,.int .i64 shr] 38))=W at *;go_wp2_with (go_at_call 32;refine cO.mono ?_;rintro e w1 ⟨rfl,rfl⟩);go_ret2;exact⟨rfl,HB0.out⟩
end
def IQ (t:TI)(L:List UInt8):TI×Int:=if(EA L).2=0 then((Eg t.1 t.2 (EA L).1).1,(Eg t.1 t.2 (EA L).1).2.2) else(t,2)
def PN:TI→List (List UInt8)→Option TI
 | t,[]=>some t
 | t,L::r=>if(IQ t L).2=0 then PN (IQ t L).1 r else none
theorem qf {L:List UInt8}(h:(EA L).2=0):May (EA L).1∧Ac (EA L).1=L:=by
 unfold EA at h ⊢;split
 · assumption
 · rename_i hc;rw[if_neg hc]at h;exact absurd h (by decide)
theorem vK {x:De}(h:May x):EA (Ac x)=(x,0):=by
 have hd:NU (Ac x)=x:=by
  have h1:=Lg x h [];rwa[Ct]at h1
 unfold EA;rw[hd,if_pos ⟨h,rfl⟩]
theorem gJ (t:TI)(L:List UInt8):t.2≤(IQ t L).1.2∧(IQ t L).1.2≤t.2+1:=by
 unfold IQ;split
 · exact O9 t _
 · exact⟨Int.le_refl _,by show t.2≤t.2+1;omega⟩
theorem UW {x:De}(h:May x)(t:TI):IQ t (Ac x)=((Eg t.1 t.2 x).1,(Eg t.1 t.2 x).2.2):=by
 unfold IQ;rw[vK h,if_pos rfl]
theorem Sd:∀(ds:List De) (t:TI),(∀x∈ds,May x)→PN t (ds.map Ac)=IZ t ds
 | [],t,_=>rfl
 | x::ds,t,h=>by
  rw[List.map_cons];unfold PN;rw[UW (h x (List.mem_cons_self ..)),I9,Sd ds _ (fun y hy=>h y (List.mem_cons_of_mem _ hy))]
theorem UO:∀{rs:List (List UInt8)} {t u:TI},PN t rs=some u→∃ds:List De,rs=ds.map Ac∧(∀x∈ds,May x)∧IZ t ds=some u
 | [],t,u,h=>⟨[],rfl,fun x hx=>(by cases hx),h⟩
 | L::rs,t,u,h=>by
  unfold PN at h;split at h
  · rename_i h0;obtain⟨ds,e1,e2,e3⟩:=UO h;have hd:(EA L).2=0:=by
     unfold IQ at h0;split at h0
     · assumption
     · exact absurd h0 (by show ¬(2:Int)=0;decide)
    obtain⟨m1,m2⟩:=qf hd;have hr:=UW m1 t;rw[m2]at hr;rw[hr]at h0 e3;refine⟨(EA L).1::ds,by rw[List.map_cons,m2,←e1],fun x hx=>?_,?_⟩
    · rcases Er.1 hx with rfl|hx
      · exact m1
      · exact e2 x hx
    · rw[I9,if_pos h0];exact e3
  · cases h
theorem XN {A t:TI}{img:List UInt8}{rs:List (List UInt8)}(hg:Cq A)(hx:A.2≤9223372036854775807)(hi:BI A.1 A.2=img)(h:PN A rs=some t):Cg img rs t:=by
 obtain⟨ds,e1,e2,e3⟩:=UO h;exact⟨A,ds,hg,hx,hi,e1,e2,e3⟩
theorem tQ {A:TI}{img:List UInt8}{rs:List (List UInt8)}(hg:Cq A)(hx:A.2≤9223372036854775807)(hi:BI A.1 A.2=img)(h:PN A rs=none):G8 img rs:=by
 rintro u ⟨C,ds,c1,c2,c3,c4,c5,c6⟩;obtain⟨e1,_,e2⟩:=RJ hg c1 hx c2 (c3.trans hi.symm);rcases PO ds ⟨e2,e1.symm⟩ hg c1 with⟨_,h2⟩|⟨x,y,h1,h2,h3⟩
 · rw[h2]at c6;cases c6
 · rw[c4,Sd ds A c5,h1]at h;cases h
section
variable {w:World}{b:Nat}{l:List Az}{nx:Int}{S:Nat→Prop}
set_option maxHeartbeats 4000000 in
theorem xW (L:List UInt8)(h:Bp.Is w b l nx S)(hL:L.length≤9223372036854775807)(hnx:nx+1≤9223372036854775807) :
 Calls Tryz.prog 105 #[Aj b,.string ⟨L.toArray⟩] w fun e w'=>∃S',e=.returned (.int .i64 (IQ (l,nx) L).2)∧Bp.Is w' b (IQ (l,nx) L).1.1 (IQ (l,nx) L).1.2 S'∧Trod w w' S S':=by
 have cD:=YU L w hL;unfold Ha F7 at cD;obtain⟨R,hR⟩:∃R,IQ (l,nx) L=R:=⟨_,rfl⟩;rw[hR];unfold IQ at hR;have hq2:(EA L).2=0∨(EA L).2=2:=by
  unfold EA;split<;>simp
 obtain⟨⟨⟨k,d,dt,s,ns,Ba,shr⟩,q⟩,hA⟩:∃A,EA L=A:=⟨_,rfl⟩;rw[hA]at cD hR hq2;simp only at cD hR hq2;have J4:=Aa hq2;generalize (⟨L.toArray⟩:ByteArray)=text at *;have HR:=Aa hR;have HT:=Aa h;clear hR h hA hq2;go_enter Tryz.func105,Tryz.ntmps105;go_upto_region 2 with(go_at_call 26;refine cD.mono ?_;rintro e w1 ⟨rfl,hb1⟩;have HB1:=Aa hb1;clear hb1);have HB2:Hid (Below w.heap.size w (w1.alloc (.cells #[.int .i64 k,.int .i64 d,.int .i64 dt,.string s,.string ns,.bool Ba,.int .i64 shr] 38))):=Aa (HB1.out.alloc HB1.out.size _);have hc:=Ai w1 (.cells #[.int .i64 k,.int .i64 d,.int .i64 dt,.string s,.string ns,.bool Ba,.int .i64 shr] 38);generalize (w1.alloc (.cells #[.int .i64 k,.int .i64 d,.int .i64 dt,.string s,.string ns,.bool Ba,.int .i64 shr] 38))=W at *;obtain⟨k0,k1,k2,k3,k4,k5,k6⟩:W.cell? ⟨w1.heap.size,0,none⟩=some (.int .i64 k)∧W.cell? ⟨w1.heap.size,1,none⟩=some (.int .i64 d)∧W.cell? ⟨w1.heap.size,2,none⟩=some (.int .i64 dt)∧W.cell? ⟨w1.heap.size,3,none⟩=some (.string s)∧W.cell? ⟨w1.heap.size,4,none⟩=some (.string ns)∧W.cell? ⟨w1.heap.size,5,none⟩=some (.bool Ba)∧W.cell? ⟨w1.heap.size,6,none⟩=some (.int .i64 shr):=⟨Av hc 0,Av hc 1,Av hc 2,Av hc 3,Av hc 4,Av hc 5,Av hc 6⟩;clear hc cD HB1;by_cases h0:q=0
 · subst h0;have cO:=YT Bp ⟨k,d,dt,s,ns,Ba,shr⟩ (Bp.below HT.out HB2.out) hnx;unfold CQ F7 at cO;have HR2:Hid (Eg l nx ⟨k,d,dt,s,ns,Ba,shr⟩=(R.1,(Eg l nx ⟨k,d,dt,s,ns,Ba,shr⟩).2.1,R.2)):=Aa (by
    have h9:=HR.out;rw[if_pos rfl]at h9;rw[←h9])
   obtain⟨n9,uU⟩:∃n9,(Eg l nx ⟨k,d,dt,s,ns,Ba,shr⟩).2.1=n9:=⟨_,rfl⟩;rw[uU]at HR2;rw[HR2.out]at cO;simp only at cO;clear uU HR HR2;go_wp2_with (go_at_call 36;refine cO.mono ?_;rintro e w2 ⟨S2,rfl,hi2,ht2⟩;have HI2:=Aa hi2;have HT2:=Aa ht2;clear hi2 ht2);go_ret;exact⟨S2,rfl,HI2.out,(Trod.of_below HB2.out).trans HT2.out⟩
 · have hqz:(q==0)=false:=A8.2 h0;have HR2:Hid (R=((l,nx),2)):=Aa (by
    have h9:=HR.out;rw[if_neg h0]at h9;exact h9.symm)
   have HQ:Hid (q=2):=Aa (J4.out.resolve_left h0);clear h0 HR;go_wp2;go_ret;rw[HR2.out,HQ.out];exact⟨S,rfl,Bp.below HT.out HB2.out,Trod.of_below HB2.out⟩
end
theorem eU (s:ByteArray):(⟨(bl s).toArray⟩:ByteArray)=s:=by
 unfold bl;rw[Array.toArray_toList]
def AbV (img:ByteArray)(rs:List ByteArray)(w w':World)(b:Nat):Prop:=∃(t:TI) (S:Nat→Prop),Bp.Is w' b t.1 t.2 S∧(∀k,S k→w.heap.size≤k)∧Cg (bl img) (rs.map bl) t
def vQ (img:ByteArray)(rs:List ByteArray)(w:World)(e:Ending)(w':World):Prop:=
 Below w.heap.size w w'∧((∃q:Int,q≠0∧e=.returned (.tuple #[.pointer none,.int .i64 q])∧G8 (bl img) (rs.map bl)) ∨
  (∃b:Nat,e=.returned (.tuple #[Aj b,.int .i64 0])∧AbV img rs w w' b))
set_option maxHeartbeats 8000000 in
theorem lZ (img:ByteArray)(rs:List ByteArray)(v:Value)(w:World)(hv:V.DL w v rs)(hi:img.size≤9223372036854775807)(hs:∀s∈rs,s.size≤60000)(hn:rs.length≤400)(hck:∀A:TI,Cq A→A.2≤9223372036854775807→BI A.1 A.2=bl img→A.2≤9223372036854775000) :
 Calls Tryz.prog 61 #[.string img,v] w (vQ img rs w):=by
 unfold vQ;have cI:=jC (bl img) w (by show img.data.toList.length≤_;rw[BP];exact hi);rw[eU]at cI;unfold bC at cI;obtain⟨n,hnl⟩:∃n,rs.length=n:=⟨_,rfl⟩;obtain⟨a,cap,rfl⟩:∃a cap,v=.slice a n cap:=by
  rcases hv with⟨rfl,a,cap,rfl⟩|⟨g,off,cap,_,rfl,_⟩
  · exact⟨a,cap,by rw[←hnl];rfl⟩
  · exact⟨_,cap,by rw[hnl]⟩
 have HV:=Aa hv;have HN:=Aa hnl;have HS:=Aa hs;have HCK:=Aa hck;rw[hnl]at hn;clear hv hnl hs hck hi;go_enter Tryz.func61,Tryz.ntmps61;go_upto_region 2 with(go_at_call 104;refine cI.mono ?_;rintro e w1 h1;have H1:=Aa h1;rcases h1 with⟨rfl,_⟩|⟨b,A,nx,S,rfl,_⟩)
 · obtain⟨hb1,hno⟩:Below w.heap.size w w1∧TP (bl img):=by
    rcases H1.out with⟨_,h1,h2⟩|⟨b,A,nx,S,h1,_⟩
    · exact⟨h1,h2⟩
    · exact absurd h1 (by simp)
   have HF:=Aa (And.intro hb1 (mX (rs:=rs.map bl) hno));clear hb1 hno cI H1;go_wp2;go_ret2;exact⟨HF.out.1,Or.inl ⟨2,by decide,rfl,HF.out.2⟩⟩
 · obtain⟨A,nx,S,hI,hS,hb1,Na,hnx⟩:∃A nx S,Bp.Is w1 b A nx S∧(∀k,S k→w.heap.size≤k)∧Below w.heap.size w w1∧BI A nx=bl img∧nx≤9223372036854775807:=by
    rcases H1.out with⟨h1,_⟩|⟨b',A,nx,S,h1,h2,h3,h4,h5,h6⟩
    · exact absurd h1 (by simp)
    · injection h1 with h1;simp at h1;obtain rfl:=h1;exact⟨A,nx,S,h2,h3,h4,h5,h6⟩
   have hgood:Cq (A,nx):=bV hI;have hck:=HCK.out (A,nx) hgood hnx Na;have HI1:=Aa hI;have Uw:=Aa hS;have HB1:=Aa hb1;have HIM:=Aa Na;have HG:=Aa hgood;have HNX:=Aa hnx;have Aci:Hid (nx≤9223372036854775000):=Aa hck;clear hI hS hb1 Na hgood hnx hck H1 cI;go_wp2_with fail;go_loopw [21] (fun iv wr=>∃i:Nat,i≤n∧iv=.int .i64 i∧∃(T:TI) (S:Nat→Prop),Bp.Is wr b T.1 T.2 S∧(∀k,S k→w.heap.size≤k)∧Below w.heap.size w wr∧PN (A,nx) (rs.map bl)=PN T ((rs.drop i).map bl)∧T.2≤nx+i) (fun iv _=>n-(intOf iv).toNat)
   case atStart=>exact⟨0,Nat.zero_le _,rfl,(A,nx),S,HI1.out,Uw.out,HB1.out,rfl,by simp⟩
   case round =>
    obtain⟨i,hin,rfl,T,S',hI,hS,hb,hrun,hT⟩:=hrel;have HI:=Aa hI;have HS2:=Aa hS;have HB:=Aa hb;have Abc:=Aa hrun;have HTX:=Aa hT;clear hI hS hb hrun hT;by_cases hlt:i<n
    · have hiz:(i:Int)<(n:Int):=by omega
      have hi0:(0:Int)≤(i:Int):=by omega
      obtain⟨s,hsi⟩:∃s,rs[i]?=some s:=⟨_,Ci (by rw[HN.out];exact hlt)⟩;have hvr:=V.DL.kept HV.out HB.out;obtain⟨g,off,rfl,hc⟩:∃g off,a=some ⟨g,off,none⟩∧wr.cell? ⟨g,off+i,none⟩=some (.string s):=by
       rcases hvr with⟨h1,_⟩|⟨g,off,cap',_,h1,h2⟩
       · rw[h1]at hsi;cases hsi
       · injection h1 with h1 _ _;exact⟨g,off,h1,h2 i s hsi⟩
      have hsz:=HS.out s (Dr hsi);have cR:=xW (bl s) HI.out (by show s.data.toList.length≤_;rw[BP];exact Al hsz (by omega)) (by have:=HTX.out;have:=Aci.out;omega);rw[eU]at cR;have hdrop:(rs.drop i).map bl=bl s::(rs.drop (i+1)).map bl:=by
       have:rs.drop i=s::rs.drop (i+1):=by
        have h9:=List.drop_eq_getElem_cons (l:=rs) (i:=i) (by rw[HN.out];exact hlt);rw[Ci (by rw[HN.out];exact hlt)]at hsi;rw[h9,Cm hsi]
       rw[this];rfl
      have HDR:Hid (PN (A,nx) (rs.map bl)=if(IQ T (bl s)).2=0 then PN (IQ T (bl s)).1 ((rs.drop (i+1)).map bl) else none):=Aa (by rw[Abc.out,hdrop];rfl);have HGR:=Aa (gJ T (bl s));have hTe:(T.1,T.2)=T:=rfl;rw[hTe]at cR;generalize IQ T (bl s)=Q at *;clear hvr hsi hsz hdrop hTe;go_upto_region 8 with(go_at_call 105;refine cR.mono ?_;rintro e w3 ⟨S3,rfl,hi3,ht3⟩;have HI3:=Aa hi3;have HT3:=Aa ht3;clear hi3 ht3);have hlow:=HT3.out.low HB.out.size HS2.out;have HB3:Hid (Below w.heap.size w w3):=Aa (HB.out.trans hlow.1);have xu:=Aa hlow.2;clear hlow cR hc;by_cases hq:Q.2=0
      · have HRU:Hid (PN (A,nx) (rs.map bl)=PN Q.1 ((rs.drop (i+1)).map bl)):=Aa (by rw[HDR.out,if_pos hq]);clear HDR;go_wp2;go_roundw
        case rel=>exact⟨i+1,by omega,by first|rfl|go_num,Q.1,S3,HI3.out,xu.out,HB3.out,HRU.out,by have:=HGR.out.2;have:=HTX.out;omega⟩
        case measure=>simp[intOf];omega
      · have hqz:(Q.2==0)=false:=A8.2 hq;have HF:Hid (Q.2≠0∧G8 (bl img) (rs.map bl)):=Aa ⟨hq,tQ HG.out HNX.out HIM.out (by rw[HDR.out,if_neg hq])⟩;clear hq;go_wp2;go_ret2;exact⟨HB3.out,Or.inl ⟨_,HF.out.1,rfl,HF.out.2⟩⟩
    · have hiz:¬(i:Int)<(n:Int):=by omega
      have HF:Hid (Cg (bl img) (rs.map bl) T):=Aa (XN HG.out HNX.out HIM.out (by rw[Abc.out,Jk (by rw[HN.out];omega)];rfl));go_wp2;go_ret2;exact⟨HB.out,Or.inr ⟨b,rfl,T,S',HI.out,HS2.out,HF.out⟩⟩
def Nv:Array Value:=(([.pointer none,.int .i64 0,.int .i64 0,.int .i64 0,.int .u64 0,.string ⟨#[]⟩,.slice none 0 0,.bool false]:List Value)++(Gq 201++([.int .i64 0,.int .i64 0,.slice none 0 0,.int .i64 0]:List Value))).toArray
theorem LP:Nv.size=414:=by
 unfold Nv;rw[FN,Bg,Bg,Ez];rfl
theorem jQ (parts:List (Nat×Value)):Tryz.prog.built 98 parts=Instr.fill ((#[(0,8),(8,406)]:Array (Nat×Nat))[·]?) Nv parts:=by kernel_rfl
theorem pE (v8:List Value)(cs:Array Value)(h8:v8.length=8)(hc:cs.size=406):Instr.fill ((#[(0,8),(8,406)]:Array (Nat×Nat))[·]?) Nv [(0,.agg v8.toArray),(1,.agg cs)]=some (v8++cs.toList).toArray:=by
 have h1:(Value.agg v8.toArray).cells=v8.toArray:=rfl;have h2:(Value.agg cs).cells=cs:=rfl;have hl:cs.toList.length=406:=by rw[BP];exact hc
 obtain⟨f1,f2⟩:=Go.Great.foldl_set 0 v8 0 Nv;obtain⟨g1,g2⟩:=Go.Great.foldl_set 8 cs.toList 0 ((v8.zipIdx 0).foldl (fun cs (x:Value×Nat)=>cs.setIfInBounds (0+x.2) x.1) Nv);unfold Instr.fill;simp only[List.getElem?_toArray,List.getElem?_cons_zero,h1];rw[if_neg (by simp[h8,LP])];unfold Instr.fill;simp only[List.getElem?_cons_succ,List.getElem?_cons_zero,h2];rw[←Array.foldl_toList,Array.toList_zipIdx,Ih];generalize (List.foldl (fun cs (x:Value×Nat)=>cs.setIfInBounds (0+x.2) x.1) Nv v8.zipIdx)=Z at *;rw[LP]at f1 f2;rw[h8]at f2;rw[hl,f1]at g2;rw[if_neg (by rw[f1,hc];decide)];unfold Instr.fill;congr 1;rw[←Array.foldl_toList,Array.toList_zipIdx];apply Array.ext_getElem?;intro j;refine Eq.trans (g2 j) ?_;refine Eq.trans ?_ (Gd (xs:=v8++cs.toList) (i:=j)).symm;by_cases hj:8+0≤j∧j<8+0+406∧j<414
 · rw[if_pos hj,List.getElem?_append_right (by omega),h8]
 · rw[if_neg hj,f2 j];by_cases hj0:0+0≤j∧j<0+0+8∧j<414
   · rw[if_pos hj0,LM (by omega)];rfl
   · rw[if_neg hj0,Array.getElem?_eq_none (by rw[LP];omega),List.getElem?_eq_none (by rw[Bg,h8,hl];omega)]
theorem jR (v8:List Value)(cs:Array Value)(h8:v8.length=8)(hc:cs.size=406)(W:World):(Instr.build 98 #[(0,.agg v8.toArray),(1,.agg cs)]).run Tryz.prog W=.ok (.agg (v8++cs.toList).toArray) W:=
 run_build W _ _ _ (by rw[jQ];exact pE v8 cs h8 hc)
theorem Tryz.Z8:(Tryz.prog.info? 84).map (·.size)=some 8:=by kernel_rfl
section
variable {P:Program}{ops:Array Oper}{rest:List Oper}{d:Option Tmp}{T:TypeId}{pos:String}{af:Array Edge}{a:Act}{w:World}{Q:Act→Prop}
theorem Ui {o:Oper}{ys:Nat→Option Bool}(hgd:o.guard=none):Region.wanted o ys=true:=by simp[Region.wanted,hgd]
theorem LQ (ty:TypeId)(x:Operand)(px v:Value)(hx:a.eval x=px)(hr:(Instr.loadAt ty px).run P w=.ok v w)(h:wpStill P ops w Q rest (a.put d v)) :
 wpStill P ops w Q ({ dst:=d,op:=.load ty x,type:=T,pos:=pos,after:=af,guard:=none }::rest) a:=by
 unfold wpStill;rw[if_pos (Ui rfl)];unfold Oper.still execOp;simp only[hx,Sem.run_bind,hr,Result.andThen_ok];exact⟨rfl,h⟩
end
section
variable {B b n:Nat}{k:Bool}{E:Nat}{img:ByteArray}{rs:List ByteArray}{st:V.St}{w:World}
def MoT (B b n sb E:Nat)(img:ByteArray)(rs:List ByteArray)(w':World):Prop:=∃t:TI,Cg (bl img) (rs.map bl) t∧SL w' B b sb n t (((n/2:Nat):Int)-((1+(V.Ce (V.recs (img::rs))).length:Nat):Int)) (CG t) false E
def MoD (B b n:Nat)(k:Bool)(E:Nat)(img:ByteArray)(rs:List ByteArray)(w w':World):Prop:=
 (Below B w w'∧Be w w'∧V.Gj w.heap.size w w')∧∃st',V.Dev B w' b st'∧V.Dj n (n/2) k E (1+(V.Ce (V.recs (img::rs))).length) img rs (img::rs) [] false st'
def MoP (B b n:Nat)(k:Bool)(E:Nat)(img:ByteArray)(rs:List ByteArray)(w:World)(e:Ending)(w':World):Prop:=
 MoD B b n k E img rs w w'∧((e=.returned (.tuple #[.pointer none,.int .i64 2])∧G8 (bl img) (rs.map bl))∨(∃sb:Nat,e=.returned (.tuple #[Aj sb,.int .i64 0])∧MoT B b n sb E img rs w'))
theorem MoD.below {w1 w2:World}(h:MoD B b n k E img rs w w1)(hb:Below w1.heap.size w1 w2)(hB:B≤w.heap.size):MoD B b n k E img rs w w2:=by
 obtain⟨⟨h1,h2,h3⟩,st',hd,hl⟩:=h;have h9:=hb.mono h1.size;exact⟨⟨h1.trans (h9.mono hB),h2.trans (Be.Ar hb),h3.trans (V.Gj.Ar h9)⟩,st',hd.below hb,hl⟩
set_option maxHeartbeats 8000000 in
theorem OQ (hd:V.Dev B w b st)(hk:V.vR n (n/2) k E img rs st)(hck:∀A:TI,Cq A→A.2≤9223372036854775807→BI A.1 A.2=bl img→A.2≤9223372036854775000)(hB:B≤w.heap.size) :
 Calls Tryz.prog 27 #[Aj b] w (MoP B b n k E img rs w):=by
 unfold MoP;have cO:=V.XP hd hk hB;unfold V.ReX at cO;have HCK:=Aa hck;clear hd hk hck;go_enter Tryz.func27,Tryz.ntmps27;go_upto_region 4 with(go_at_call 22;refine cO.mono ?_;rintro e w1 ⟨vb,rv,st',rfl,hb1,ho1,hvb,hrow,hL,hpe⟩;have HL:=Aa hL;have HB1:=Aa hb1;have Zf:=Aa ho1;have Za:=Aa hvb;clear hb1 ho1 hvb hrow hL hpe);have hsz:=HL.out.live.sizes;have hrl:=lW HL.out.live;have cI:=V.uN HL.out.KW;have cR:=V.gK HL.out.KW HL.out.row (by omega);have HRP:Hid (∀W v,W.ownsRow w1.heap.size 9 1 v rs.length (rs.map Value.string)→Calls Tryz.prog 61 #[.string img,v] W (vQ img rs W)):=Aa fun W v hv =>
  lZ img rs v W (V.Wo hv rfl).strs (Al (hsz img (List.mem_cons_self ..)).2 (by decide)) (fun s hs=>(hsz s (List.mem_cons_of_mem _ hs)).2) hrl HCK.out
 unfold vQ at HRP;have zS:Hid (MoD B b n k E img rs w w1):=Aa ⟨⟨HB1.out,Ou Zf.out.1,Zf.out.2⟩,st',HL.out.dev,HL.out.live⟩;obtain⟨rl,hrl2⟩:∃rl,rs.length=rl:=⟨_,rfl⟩;rw[hrl2]at cR HRP;clear hsz hrl hrl2 cO;go_upto_region 5 with(first
  | (go_at_call 62;refine cI.mono ?_;rintro e w2 ⟨rfl,rfl⟩)
  | (go_at_call 63;refine cR.mono ?_;rintro e w3 ⟨v3,rfl,ho3,hb3⟩;obtain⟨a3,c3,hv3⟩:=Au ho3;have I6:=Aa ho3;have HB3:=Aa hb3;clear ho3 hb3;subst hv3)
  | (go_at_call 61;refine(HRP.out _ _ I6.out).mono ?_;rintro e w4 ⟨hb4,hc4⟩;have KT:=Aa hb4;clear hb4;rcases hc4 with⟨q,hq,rfl,hno⟩|⟨bt,rfl,ht⟩))
 · have Zk:=Aa hno;have hqz:(q==0)=false:=A8.2 hq;have wh:=Aa ((zS.out.below HB3.out hB).below KT.out hB);clear hno hq cI cR;go_wp2;go_ret2;exact⟨wh.out,Or.inl ⟨rfl,Zk.out⟩⟩
 · obtain⟨t,S,hI,hS,hM⟩:=ht;have yZ:=HB3.out.trans (KT.out.mono HB3.out.size);have wh:=Aa ((zS.out.below HB3.out hB).below KT.out hB);have hL4:=HL.out.below yZ;obtain⟨cs,hc,hcs,hone,hT⟩:=Nb.of hI;obtain⟨V8,hV8⟩:∃V8:List Value,V.WJ b (V.BF (n/2) k) (n/2) (1+(V.Ce (V.recs (img::rs))).length) E++[.string img,rv,.bool true]=V8:=⟨_,rfl⟩;have PZ:V8.length=8:=by rw[←hV8];simp[V.WJ]
   have hvl:w4.heap[vb]?=some (.cells V8.toArray 84 (0,0)):=by rw[←hV8];exact hL4.KW
   have yL:(Instr.loadAt 84 (.pointer (some ⟨vb,0,none⟩))).run Tryz.prog w4.drew=.ok (.agg V8.toArray) w4.drew:=run_loadAt_mid (P:=Tryz.prog) w4.drew vb 0 84 V8 _ (fun j x hx=>by
    rw[Gl,show w4.drew.cell? ⟨vb,j,none⟩=w4.cell? ⟨vb,j,none⟩ from rfl,AB _ _ _ _ _ _ hvl,Gd];exact hx) Tryz.underlying84 rfl (by rw[PZ];exact Tryz.Z8)
   have yM:(Instr.loadAt 96 (.pointer (some ⟨bt,0,none⟩))).run Tryz.prog w4.drew=.ok (.agg cs) w4.drew:=by
    have:=run_loadAt_mid (P:=Tryz.prog) w4.drew bt 0 96 cs.toList _ (fun j x hx=>by
     rw[Gl,show w4.drew.cell? ⟨bt,j,none⟩=w4.cell? ⟨bt,j,none⟩ from rfl,AB _ _ _ _ _ _ hc,←Array.getElem?_toList];exact hx) Tryz.underlying96 rfl (by rw[BP,hcs];exact Tryz.Jc)
    rwa[Array.toArray_toList]at this
   have VN:Hid (∀W:World,(Instr.build 98 #[(0,.agg V8.toArray),(1,.agg cs)]).run Tryz.prog W=.ok (.agg (V8++cs.toList).toArray) W):=Aa fun W=>jR V8 cs PZ hcs W
   have hsize:(V8++cs.toList).toArray.size=414:=by rw[FN,Bg,PZ,BP,hcs]
   have EZ:Hid (∀W',W'=w4.drew.alloc (.cells (V8++cs.toList).toArray 98)→MoD B b n k E img rs w W'∧MoT B b n w4.heap.size E img rs W'):=Aa (by
    intro W' hW';have hbN:Below w4.heap.size w4 W':=by rw[hW'];exact(CL (Ad _ _)).alloc (Ae _) _
    have hnew:W'.heap[w4.heap.size]?=some (.cells (V8++cs.toList).toArray 98 (0,0)):=by rw[hW'];exact Ai w4.drew _
    have hL5:=hL4.below hbN;refine⟨wh.out.below hbN hB,t,hM,cs.toList,⟨n/2,k,_,img,rs,img::rs,[],st',rv,⟨hL5.live,hL5.dev,?_,hL5.row,?_⟩,rfl,by simp,hM,rfl,fun u hu=>Pn.all rfl hM u hu⟩,hT.keep (EB.Ar hbN)⟩
    · show W'.heap[w4.heap.size]?=_
      rw[hnew,←hV8,Cc]
    · have:=HB1.out.size;have:=yZ.size;omega)
   generalize (V8++cs.toList).toArray=AA at *;clear hI hS hM yZ hL4 hc hcs hone hT hV8 PZ hvl cI cR zS wh HL HRP;go_wp2_with fail;refine wp_region_still_tail 6 (by kernel_rfl) (by kernel_rfl) ?_;simp only[List.take_succ_cons,List.take_zero,List.drop_succ_cons,List.drop_zero];change wpStill _ _ w4.drew _ _ _;obtain⟨W5,hW5⟩:∃W5,w4.drew=W5:=⟨_,rfl⟩;rw[hW5]at yL yM EZ ⊢
   still_step
   still_step
   refine LQ 84 _ (.pointer (some ⟨vb,0,none⟩)) (.agg V8.toArray) rfl yL ?_;simp only[Act.put,List.setIfInBounds_toArray,List.set_cons_zero,List.set_cons_succ]
   still_step
   still_step
   refine LQ 96 _ (.pointer (some ⟨bt,0,none⟩)) (.agg cs) rfl yM ?_;simp only[Act.put,List.setIfInBounds_toArray,List.set_cons_zero,List.set_cons_succ];refine wpStill_nil ?_;have hsz5:W5.heap.size=w4.heap.size:=by rw[←hW5];rfl
   have Ac1:=Aa hsz5;have Xv:=Aa hW5;clear yL yM hW5 hsz5;go_wp2_with ((with_reducible refine PE 98 _ #[(0,.agg V8.toArray),(1,.agg cs)] (.agg AA) ?_ ?_ ?_);exact rfl;exact VN.out _);go_ret2;have hF:=EZ.out (w4.alloc (.cells AA 98)).drew (by rw[←Xv.out];rfl);exact⟨hF.1,Or.inr ⟨w4.heap.size,rfl,hF.2⟩⟩
end
end Go.Proofs.YtdmkhmeaphaapaaGreat
