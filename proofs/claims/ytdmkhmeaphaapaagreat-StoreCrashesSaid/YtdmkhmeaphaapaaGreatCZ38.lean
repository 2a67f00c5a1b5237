/- Kit. -/
import Derived.Test.YtdmkhmeaphaapaaGreatCZ13
import Derived.Test.YtdmkhmeaphaapaaGreatCZ18
import Derived.Test.YtdmkhmeaphaapaaGreatCZ0
import Derived.Test.YtdmkhmeaphaapaaGreatCZ33
import Derived.Deep.RegionLaw
set_option maxRecDepth 100000
set_option linter.unusedVariables false
set_option linter.unusedSimpArgs false
namespace Go.Proofs.YtdmkhmeaphaapaaGreat
open Go.RowKit Go.Sort
abbrev Q9 (b:Nat):Value:=.pointer (some ⟨b,8,none⟩)
structure TE (w:World)(b:Nat)(K:Nat→Int)(E:Nat→List Br)(R:Nat→Value)(u:Nat)(v:Value)(ys:List Int)(c:Int):Prop where
 cells:∃cs X:Array Value,w.heap[b]?=some (.cells cs 98 (0,0))∧(∀j x,X[j]?=some x→cs[8+j]?=some x)∧GV X K R u v c
 rows:∀n,n≤200→w.ownsRow 0 112 5 (R n) (E n).length ((E n).flatMap DU)
 apart:∀i j g,i≤200→j≤200→(R i).ownBlock=some g→(R j).ownBlock=some g→i=j
 own:Dw 0 w v ys
 good:Fv 200 u ys
namespace TE
variable {w w':World}{b:Nat}{K:Nat→Int}{E:Nat→List Br}{R:Nat→Value}{u:Nat}{v:Value}{ys:List Int}{c:Int}
theorem blt (h:TE w b K E R u v ys c):b<w.heap.size:=by
 obtain⟨cs,X,hc,_⟩:=h.cells;exact Ab hc
theorem below (h:TE w b K E R u v ys c)(hb:Below w.heap.size w w'):TE w' b K E R u v ys c:=by
 obtain⟨cs,X,hc,hx,ho⟩:=h.cells;exact⟨⟨cs,X,by rw[hb.block b (Ab hc)];exact hc,hx,ho⟩,fun n hn=>AV (h.rows n hn) fun g hg=>hb.block g ((h.rows n hn).lt g hg).2,h.apart,AV h.own fun g hg=>hb.block g (World.ownsRow.lt h.own g hg).2,h.good⟩
theorem LH (h:TE w b K E R u v ys c){n:Nat}(hn:n≤200):w.cell? ⟨b,8+n*2,none⟩=some (.int .i64 (K n))∧w.frozen? ⟨b,8+n*2,none⟩=false:=by
 obtain⟨cs,X,hc,hx,ho⟩:=h.cells;exact⟨by rw[AB _ _ _ _ _ _ hc];exact hx _ _ (ho.kind n hn),BA hc _⟩
theorem FH (h:TE w b K E R u v ys c){n:Nat}(hn:n≤200):w.cell? ⟨b,8+n*2+1,none⟩=some (R n)∧w.frozen? ⟨b,8+n*2+1,none⟩=false:=by
 obtain⟨cs,X,hc,hx,ho⟩:=h.cells;exact⟨by rw[AB _ _ _ _ _ _ hc];exact hx _ _ (ho.row n hn),BA hc _⟩
theorem MI (h:TE w b K E R u v ys c):w.cell? ⟨b,413,none⟩=some (.int .i64 c)∧w.frozen? ⟨b,413,none⟩=false:=by
 obtain⟨cs,X,hc,hx,ho⟩:=h.cells;exact⟨by rw[AB _ _ _ _ _ _ hc];exact hx _ _ ho.Ho,BA hc _⟩
theorem Fy (h:TE w b K E R u v ys c){n:Nat}(hn:n≤200):DD w (R n) (E n):=AL.own (Eb _) (h.rows n hn) rfl
end TE
section
variable {w:World}{b:Nat}{K:Nat→Int}{E:Nat→List Br}{R:Nat→Value}{u:Nat}{v:Value}{ys:List Int}{c:Int}
namespace yS
theorem oL (h:TE w b K E R u v ys c) :
 Calls Tryz.prog 79 #[.pointer (some ⟨b,410,none⟩)] w (Qt 200 (Bc u ys) w):=by
 unfold Qt;have hg:=h.good;have hyl:=hg.len;have HG:=Aa hg;obtain⟨cs,X,hc,hx,ho⟩:=h.cells;have c0:w.cell? ⟨b,410,none⟩=some (.int .i64 ((200:Nat):Int)):=by rw[AB _ _ _ _ _ _ hc];exact hx _ _ ho.most
 have c1:w.cell? ⟨b,411,none⟩=some (.int .i64 (u:Int)):=by rw[AB _ _ _ _ _ _ hc];exact hx _ _ ho.used
 have c2:w.cell? ⟨b,412,none⟩=some v:=by rw[AB _ _ _ _ _ _ hc];exact hx _ _ ho.wait
 have hbl:=h.blt;have hown:=h.own;clear hc hx ho;obtain⟨m,hm⟩:∃m:Nat,200=m:=⟨_,rfl⟩;have hm1:m≤1000:=by omega
 rw[hm]at c0 hyl HG ⊢;clear hm;obtain⟨a,cap,hv⟩:=h.own.len;obtain⟨n,hn⟩:∃n,ys.length=n:=⟨_,rfl⟩;rw[hn]at hv hyl;subst hv;obtain⟨v,hv⟩:∃v,v=Value.slice a n cap:=⟨_,rfl⟩;rw[←hv]at c2 hown;have j2:(w.alloc (.cells #[.int .i64 m,.int .i64 u,v] 94)).cell? ⟨b,412,none⟩=some v:=by rw[Fj (w:=w) (Ct w _ b hbl)];exact c2
 have cS:=OT 0 v ys (w.alloc (.cells #[.int .i64 m,.int .i64 u,v] 94)) (hown.below ((Ad _ _).alloc (Ae _) _)) (by omega);unfold Ov at cS;have HS:Hid ((w.alloc (.cells #[.int .i64 m,.int .i64 u,v] 94)).heap.size=w.heap.size+1):=Aa (by simp);have HN:Hid ((w.alloc (.cells #[.int .i64 m,.int .i64 u,v] 94)).heap[w.heap.size]?=some (.cells #[.int .i64 m,.int .i64 u,v] 94 (0,0))):=Aa (Ai _ _);have K5:Hid (Below w.heap.size w (w.alloc (.cells #[.int .i64 m,.int .i64 u,v] 94))):=Aa ((Ad _ w).alloc (Ae _) _);subst hv;clear h hg hown hyl hbl hn;go_enter Tryz.func79,Tryz.ntmps79;go_wp2_with fail;refine cS.mono ?_;rintro e w2 ⟨v2,rfl,ho2,hb2⟩;generalize w.alloc (.cells #[.int .i64 m,.int .i64 u,.slice a n cap] 94)=WA at *;have hN2:w2.heap[w.heap.size]?=some (.cells #[.int .i64 m,.int .i64 u,.slice a n cap] 94 (0,0)):=by
  rw[hb2.block _ (by rw[HS.out];omega)];exact HN.out
 have c9:w2.cell? ⟨w.heap.size,2,none⟩=some (.slice a n cap):=Ap hN2 2;have f9:w2.frozen? ⟨w.heap.size,2,none⟩=false:=BA hN2 2;have HX:Hid (Go.Proofs.YtdmkhmeaphaapaaGreat.Dr w none m w.heap.size (w2.setCell ⟨w.heap.size,2,none⟩ v2) v2 (Bc u ys)):=Aa (by
  rw[HS.out]at ho2;refine⟨u,ys,⟨?_,ho2.far (fun e=>by have:=(ho2.lt _ e).1;omega),fun k hk=>Or.inr (by have:=(ho2.lt k hk).1;omega),GX.set ?_ 2 v2⟩,HG.out,rfl⟩
  · rw[setCell_eq];simp[mapBlock,Array.getElem?_modify,hN2,onCells,O0]
  · have hbb:=K5.out.trans (hb2.mono K5.out.size);exact⟨hbb.os,hbb.tape,hbb.output,hbb.size,fun k hk _ _=>hbb.block k hk⟩)
 obtain⟨a2,cap2,hv2⟩:=ho2.len;generalize ys.length=n2 at hv2;subst hv2;clear cS ho2 hb2 hN2 j2 c2;go_wp2;go_ret;exact⟨_,_,rfl,Ae _,HX.out⟩
set_option maxHeartbeats 2000000 in
theorem SY (h:TE w b K E R u v ys c)(d:Int):Calls Tryz.prog 109 #[Q9 b,.int .i64 d] w fun e w'=>e=.returned (.int .i64 (Du K d))∧w'=w:=by
 obtain⟨X,hX⟩:∃X,Du K d=X:=⟨_,rfl⟩;rw[hX];unfold Du at hX;by_cases h0:d<0
 · have HX:Hid (X=5):=Aa (by rw[←hX,if_pos (Or.inl h0)]);clear hX;go_enter Tryz.func109,Tryz.ntmps109;go_wp2;go_ret;exact⟨by rw[HX.out];rfl,rfl⟩
 · by_cases h1:200<d
   · have HX:Hid (X=5):=Aa (by rw[←hX,if_pos (Or.inr h1)]);clear hX;go_enter Tryz.func109,Tryz.ntmps109;go_wp2;go_ret;exact⟨by rw[HX.out];rfl,rfl⟩
   · obtain⟨n,rfl⟩:∃n:Nat,d=n:=⟨d.toNat,by omega⟩;have hn:n≤200:=by omega
     have hn1:(n:Int)<201:=by omega
     have c1:=(h.LH hn).1;rw[if_neg (by omega),DY]at hX;generalize K n=k at *;by_cases h2:k=2
     · have HX:Hid (X=0):=Aa (by rw[←hX,if_pos h2]);subst h2;clear hX h;go_enter Tryz.func109,Tryz.ntmps109;go_wp2;go_ret;exact⟨by rw[HX.out];rfl,rfl⟩
     · by_cases h3:k=1
       · have HX:Hid (X=8):=Aa (by rw[←hX,if_neg h2,if_pos h3]);subst h3;clear hX h h2;go_enter Tryz.func109,Tryz.ntmps109;go_wp2;go_ret;exact⟨by rw[HX.out];rfl,rfl⟩
       · have HX:Hid (X=5):=Aa (by rw[←hX,if_neg h2,if_neg h3]);have h2b:(k==2)=false:=Ba.2 h2;have h3b:(k==1)=false:=Ba.2 h3;clear hX h h2 h3;go_enter Tryz.func109,Tryz.ntmps109;go_wp2;go_ret;exact⟨by rw[HX.out];rfl,rfl⟩
theorem JY (h:TE w b K E R u v ys c)(hl:∀n,n≤200→(E n).length≤1000)(d:Int):Calls Tryz.prog 68 #[Q9 b,.int .i64 d] w (KW K E d w):=by
 unfold KW PX;have cO:=SY h d;obtain⟨o,ho⟩:∃o,Du K d=o:=⟨_,rfl⟩;rw[ho]at cO ⊢;by_cases h0:o=0
 · subst h0;obtain⟨n,rfl,hn,hk⟩:=G9 ho;rw[if_pos rfl,DY];have c1:=(h.FH hn).1;have cE:=TU (R n) (E n) w (h.Fy hn) (hl n hn);unfold Ut at cE;obtain⟨a,cap,hr⟩:=(h.Fy hn).len;rw[hr]at c1 cE;have hd0:(0:Int)≤(n:Int):=by omega
   have hd1:(n:Int)<201:=by omega
   clear h hl hr ho;go_enter Tryz.func68,Tryz.ntmps68;go_wp2_with (first
    | (go_at_call 109;refine cO.mono ?_;rintro e w1 ⟨rfl,rfl⟩)
    | (go_at_call 80;refine cE.mono ?_;rintro e w2 ⟨v2,rfl,ho2,hb2⟩;obtain⟨a2,c2,hv2⟩:=Av ho2;have JQ:=Aa ho2;clear ho2;subst hv2))
   go_ret2;exact⟨_,rfl,JQ.out,hb2⟩
 · have h0b:(o==0)=false:=Ba.2 h0;rw[if_neg h0];clear h hl ho h0;go_enter Tryz.func68,Tryz.ntmps68;go_wp2_with (go_at_call 109;refine cO.mono ?_;rintro e w1 ⟨rfl,rfl⟩);go_ret2;exact⟨_,rfl,FV _ _ _ _,Ad _ _⟩
set_option maxHeartbeats 4000000 in
theorem JZ (h:TE w b K E R u v ys c):Calls Tryz.prog 64 #[Q9 b] w (KX (Eg K 201) w):=by
 unfold KX;have HT:=Aa h;obtain⟨X,hX⟩:∃X,Eg K 201=X:=⟨_,rfl⟩;rw[hX];have HX:=Aa hX;clear h hX;go_enter Tryz.func64,Tryz.ntmps64;go_wp2;go_loopw [3,5] (fun ov iv wr=>∃n:Nat,n≤201∧iv=.int .i64 n∧wr.ownsRow w.heap.size 3 1 ov (Eg K n).length ((Eg K n).flatMap GK)∧Below w.heap.size w wr) (fun _ iv _=>201-(intOf iv).toNat)
 case atStart=>exact⟨0,by omega,rfl,FV _ _ _ _,Ad _ _⟩
 case round =>
  obtain⟨n,hn,rfl,hrow,hb⟩:=hrel;have HW:=Aa hrow;have FU:=Aa hb;have hdl:=TW K n;have Nk:Hid (Eg K (n+1)=Eg K n++(if K n=2 then [(n:Int)] else [])):=Aa rfl;have hsz:=hb.size;by_cases hn2:n≤200
  · have hnz:(n:Int)<201:=by omega
    have hn0:(0:Int)≤(n:Int):=by omega
    have c1:=((HT.out.below hb).LH hn2).1;clear hrow hb;by_cases hk:K n=2
    · rw[hk]at c1;have HS2:Hid (Eg K (n+1)=Eg K n++[(n:Int)]):=Aa (by rw[Nk.out,if_pos hk]);clear hk Nk;go_upto_region 6 with fail;clear c1;have NJ:Hid (World.ownsRow (wr.alloc (.cells #[.int .i64 (n:Int)] 3)) w.heap.size 3 1 u3 (Eg K n).length ((Eg K n).flatMap GK)):=Aa (HW.out.alloc _);have uA:Hid (Kc (wr.alloc (.cells #[.int .i64 (n:Int)] 3)) (.slice (some ⟨wr.heap.size,0,none⟩) 1 1) [(n:Int)]):=Aa (AL.block (Dv _) (Ai _ _));have hsa:w.heap.size≤(wr.alloc (.cells #[.int .i64 (n:Int)] 3)).heap.size:=by show _≤(wr.heap.push _).size;simp;omega
      have Qr:=Aa hsa;have K5:Hid (Below w.heap.size w (wr.alloc (.cells #[.int .i64 (n:Int)] 3))):=Aa (FU.out.alloc hsz _);have hlen:(Eg K n).length+[(n:Int)].length≤100000:=by simp;omega
      clear hsa;go_wp2_with (at_builtin;refine AY M8 rfl _ _ rfl w.heap.size _ _ _ rfl NJ.out _ [(n:Int)] (Dv _) (KF _) rfl uA.out hlen Qr.out ?_;intro v8 w8 Fz F6 JS;have uE:=Aa (K5.out.grown F6 Qr.out (fun j hj=>(NJ.out.lt j hj).1));have uo:=Aa Fz;clear Fz F6 JS);go_roundw
      case rel=>exact⟨n+1,by omega,by first|rfl|go_num,by rw[HS2.out,A7,FB];exact uo.out,uE.out⟩
      case measure=>simp[intOf];omega
    · have hkz:(K n==2)=false:=by rw[Ba];exact hk
      have HS2:Hid (Eg K (n+1)=Eg K n):=Aa (by rw[Nk.out,if_neg hk,Cz]);clear hk Nk;go_wp2;go_roundw
      case rel=>exact⟨n+1,by omega,by first|rfl|go_num,by rw[HS2.out];exact HW.out,FU.out⟩
      case measure=>simp[intOf];omega
  · have hnz:¬(n:Int)<201:=by omega
    obtain rfl:n=201:=by omega
    rw[HX.out]at HW;clear hrow hb;go_wp2;go_ret;exact⟨_,rfl,HW.out,FU.out⟩
theorem Pw (h:TE w b K E R u v ys c):Calls Tryz.prog 66 #[Q9 b] w fun e w'=>e=.returned (.int .i64 c)∧w'=w:=by
 have c1:=h.MI.1;clear h;go_enter Tryz.func66,Tryz.ntmps66;go_wp2;go_ret;exact⟨rfl,rfl⟩
set_option maxHeartbeats 8000000 in
theorem Yc (h:TE w b K E R u v ys c)(hl:∀n,n≤200→(E n).length≤1000):Calls Tryz.prog 35 #[Q9 b] w fun e w'=>∃b2 R' u' v' ys',e=.returned (Ag b2)∧w.heap.size≤b2∧TM w' b2 K E R' u' v' ys' c∧Bc u' ys'=Bc u ys∧Below w.heap.size w w':=by
 obtain⟨cs0,cs,hc0,hx0,ho⟩:=h.cells;have hone:=U6 ho (fun n hn=>by
  obtain⟨a,cap,e⟩:=(h.Fy hn).len;exact⟨a,_,cap,e⟩) (by
  obtain⟨a,cap,e⟩:=h.own.len;exact⟨a,_,cap,e⟩)
 have hld:(Instr.loadAt 96 (.pointer (some ⟨b,8,none⟩))).run Tryz.prog w=.ok (.agg cs) w:=by
  have:=run_loadAt_mid (P:=Tryz.prog) w b 8 96 cs.toList _ (fun j x hx=>by
   rw[AB _ _ _ _ _ _ hc0];exact hx0 _ _ (by rw[←Array.getElem?_toList];exact hx)) Tryz.underlying96 rfl (by rw[BQ,ho.size];exact Tryz.Jl)
  rwa[Array.toArray_toList]at this
 have hst:(Instr.storeAt 96 (.pointer (some ⟨w.heap.size,0,none⟩)) (.agg cs)).run Tryz.prog (w.alloc (.cells NA 96))=.ok () (w.alloc (.cells cs 96)):=run_storeAt_new (P:=Tryz.prog) w 96 NA cs (by rw[ho.size];exact Tryz.Jl) (by rw[RU,ho.size]) hone;have Abt:(storeCells ⟨w.heap.size,0,none⟩ cs.toList 0).run Tryz.prog (w.alloc (.cells NA 96))=.ok () (w.alloc (.cells cs 96)):=run_storeCells_new (P:=Tryz.prog) w 96 NA cs (by rw[ho.size];exact Tryz.Jl) (by rw[RU,ho.size]) hone;have hsz:cs.size=406:=ho.size;have HZ:=iI;have HO:=Aa ho;have HT:=Aa h;have HL:=Aa hl;have hb0:Below w.heap.size w (w.alloc (.cells cs 96)):=(Ad _ w).alloc (Ae _) _;have HB0:=Aa hb0;have HN0:Hid ((w.alloc (.cells cs 96)).heap[w.heap.size]?=some (.cells cs 96 (0,0))):=Aa (Ai _ _);generalize NA=Z at *;clear h hl hc0 hx0 ho hone hb0;go_enter Tryz.func35,Tryz.ntmps35;go_upto_region 2 with(first
  | ((with_reducible refine Jt 96 _ (.pointer (some ⟨b,8,none⟩)) (.agg cs) ?_ ?_ ?_);exact rfl;exact hld)
  | ((with_reducible refine U3 96 _ _ (.pointer (some ⟨w.heap.size,0,none⟩)) (.agg cs) ?_ ?_ ?_ ?_);exact rfl;exact rfl;exact hst))
 have cC:=oL (HT.out.below HB0.out);unfold Qt at cC;generalize (w.alloc (.cells cs 96))=W1 at *;clear hst Abt hld HZ hsz;generalize hb2:w.heap.size=b2 at *;have HB2:=Aa hb2;clear hb2;go_upto_region 3 with(go_at_call 79;refine cC.mono ?_;rintro e w2 ⟨pb,v2,rfl,hpb,hP⟩;obtain⟨u2,uI,hbx,hg2,hl2⟩:=hP;have JV:=Aa hbx;have HG2:=Aa hg2;have HL2:=Aa hl2;obtain⟨k0,k1,k2⟩:w2.cell? ⟨pb,0,none⟩=some (.int .i64 ((200:Nat):Int))∧w2.cell? ⟨pb,1,none⟩=some (.int .i64 (u2:Int))∧w2.cell? ⟨pb,2,none⟩=some v2:=⟨Ap hbx.at' 0,Ap hbx.at' 1,Ap hbx.at' 2⟩;have Aal:Below W1.heap.size W1 w2:=hbx.keep.below hpb (Ae _) (fun k hk=>by cases hk);have hc2:w2.heap[b2]?=some (.cells cs 96 (0,0)):=(Aal.block b2 (Ab HN0.out)).trans HN0.out;have HC2:=Aa hc2;have AbT:=Aa Aal;obtain⟨m0,m1,m2⟩:w2.cell? ⟨b2,402,none⟩=some (.int .i64 ((200:Nat):Int))∧w2.cell? ⟨b2,403,none⟩=some (.int .i64 (u:Int))∧w2.cell? ⟨b2,404,none⟩=some v:=⟨(AB _ _ _ _ _ _ hc2).trans HO.out.most,(AB _ _ _ _ _ _ hc2).trans HO.out.used,(AB _ _ _ _ _ _ hc2).trans HO.out.wait⟩;obtain⟨f0,f1,f2⟩:w2.frozen? ⟨b2,402,none⟩=false∧w2.frozen? ⟨b2,403,none⟩=false∧w2.frozen? ⟨b2,404,none⟩=false:=⟨BA hc2 _,BA hc2 _,BA hc2 _⟩;obtain⟨a2,c2,hv2⟩:=hbx.own.len;subst hv2;clear hbx hg2 hl2 Aal hc2);have HI0:Hid (ClI w (((w2.setCell ⟨b2,402,none⟩ (.int .i64 ((200:Nat):Int))).setCell ⟨b2,403,none⟩ (.int .i64 (u2:Int))).setCell ⟨b2,404,none⟩ (.slice a2 uI.length c2)) b2 0 K E R R u2 (.slice a2 uI.length c2) uI c):=Aa (by
  have hlt:=Ab HN0.out;have hbb:Below b2 w w2:=HB0.out.trans (AbT.out.mono (Nat.le_of_lt hlt));refine⟨⟨_,Bn _ b2 404 _ _ _ (Bn _ b2 403 _ _ _ (Bn _ b2 402 _ _ _ HC2.out)),HO.out.pool u2 _⟩,fun j hj=>absurd hj (Nat.not_lt_zero _),fun i j g hi=>absurd hi (Nat.not_lt_zero _),fun j _ _=>rfl,?_,?_,by rw[HB2.out];exact Ae _⟩
  · have ho2:=JV.out.own;refine AV (w:=w2) (B:=b2+1) ⟨ho2.1,?_⟩ (fun g hg=>?_)
    · rcases ho2.2 with h1|⟨g,cap,cur,hv,hg,h1⟩
      · exact Or.inl h1
      · exact Or.inr ⟨g,cap,cur,hv,by omega,h1⟩
    · have:=(World.ownsRow.lt ho2 g hg).1;rw[Bw _ _ _ _ (by show g≠b2;omega),Bw _ _ _ _ (by show g≠b2;omega),Bw _ _ _ _ (by show g≠b2;omega)]
  · rw[HB2.out];exact((hbb.setCell (p:=⟨b2,402,none⟩) (Ae _) _).setCell (p:=⟨b2,403,none⟩) (Ae _) _).setCell (p:=⟨b2,404,none⟩) (Ae _) _)
 clear k0 k1 k2 m0 m1 m2 f0 f1 f2 cC;go_upto_region 3 with fail;clear HB0 HN0 JV HC2 AbT;go_wp2;go_loopw [15] (fun iv wr=>∃(n:Nat) (R':Nat→Value),n≤201∧iv=.int .i64 n∧ClI w wr b2 n K E R R' u2 (.slice a2 uI.length c2) uI c) (fun iv _=>201-(intOf iv).toNat)
 case atStart=>exact⟨0,R,by omega,rfl,HI0.out⟩
 case round =>
  obtain⟨n,R',hn,rfl,hcl⟩:=hrel;have HCL:=Aa hcl;by_cases hn2:n≤200
  · have hnz:(n:Int)<201:=by omega
    have hn0:(0:Int)≤(n:Int):=by omega
    have gJ:=HT.out.below hcl.below;have he:=gJ.Fy hn2;have cE:=TU (R n) (E n) wr he (HL.out n hn2);unfold Ut at cE;obtain⟨cs9,xu,H7⟩:=hcl.cells;have eB:=Aa xu;have HO9:=Aa H7;have c1:wr.cell? ⟨b2,n*2+1,none⟩=some (R n):=by
     rw[AB _ _ _ _ _ _ xu,H7.row n hn2,hcl.rest n (Ae _) hn2]
    obtain⟨a9,Je,Y2⟩:=he.len;rw[Y2]at c1 cE;clear hcl gJ he xu H7 Y2;go_wp2_with (go_at_call 80;refine cE.mono ?_;rintro e w3 ⟨v3,rfl,ho3,hb3⟩;obtain⟨a3,c3,hv3⟩:=Av ho3;subst hv3;have Jf:=Aa ho3;have HB3:=Aa hb3;have hc3:=(hb3.block b2 (Ab eB.out)).trans eB.out;have HC3:=Aa hc3;have m1:w3.cell? ⟨b2,n*2+1,none⟩=some (R' n):=(AB _ _ _ _ _ _ hc3).trans (HO9.out.row n hn2);have f1:w3.frozen? ⟨b2,n*2+1,none⟩=false:=BA hc3 _;clear ho3 hb3 hc3);go_roundw
    case rel =>
     refine⟨n+1,upd R' n (.slice a3 (E n).length c3),by omega,by first|rfl|go_num,?_⟩;have hcl:=HCL.out;have hsz:=HB3.out.size;have Adz:=Ab eB.out;have hf:∀g,g≠b2→(w3.setCell ⟨b2,n*2+1,none⟩ (.slice a3 (E n).length c3)).heap[g]?=w3.heap[g]?:=fun g hg=>Bw _ _ _ _ hg
     refine⟨⟨_,Bn w3 b2 (n*2+1) _ _ _ HC3.out,HO9.out.setRow hn2 _⟩,fun j hj=>?_,fun i j g hi hj h1 h2=>?_,fun j hj1 hj2=>?_,?_,?_,hcl.at'⟩
     · by_cases e:j=n
       · subst e;rw[upd_same];refine AV (w:=w3) ⟨Jf.out.1,?_⟩ (fun g hg=>hf g (by have:=(Jf.out.lt g hg).1;omega));rcases Jf.out.2 with h1|⟨g,cap,cur,hv,hg,h1⟩
         · exact Or.inl h1
         · exact Or.inr ⟨g,cap,cur,hv,by omega,h1⟩
       · rw[upd_ne _ _ e];have hr:=hcl.rows j (by omega);exact AV hr (fun g hg=>by
          have:=hr.lt g hg;rw[hf g (by omega)];exact HB3.out.block g this.2)
     · by_cases e1:i=n
       · by_cases e2:j=n
         · rw[e1,e2]
         · rw[e1,upd_same]at h1;rw[upd_ne _ _ e2]at h2;have:=(Jf.out.lt g h1).1;have:=((hcl.rows j (by omega)).lt g h2).2;omega
       · rw[upd_ne _ _ e1]at h1;by_cases e2:j=n
         · rw[e2,upd_same]at h2;have:=(Jf.out.lt g h2).1;have:=((hcl.rows i (by omega)).lt g h1).2;omega
         · rw[upd_ne _ _ e2]at h2;exact hcl.apart i j g (by omega) (by omega) h1 h2
     · rw[upd_ne _ _ (by omega)];exact hcl.rest j (by omega) hj2
     · exact AV hcl.own (fun g hg=>by
        have:=World.ownsRow.lt hcl.own g hg;rw[hf g (by omega)];exact HB3.out.block g this.2)
     · exact(hcl.below.trans (HB3.out.mono hcl.below.size)).setCell (p:=⟨b2,n*2+1,none⟩) hcl.at' _
    case measure=>simp[intOf];omega
  · have hnz:¬(n:Int)<201:=by omega
    obtain rfl:n=201:=by omega
    have HX:Hid (TM wr b2 K E R' u2 (.slice a2 uI.length c2) uI c):=Aa ⟨hcl.cells,fun j hj=>hcl.rows j (by omega),fun i j g hi hj=>hcl.apart i j g (by omega) (by omega),hcl.own,HG2.out⟩;have JV:=Aa hcl.below;have hat:=hcl.at';clear hcl;go_wp2;go_ret;refine⟨b2,rfl,hat,?_⟩;have hfin:=And.intro HX.out (And.intro HL2.out.symm JV.out)
    first
     | exact⟨R',u2,_,uI,hfin⟩
     | exact⟨R',u2,_,⟨uI,HX.out,HL2.out.symm⟩,JV.out⟩
     | exact⟨⟨R',u2,_,uI,HX.out,HL2.out.symm⟩,JV.out⟩
end yS
end
def Uj (w:World)(b:Nat)(l:List Az)(nx:Int):Prop:=∃R u v ys,TE w b (Bo l) (Bh l) R u v ys nx∧Bc u ys=BI l∧Aq l nx
namespace yS
variable {w w':World}{b:Nat}{l:List Az}{nx:Int}
theorem below (h:Uj w b l nx)(hb:Below w.heap.size w w'):Uj w' b l nx:=by
 obtain⟨R,u,v,ys,hm,ho,hg⟩:=h;exact⟨R,u,v,ys,hm.below hb,ho,hg⟩
theorem good (h:Uj w b l nx):Aq l nx:=by
 obtain⟨R,u,v,ys,hm,ho,hg⟩:=h;exact hg
theorem Ho (h:Uj w b l nx):Calls Tryz.prog 66 #[Q9 b] w fun e w'=>e=.returned (.int .i64 nx)∧w'=w:=by
 obtain⟨R,u,v,ys,hm,ho,hg⟩:=h;exact Pw hm
theorem clone (h:Uj w b l nx):Calls Tryz.prog 35 #[Q9 b] w fun e w'=>∃b2 S2,e=.returned (Ag b2)∧Bl.Is w' b2 l nx S2∧(∀k,S2 k→w.heap.size≤k)∧Below w.heap.size w w':=by
 obtain⟨R,u,v,ys,hm,ho,hg⟩:=h;refine(Yc hm (fun n hn=>Ao (hg.Nt n) (by omega))).mono ?_;rintro e w' ⟨b2,R',u',v',ys',rfl,hle,hm',ho',hb⟩;exact⟨b2,DV b2 R' v',rfl,⟨R',u',v',ys',hm',ho'.trans ho,hg,rfl⟩,fun k hk=>Ao hle (hm'.lt k hk).1,hb⟩
theorem Sd (h:Uj w b l nx){d:Int}(hd:AP l d=2) :
 Calls Tryz.prog 68 #[Q9 b,.int .i64 d] w fun e w'=>∃v,e=.returned (.tuple #[v,.int .i64 0])∧w'.ownsRow w.heap.size 112 5 v (Ak l d).length ((Ak l d).flatMap DU)∧Below w.heap.size w w':=by
 obtain⟨R,u,v,ys,hm,ho,hg⟩:=h;have h:=JY hm (fun n hn=>Ao (hg.Nt n) (by omega)) d;unfold KW PX at h;rw[hg.open']at h;have hE:A9 l d=0:=by
  unfold A9;rw[if_neg (by rw[hd];decide),if_neg (by rw[hd];decide)]
 obtain⟨n,rfl,_,_⟩:=hg.dir hE;rw[hE,if_pos rfl,DY]at h;exact h
theorem Sg (h:Uj w b l nx) :
 Calls Tryz.prog 64 #[Q9 b] w fun e w'=>∃v,e=.returned v∧w'.ownsRow w.heap.size 3 1 v (AR l).length ((AR l).flatMap GK)∧Below w.heap.size w w':=by
 obtain⟨R,u,v,ys,hm,ho,hg⟩:=h;have h:=JZ hm;unfold KX at h;rw[Po]at h;exact h
set_option maxHeartbeats 8000000 in
theorem Pn (h:Uj w b l nx)(hx:nx≤9223372036854775807) :
 Calls Tryz.prog 72 #[Q9 b] w fun e w'=>e=.returned (.string ⟨(BG l nx).toArray⟩)∧Below w.heap.size w w':=by
 have hgood:=good h;have hshort:=Jm hgood;have hnx:=(good h).Ml;obtain⟨L,hL⟩:∃L,BG l nx=L:=⟨_,rfl⟩;have Ny:Hid (∀d∈AU l,Oy d):=Aa fun d hd=>WU hgood hx hd
 have zo:Hid (∀q∈AR l,AP l q=2):=Aa fun q hq=>(Jo.1 hq).2
 have HRG:Hid (∀q∈AR l,0≤q∧q≤200):=Aa fun q hq=>J7 hq
 rw[hL]at hshort ⊢;unfold BG N8 at hL;have hdl:(AU l).length=(AR l).length:=by unfold AU;rw[DW]
 rw[hdl]at hL;obtain⟨n,hn⟩:∃n,(AR l).length=n:=⟨_,rfl⟩;have hn1:n≤201:=by rw[←hn];exact Gn l 201
 rw[hn]at hL;have hlen:=Gu List.length hL;simp only[List.length_append,Ah]at hlen;have HL:=Aa hL;have HN:=Aa hn;have HLEN:Hid (((AU l).flatMap CB).length≤60000):=Aa (by omega);have HT:Hid (∀W,Below w.heap.size w W→Uj W b l nx):=Aa fun W hW=>below h hW
 have zy:Hid (MR w w.heap.size [] (w.alloc (.cells #[.pointer none,.slice none 0 0] 197))):=Aa
  ⟨Or.inl ⟨Ae _,.slice none 0 0,Ai w _,FV _ _ _ _,by simp[Value.ownBlock]⟩,(Ad _ _).alloc (Ae _) _,by simp⟩
 have cC:=Ho (HT.out _ zy.out.b);clear h hgood hshort hL hdl hlen hn;go_enter Tryz.func72,Tryz.ntmps72;go_upto_region 2 with fail;generalize (w.alloc (.cells #[.pointer none,.slice none 0 0] 197))=W0 at *;obtain⟨bw,hbw⟩:∃bw,w.heap.size=bw:=⟨_,rfl⟩;rw[hbw]at zy HT ⊢;have FU:=Aa hbw;clear hbw;go_upto_region 3 with(first
  | (go_at_call 66;refine cC.mono ?_;rintro e w1 ⟨rfl,rfl⟩)
  | (go_at_call 75;(with_reducible refine(zy.out.num _ 8 8 rfl (by omega) (by omega) (by simp)).mono ?_);rintro e w2 ⟨rfl,he,_⟩;have HE:=Aa he;clear he))
 clear cC;have cD:=Sg (HT.out _ HE.out.b);have cD2:=HN.out;rw[cD2]at cD;go_upto_region 4 with(go_at_call 64;refine cD.mono ?_;rintro e w3 ⟨v3,rfl,ho3,hb3⟩;obtain⟨a3,c3,hv3⟩:=Av ho3;have HE:=Aa (HE.out.below hb3);have Jf:=Aa ho3;clear ho3 hb3;subst hv3);clear cD;go_upto_region 5 with(go_at_call 75;(with_reducible refine(HE.out.num _ 2 2 rfl (by omega) (by omega) (by simp only[List.length_append,Ah,List.length_nil];omega)).mono ?_);rintro e w4 ⟨rfl,he,hf4⟩;have HE:=Aa he;have uq:=Aa (La (T:=IW) (T0:=3) hf4 (by decide) (by decide) Jf.out);clear he hf4);have yB:([]:List UInt8)++BB nx.toNat 8++BB (Int.toNat (n:Int)) 2=BB nx.toNat 8++BB n 2:=by simp
 rw[yB]at HE;clear yB Jf;obtain⟨B3,hB3⟩:∃B3,w2.heap.size=B3:=⟨_,rfl⟩;rw[hB3]at uq;have HAT:Hid (∀(W:World) (i:Nat) (x:Int),W.ownsRow B3 3 1 (.slice a3 n c3) n ((AR l).flatMap GK)→(AR l)[i]?=some x→∃g off,a3=some ⟨g,off,none⟩∧g<W.heap.size∧W.rangeAt g (off+i*1) (GK x)):=Aa fun W i x hW hi=>AL.at (AL.own (Dv _) hW HN.out.symm) hi
 go_wp2_with fail;go_loopw [21] (fun iv wr=>∃i:Nat,i≤n∧iv=.int .i64 i∧MR w bw (BB nx.toNat 8++BB n 2++((AU l).take i).flatMap CB) wr∧wr.ownsRow B3 3 1 (.slice a3 n c3) n ((AR l).flatMap GK)) (fun iv _=>n-(intOf iv).toNat)
 case atStart=>exact⟨0,by omega,rfl,by simpa using HE.out,uq.out⟩
 case round =>
  obtain⟨i,hi,rfl,he,ho⟩:=hrel;have HE:=Aa he;have HO:=Aa ho;clear he ho;by_cases him:i<n
  · have hiz:(i:Int)<(n:Int):=by omega
    have hi0:(0:Int)≤(i:Int):=by omega
    obtain⟨q,hq⟩:∃q,(AR l)[i]?=some q:=⟨_,Co (by rw[HN.out];omega)⟩;have hqm:=CU hq;obtain⟨g,off,rfl,hg,hr⟩:=HAT.out wr i q HO.out hq;have d0:=Ta hr;rw[Nat.mul_one]at d0;have hd:(AU l)[i]?=some (q,Ak l q):=by
     unfold AU;rw[GZ,hq];rfl
    have LQ:=Aa (Ny.out _ (CU hd));have UT:=Aa (JI (f:=CB) hd);have hle:=GA CB (AU l) (i+1);rw[UT.out,A7]at hle;have hln:((BB nx.toNat 8++BB n 2)++((AU l).take i).flatMap CB).length+(CB (q,Ak l q)).length≤900000:=by
     have:=HLEN.out;simp only[List.length_append,Ah];omega
    have cL:=Sd (HT.out wr (by first|exact HE.out.b|(rw[FU.out];exact HE.out.b))) (zo.out q hqm);have cW:Hid (∀(W:World) (B2:Nat) (v:Value),MR w bw (BB nx.toNat 8++BB n 2++((AU l).take i).flatMap CB) W→W.ownsRow B2 112 5 v (Ak l q).length ((Ak l q).flatMap DU)→Calls Tryz.prog 113 #[DF bw,.agg #[.int .i64 q,v]] W fun e w'=>e=.returned (.tuple #[])∧MR w bw (BB nx.toNat 8++BB n 2++((AU l).take (i+1)).flatMap CB) w'∧Jg IW W w'):=Aa fun W B2 v hW hv=>by
     rw[UT.out,←Ch];exact(mX bw bw q v B2 (Ak l q) _ W hW.wr hv LQ.out hln hW.s).mono fun e w' hp=>hW.step hp
    clear hr hq hqm hd hle hln;go_wp2_with (first
     | (go_at_call 68;refine cL.mono ?_;rintro e w5 ⟨v5,rfl,Xn,hb5⟩;obtain⟨a5,c5,hv5⟩:=Av Xn;have HE5:=Aa (HE.out.below hb5);have dX:=Aa Xn;have ZX:=Aa (La (T:=IW) (T0:=3) (Jg.below hb5) (by decide) (by decide) HO.out);clear Xn hb5;subst hv5)
     | (go_at_call 113;refine(cW.out _ _ _ HE5.out dX.out).mono ?_;rintro e w6 ⟨rfl,he6,hf6⟩;have HE6:=Aa he6;have x8:=Aa (La (T:=IW) (T0:=3) hf6 (by decide) (by decide) ZX.out);clear he6 hf6))
    go_roundw
    case rel=>exact⟨i+1,by omega,by first|rfl|go_num,HE6.out,x8.out⟩
    case measure=>simp[intOf];omega
  · have hiz:¬(i:Int)<(n:Int):=by omega
    have HA:Hid ((AU l).take i=AU l):=Aa (CV (by unfold AU;rw[DW,HN.out];omega));rw[HA.out]at HE;have hfin:BB nx.toNat 8++BB n 2++(AU l).flatMap CB=L:=by
     rw[←HL.out];simp only[List.append_assoc]
    rw[hfin]at HE;have cT:=Ws bw bw L wr HE.out.wr HE.out.s;clear hfin;go_wp2_with (go_at_call 78;refine cT.mono ?_;rintro e w7 ⟨rfl,Er⟩;have yo:=Aa Er;clear Er);go_ret;exact⟨rfl,by first|exact HE.out.b.trans yo.out|(rw[FU.out];exact HE.out.b.trans yo.out)⟩
end yS
end Go.Proofs.YtdmkhmeaphaapaaGreat
namespace Go.Proofs.YtdmkhmeaphaapaaGreat.V.St
open Go.RowKit Go.Sort
variable {X:List Value}
abbrev Ay (X:List Value)(w:World)(vb b F S A E:Nat)(img:ByteArray)(rv:Value)(op:Bool):Prop:=Af w vb 98 b F S A E ([.string img,rv,.bool op]++X)
section
variable {vb b F S A E:Nat}{img:ByteArray}{rv:Value}{op:Bool}{w:World}
theorem Ay.more (h:Ay X w vb b F S A E img rv op):w.cell? ⟨vb,5,none⟩=some (.string img)∧w.cell? ⟨vb,6,none⟩=some rv∧w.cell? ⟨vb,7,none⟩=some (.bool op):=by
 refine⟨?_,?_,?_⟩<;>(rw[AB w vb _ _ _ _ h];rfl)
theorem Ay.Il (h:Ay X w vb b F S A E img rv op)(x:Bool):Ay X (w.setCell ⟨vb,7,none⟩ (.bool x)) vb b F S A E img rv x:=by
 unfold Ay Af;rw[Bn w vb 7 _ _ _ h];simp[Xl]
theorem Ay.WH (h:Ay X w vb b F S A E img rv op)(x:Value):Ay X (w.setCell ⟨vb,6,none⟩ x) vb b F S A E img x op:=by
 unfold Ay Af;rw[Bn w vb 6 _ _ _ h];simp[Xl]
set_option maxHeartbeats 1000000 in
theorem oV (h:Ay X w vb b F S A E img rv op):Calls Tryz.prog 32 #[.pointer (some ⟨vb,0,none⟩)] w fun e w'=>e=.returned (.bool (!op))∧w=w':=by
 obtain⟨c5,c6,c7⟩:=h.more;clear h;cases op
 · go_enter Tryz.func32,Tryz.ntmps32;go_wp2;go_ret;exact⟨rfl,rfl⟩
 · go_enter Tryz.func32,Tryz.ntmps32;go_wp2;go_ret;exact⟨rfl,rfl⟩
set_option maxHeartbeats 1000000 in
theorem u7 (h:Ay X w vb b F S A E img rv op)(hS:S≤100000)(hA:A≤100000):Calls Tryz.prog 43 #[.pointer (some ⟨vb,0,none⟩)] w fun e w'=>e=.returned (.int .i64 ((S:Int)-(A:Int)))∧Below w.heap.size w w':=by
 have cR:=nZ h hS hA;clear h;go_enter Tryz.func43,Tryz.ntmps43;go_wp2_with fail;refine cR.mono ?_;rintro e w1 ⟨rfl,hb⟩;have HB:=Aa hb;clear hb cR;go_wp2;go_ret;exact⟨rfl,HB.out⟩
set_option maxHeartbeats 1000000 in
theorem xM (g n:Nat)(h:Ay X w vb b F S A E img rv false):Calls Tryz.prog 50 #[.pointer (some ⟨vb,0,none⟩),.slice (some ⟨g,0,none⟩) n n] w fun e w'=>e=.returned (.int .i64 13)∧w=w':=by
 obtain⟨c5,c6,c7⟩:=h.more;clear h;go_enter Tryz.func50,Tryz.ntmps50;go_wp2;go_ret;exact⟨rfl,rfl⟩
set_option maxHeartbeats 1000000 in
theorem rM (g n:Nat)(ks:List (Nat×Value))(I:Nat→World→Prop)(Q:Int→World→Prop)(h:Ay X w vb b F S A E img rv true)(hn:ks.length=n)(xe:n≤1000)(hc:∀k∈ks,Fg k.1)(h0:I 0 w)(hg:∀i W,I i W→Hr W g ks)
 (hs:∀i k W,ks[i]?=some k→I i W→Calls Tryz.prog k.1 #[k.2] W fun e w'=>∃q:Int,e=.returned (.int .i64 q)∧(q=0∧I (i+1) w'∨q≠0∧Q q w'))
 (hV:∀q W,(q=0∧I n W∨q≠0∧Q q W)→∃b F S A E img rv op,Ay X W vb b F S A E img rv op) :
 Calls Tryz.prog 50 #[.pointer (some ⟨vb,0,none⟩),.slice (some ⟨g,0,none⟩) n n] w fun e w'=>∃(q:Int) (w1:World),e=.returned (.int .i64 q)∧(q=0∧I n w1∨q≠0∧Q q w1)∧w'=w1.setCell ⟨vb,7,none⟩ (.bool (decide (q≠13))):=by
 obtain⟨c5,c6,c7⟩:=h.more;have cO:=Na g n ks w I Q hn xe hc h0 hg hs;unfold Nh at cO;have HV:=Aa hV;clear h hs hg hc h0 hV hn;go_enter Tryz.func50,Tryz.ntmps50;go_wp2_with fail;refine cO.mono ?_;rintro e w1 ⟨q,rfl,hq⟩;have HQ:=Aa hq;obtain⟨b',F',S',A',E',LV,rv',op',hv'⟩:=HV.out q w1 hq;have k7:=hv'.more.2.2;have f7:=hv'.frozen 7;clear hq hv' cO c5 c6 c7;by_cases MC:q=13
 · subst MC;go_wp2;go_ret;exact⟨13,w1,rfl,HQ.out,by simp⟩
 · have hqz:(q==13)=false:=by simpa using MC
   go_wp2;go_ret;exact⟨q,w1,rfl,HQ.out,by simp[MC,bne,hqz]⟩
end
structure FT (X:List Value)(B b vb n h:Nat)(k:Bool)(E A:Nat)(img:ByteArray)(rs r1 r2:List ByteArray)(lm:Bool)(st:St)(rv:Value)(W:World):Prop where
 live:Dx n h k E A img rs r1 r2 lm st
 dev:Dev B W b st
 Md:Ay X W vb b (BH h k) h A E img rv true
 row:CX B W rv rs
 hvb:B≤vb
structure NN (X:List Value)(B b vb n h:Nat)(k:Bool)(E:Nat)(r1 r2:List ByteArray)(fresh:ByteArray)(st:St)(W:World):Prop where
 dead:IX n h k E r1 r2 fresh st
 dev:Dev B W b st
 Md:∃A img rv,Ay X W vb b (BH h k) h A E img rv false
 hvb:B≤vb
section
variable {B b vb n h:Nat}{k:Bool}{E A:Nat}{img fresh:ByteArray}{rs r1 r2:List ByteArray}{lm:Bool}{st:St}{rv:Value}{W W':World}
theorem FT.below (hL:FT X B b vb n h k E A img rs r1 r2 lm st rv W)(hb:Below W.heap.size W W'):FT X B b vb n h k E A img rs r1 r2 lm st rv W':=
 ⟨hL.live,hL.dev.below hb,Af.below hL.Md hb,hL.row.below hb,hL.hvb⟩
theorem NN.below (hD:NN X B b vb n h k E r1 r2 fresh st W)(hb:Below W.heap.size W W'):NN X B b vb n h k E r1 r2 fresh st W':=by
 obtain⟨A,img,rv,hv⟩:=hD.Md;exact⟨hD.dead,hD.dev.below hb,⟨A,img,rv,Af.below hv hb⟩,hD.hvb⟩
end
end Go.Proofs.YtdmkhmeaphaapaaGreat.V.St
