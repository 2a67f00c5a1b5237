/- Kit. -/
import Derived.Test.YtdmkhmeaphaapaaGreatMZ13
import Derived.Test.YtdmkhmeaphaapaaGreatMZ16
import Derived.Laws.EntriesVeiled
import Derived.Test.YtdmkhmeaphaapaaGreatMZ9
import Derived.Test.YtdmkhmeaphaapaaGreatMZ0
set_option maxRecDepth 100000
set_option linter.unusedVariables false
set_option linter.unusedSimpArgs false
namespace Go.Proofs.YtdmkhmeaphaapaaGreat
open Go.RowKit Go.Sort
def fu (K:Nat→Int)(E:Nat→List Bq)(c:Int)(d:Nat)(e:Bq):Prop:=(1≤e.node∧e.node≤200)∧K e.node.toNat=0∧Ei e.name e.short=0∧EK (E d) e.name<0∧(Il (E d)<e.Am∧e.Am<c)∧¬QE E e.Am
section
variable {w:World}{b:Nat}{K:Nat→Int}{E:Nat→List Bq}{R:Nat→Value}{u:Nat}{v:Value}{ys:List Int}{c:Int}
set_option maxHeartbeats 8000000 in
theorem Tq (h:TM w b K E R u v ys c){d:Nat}(hd:d≤200)(hE:∀n,n≤200→(E n).length≤1000)(x:Bq)(hs:x.name.size≤9223372036854775807)(t:Bool)(ht:t=true↔fu K E c d x) :
 Calls Tryz.prog 174 #[Aj b,.int .i64 (d:Int),Df x] w fun e w'=>e=.returned (.bool t)∧Below w.heap.size w w':=by
 unfold fu at ht;obtain⟨nm,n0,dr,ck,sh⟩:=x;simp only at hs ht;unfold Df;simp only;have Zh:=Aa ht;have hb0:Below w.heap.size w (w.alloc (.cells #[.string nm,.int .i64 n0,.bool dr,.int .i64 ck,.int .i64 sh] 112)):=(Ad _ w).alloc (Ae _) _;have HB0:=Aa hb0;have HT0:=Aa (h.below hb0);have Ru:Hid ((w.alloc (.cells #[.string nm,.int .i64 n0,.bool dr,.int .i64 ck,.int .i64 sh] 112)).heap[w.heap.size]?=some (.cells #[.string nm,.int .i64 n0,.bool dr,.int .i64 ck,.int .i64 sh] 112 (0,0))):=Aa (Ai _ _);have HE:=Aa hE;have r9:=Aa hs;have HD:=Aa hd;clear hb0 h hE ht hs hd;go_enter Tryz.func174,Tryz.ntmps174;go_upto_region 1 with fail;generalize (w.alloc (.cells #[.string nm,.int .i64 n0,.bool dr,.int .i64 ck,.int .i64 sh] 112))=W0 at *;generalize Nn:w.heap.size=bO at *;obtain⟨⟨p0,p1,p2,p3,p4⟩,_⟩:=Ah Ru.out;by_cases g1:n0<1
 · have HF:Hid (t=false):=Aa (by cases t with|false=>rfl|true=>have:=(Zh.out.1 rfl).1.1;omega);have e1:=AX g1;go_quiet (fail);go_wp2;go_ret;exact⟨by rw[HF.out];rfl,by first|exact Ao HB0.out _|(rw[Nn];exact Ao HB0.out _)⟩
 have e1:=A7 g1;by_cases g2:200<n0
 · have HF:Hid (t=false):=Aa (by cases t with|false=>rfl|true=>have:=(Zh.out.1 rfl).1.2;omega);have e2:=AX g2;go_quiet (fail);go_wp2;go_ret;exact⟨by rw[HF.out];rfl,by first|exact Ao HB0.out _|(rw[Nn];exact Ao HB0.out _)⟩
 have e2:=A7 g2;obtain⟨n,rfl⟩:∃n:Nat,n0=n:=⟨n0.toNat,by omega⟩;have hn2:n≤200:=by omega
 have hn0:(0:Int)≤(n:Int):=by omega
 have hn1:(n:Int)<201:=by omega
 have k1:=(HT0.out.Lx hn2).1;have AaJ:((n:Int)).toNat=n:=DW n;rw[AaJ]at Zh;clear AaJ;by_cases g3:¬(K n=0)
 · have HF:Hid (t=false):=Aa (by cases t with|false=>rfl|true=>exact absurd (Zh.out.1 rfl).2.1 g3);have e3:(K n==0)=false:=A8.2 g3;generalize K n=kn at *;go_quiet (fail);go_wp2;go_ret;exact⟨by rw[HF.out];rfl,by first|exact Ao HB0.out _|(rw[Nn];exact Ao HB0.out _)⟩
 have g3:=Classical.not_not.1 g3;rw[g3]at k1;go_quiet (fail);have HB1:Hid (Below bO w (W0.drewN nq)):=Aa (Ao HB0.out _);have HBD:Hid (Below W0.heap.size W0 (W0.drewN nq)):=Aa (Ao (Ad _ _) _);have HT1:=Aa (HT0.out.below HBD.out);have Zc:=Aa ((HBD.out.block _ (Ab Ru.out)).trans Ru.out);clear p0 p1 p2 p3 p4 k1 HBD HT0 Ru HB0;generalize (W0.drewN nq)=W1 at *;obtain⟨⟨p0,p1,p2,p3,p4⟩,_⟩:=Ah Zc.out;have cA:=TL nm r9.out sh;by_cases g4:¬(Ei nm sh=0)
 · have HF:Hid (t=false):=Aa (by cases t with|false=>rfl|true=>exact absurd (Zh.out.1 rfl).2.2.1 g4);have e4:(Ei nm sh==0)=false:=A8.2 g4;generalize Ei nm sh=bd at *;go_wp2_with (go_at_call 166;refine(cA _).mono ?_;rintro e w2 ⟨rfl,hb2⟩;have HB2:=Aa hb2;clear hb2);go_ret;exact⟨by rw[HF.out];rfl,by first|exact HB1.out.trans (HB2.out.mono (Al (Nat.le_of_lt (Ab Zc.out)) (Ae _)))|(rw[Nn];exact HB1.out.trans (HB2.out.mono (Al (Nat.le_of_lt (Ab Zc.out)) (Ae _))))⟩
 have g4:=Classical.not_not.1 g4;rw[g4]at cA;have cP:Hid (∀W,Below W1.heap.size W1 W→Calls Tryz.prog 167 #[Aj b,.int .i64 (d:Int),.string nm] W fun e w'=>e=.returned (.int .i64 (EK (E d) nm))∧Below W.heap.size W w'):=Aa (fun W hW=>Ra (HT1.out.below hW) HD.out (HE.out d HD.out) nm);by_cases g5:¬(EK (E d) nm<0)
 · have HF:Hid (t=false):=Aa (by cases t with|false=>rfl|true=>exact absurd (Zh.out.1 rfl).2.2.2.1 g5);have e5:0≤EK (E d) nm:=by omega
   have e6:=AX e5;generalize EK (E d) nm=pl at *;go_wp2_with (first
    | (go_at_call 166;refine(cA _).mono ?_;rintro e w2 ⟨rfl,hb2⟩;have HB2:=Aa hb2;obtain⟨⟨p0,p1,p2,p3,p4⟩,_⟩:=Ah ((hb2.block _ (Ab Zc.out)).trans Zc.out);clear hb2)
    | (go_at_call 167;refine(cP.out _ HB2.out).mono ?_;rintro e w3 ⟨rfl,hb3⟩;have HB3:=Aa (HB2.out.trans (hb3.mono HB2.out.size));clear hb3))
   go_ret;exact⟨by rw[HF.out];rfl,by first|exact HB1.out.trans (HB3.out.mono (Nat.le_of_lt (Ab Zc.out)))|(rw[Nn];exact HB1.out.trans (HB3.out.mono (Nat.le_of_lt (Ab Zc.out))))⟩
 have g5:=Classical.not_not.1 g5;have e5:¬0≤EK (E d) nm:=by omega
 have e6:=A7 e5;generalize EK (E d) nm=pl at *;go_upto_region 5 with(first
  | (go_at_call 166;refine(cA _).mono ?_;rintro e w2 ⟨rfl,hb2⟩;have HB2:=Aa hb2;obtain⟨⟨p0,p1,p2,p3,p4⟩,_⟩:=Ah ((hb2.block _ (Ab Zc.out)).trans Zc.out);clear hb2)
  | (go_at_call 167;refine(cP.out _ HB2.out).mono ?_;rintro e w3 ⟨rfl,hb3⟩;have HB3:=Aa (HB2.out.trans (hb3.mono HB2.out.size));clear hb3))
 have HT3:=Aa (HT1.out.below HB3.out);have M5:=Aa ((HB3.out.block _ (Ab Zc.out)).trans Zc.out);have wz:=Aa (HB1.out.trans (HB3.out.mono (Nat.le_of_lt (Ab Zc.out))));have Xx:Hid (1≤(n:Int)∧(n:Int)≤200):=Aa ⟨by omega,by omega⟩;clear p0 p1 p2 p3 p4 cA cP HT1 Zc HB1 HB2 HB3 e5 e6 e1 e2 g1 g2;have M4:Hid (∀W,Below w3.heap.size w3 W→Below w3.heap.size w3 W∧W.cell? ⟨bO,3,none⟩=some (.int .i64 ck)∧W.cell? ⟨b,405,none⟩=some (.int .i64 c)):=Aa (fun W hW=>by
  obtain⟨⟨_,_,_,p3,_⟩,_⟩:=Ah ((hW.block _ (Ab M5.out)).trans M5.out);exact⟨hW,p3,(HT3.out.below hW).Mv.1⟩)
 have cL:Hid (∀W,Below w3.heap.size w3 W→Calls Tryz.prog 192 #[Aj b,.int .i64 (d:Int)] W fun e w'=>e=.returned (.int .i64 (Il (E d)))∧Below W.heap.size W w'):=Aa (fun W hW=>(OX (HT3.out.below hW) HD.out (HE.out d HD.out)).mono fun e w' h=>⟨h.1,by rw[h.2];exact Ad _ _⟩);have HLA:Hid (∀W,Below w3.heap.size w3 W→Calls Tryz.prog 192 #[Aj b,.int .i64 (d:Int)] W fun e w'=>e=.returned (.int .i64 (Il (E d)))∧W=w'):=Aa (fun W hW=>(OX (HT3.out.below hW) HD.out (HE.out d HD.out)).mono fun e w' h=>⟨h.1,h.2.symm⟩);have hfin:∀W,Below w3.heap.size w3 W→Below w.heap.size w W:=fun W hW=>by first|exact wz.out.trans (hW.mono (Nat.le_of_lt (Ab M5.out)))|(rw[Nn];exact wz.out.trans (hW.mono (Nat.le_of_lt (Ab M5.out))))
 have EZ:=Aa hfin;clear hfin;have hs3:=M4.out w3.drew (Ad _ _).drew;by_cases g6:¬(Il (E d)<ck)
 · have HF:Hid (t=false):=Aa (by cases t with|false=>rfl|true=>exact absurd (Zh.out.1 rfl).2.2.2.2.1.1 g6);have e7:=A7 g6;generalize Il (E d)=la at *;have cQ:∀q,Calls Tryz.prog 192 #[Aj b,.int .i64 (d:Int)] (w3.drewN q) fun e w'=>e=.returned (.int .i64 la)∧w3.drewN q=w':=fun q=>HLA.out _ (Ao (Ad _ _) q)
   obtain⟨_,p3,p4⟩:=M4.out w3 (Ad _ _);clear hs3;go_quiet ((go_at_call 192;exact Calls.quiet_of_same ((cQ _).mono fun _ _ h=>⟨h.1,h.2.symm⟩)));go_wp2;go_ret;exact⟨by rw[HF.out];rfl,by first|exact EZ.out _ (Ao (Ad _ _) _)|(rw[←Nn];exact EZ.out _ (Ao (Ad _ _) _))⟩
 have g6:=Classical.not_not.1 g6;have e7:=AX g6;by_cases g7:¬(ck<c)
 · have HF:Hid (t=false):=Aa (by cases t with|false=>rfl|true=>exact absurd (Zh.out.1 rfl).2.2.2.2.1.2 g7);have e8:=A7 g7;generalize Il (E d)=la at *;have cQ:∀q,Calls Tryz.prog 192 #[Aj b,.int .i64 (d:Int)] (w3.drewN q) fun e w'=>e=.returned (.int .i64 la)∧w3.drewN q=w':=fun q=>HLA.out _ (Ao (Ad _ _) q)
   obtain⟨_,p3,p4⟩:=M4.out w3 (Ad _ _);clear hs3;go_quiet ((go_at_call 192;exact Calls.quiet_of_same ((cQ _).mono fun _ _ h=>⟨h.1,h.2.symm⟩)));go_wp2;go_ret;exact⟨by rw[HF.out];rfl,by first|exact EZ.out _ (Ao (Ad _ _) _)|(rw[←Nn];exact EZ.out _ (Ao (Ad _ _) _))⟩
 have g7:=Classical.not_not.1 g7;have e8:=AX g7;obtain⟨hc,hhc,HF⟩:∃hc:Bool,(hc=true↔QE E ck)∧Hid (t=!hc):=by
  by_cases g8:QE E ck
  · exact⟨true,by simp[g8],Aa (by cases t with|false=>rfl|true=>exact absurd g8 (Zh.out.1 rfl).2.2.2.2.2)⟩
  · exact⟨false,by simp[g8],Aa (Zh.out.2 ⟨Xx.out,g3,g4,g5,⟨g6,g7⟩,g8⟩)⟩
 have cH:Hid (∀W,Below w3.heap.size w3 W→Calls Tryz.prog 193 #[Aj b,.int .i64 ck] W fun e w'=>e=.returned (.bool hc)∧Below W.heap.size W w'):=Aa (fun W hW=>Yy (HT3.out.below hW) HE.out ck hc hhc);clear hhc;generalize Il (E d)=la at *;go_region_held3 (fun W=>Below w3.heap.size w3 W∧W.cell? ⟨bO,3,none⟩=some (.int .i64 ck)∧W.cell? ⟨b,405,none⟩=some (.int .i64 c)) (first|assumption|(refine M4.out _ ?_;first|assumption|exact(Ad _ _).drew|exact CL ‹_›)) (first
  | (go_at_call 192;refine(cL.out _ (by first|assumption|exact(Ad _ _).drew)).mono ?_;rintro e w4 ⟨rfl,hb4⟩;have hq4:Below w3.heap.size w3 w4:=CV (Ae _) (by first|assumption|exact(Ad _ _).drew) hb4)
  | (go_at_call 193;refine(cH.out _ (by first|assumption|exact(Ad _ _).drew)).mono ?_;rintro e w5 ⟨rfl,hb5⟩;have Ue:Below w3.heap.size w3 w5:=CV (Ae _) (by first|assumption|exact(Ad _ _).drew) hb5))
 all_goals
  go_wp2;go_ret;exact⟨by rw[HF.out];rfl,EZ.out _ (by assumption)⟩
end
theorem YH {l:List Az}{c:Int}(hg:Aq l c){d:Nat}(hd:d≤200)(e:Bq):fu (Bl l) (Bf l) c d e↔Fits l c (d:Int) e:=by
 unfold fu Fits;have hp:EK (Bf l d) e.name<0↔∀y∈Ak l (d:Int),y.name≠e.name:=by
  rcases Ii (Bf l d) e.name with⟨h1,_,h2⟩|⟨i,x,h1,h2,h3,_⟩
  · exact⟨fun _=>h2,fun _=>by omega⟩
  · exact⟨fun h=>by omega,fun h=>absurd h3 (h x (Dr h2))⟩
 have hk:QE (Bf l) e.Am↔∃x∈l,x.e.Am=e.Am:=by
  unfold QE;constructor
  · rintro⟨n,hn,h⟩;obtain⟨y,hy,hc⟩:=List.any_eq_true.1 h;exact⟨⟨(n:Int),y⟩,Fv.1 hy,Fj hc⟩
  · rintro⟨x,hx,hc⟩;obtain⟨r1,r2⟩:=hg.KA hx;refine⟨x.BG.toNat,by omega,List.any_eq_true.2 ⟨x.e,?_,AX hc⟩⟩;show x.e∈Ak l ((x.BG.toNat:Nat):Int)
    rw[show((x.BG.toNat:Nat):Int)=x.BG by omega];exact Fv.2 hx
 have hh:(¬QE (Bf l) e.Am)↔∀x∈l,x.e.Am≠e.Am:=by
  rw[hk];exact⟨fun h x hx hc=>h ⟨x,hx,hc⟩,fun h ⟨x,hx,hc⟩=>h x hx hc⟩
 rw[hp,hh];constructor
 · rintro⟨h1,h2,h3⟩;rw[Io l (by omega)]at h2;exact⟨h1,h2,h3⟩
 · rintro⟨h1,h2,h3⟩;exact⟨h1,by rw[Io l (by omega)];exact h2,h3⟩
theorem je {G:Cr}{c:Int}{k:Nat}{l:List Az}{f:Nat}{d:Int}{e:Bq}(hg:Aq l c)(hd:AO l d=2)(hf:Fits l c d e)(he:e.dir=true)(hr:(Gi G c k e.node (l++[⟨d,e⟩],f)).1=true)(hfl:f≤(l++[(⟨d,e⟩:Az)]).length) :
 Aq (Gi G c k e.node (l++[⟨d,e⟩],f)).2.1 c∧AO (Gi G c k e.node (l++[⟨d,e⟩],f)).2.1 d=2∧l.length<(Gi G c k e.node (l++[⟨d,e⟩],f)).2.1.length∧(Gi G c k e.node (l++[⟨d,e⟩],f)).2.2≤(Gi G c k e.node (l++[⟨d,e⟩],f)).2.1.length+1:=by
 have hg1:=KE hg hd hf;have hk1:AO (l++[⟨d,e⟩]) e.node=2:=by rw[OZ hf.2.1,if_pos he]
 have hn1:Ak (l++[⟨d,e⟩]) e.node=[]:=by
  rw[Dc,hg.uo (by rw[hf.2.1];decide),Hm];refine F3 fun x hx e2=>?_
  rw[CU]at hx;subst hx;have e3:d=e.node:=e2;rw[e3,hf.2.1]at hd;omega
 obtain⟨A,a1,a2,a3⟩:=Ro G c k e.node (l++[⟨d,e⟩]) f hg1 hk1 hn1 hr;rw[a1];have hdl:(Bn A).length≤A.length:=by
  unfold Bn;rw[Em];exact List.length_filter_le _ _
 have hd1:AO (l++[⟨d,e⟩]) d=2:=by rw[EP (by omega)];exact hd
 refine⟨a2.good,by show AO (l++[⟨d,e⟩]++A) d=2;rw[EP (by omega)];exact hd1,?_,?_⟩
 · simp only[List.length_append,List.length_cons,List.length_nil];omega
 · simp only[List.length_append]at hfl ⊢;omega
theorem RH {W:World}{k q:Nat}{cs cs':Array Value}{t t':TypeId}{fr fr':Nat×Nat}(h:W.heap[k]?=some (.cells cs t fr))(h':W.heap[q]?=some (.cells cs' t' fr'))(ht:t≠t'):k≠q:=by
 rintro rfl;rw[h]at h';injection h' with h';injection h' with _ h2 _;exact ht h2
structure J5 (w0:World)(b mb A B C D:Nat)(c:Int)(l:List Az)(f:Nat)(W:World):Prop where
 tm:∃R,TM W b (Bl l) (Bf l) R 0 (.slice none 0 0) [] c
 a:W.heap[A]?=some (.cells #[.map (some mb)] 235 (0,0))
 n:W.heap[B]?=some (.cells #[.int .i64 (f:Int)] 3 (0,0))
 t:W.heap[C]?=some (.cells #[Aj b] 55 (0,0))
 f:W.heap[D]?=some (.cells #[.func (.func 173) #[] #[Aj A,Aj B,Aj C,Aj D]] 229 (0,0))
 b0:Below w0.heap.size w0 W
 hb:w0.heap.size≤b
 hB:w0.heap.size≤B
section
variable {w0 W W':World}{b mb A B C D:Nat}{c:Int}{l:List Az}{f:Nat}
theorem Vq {K:Nat→Int}{E:Nat→List Bq}{R:Nat→Value}(h:TM W b K E R 0 (.slice none 0 0) [] c){k:Nat}(hk:DV b R (.slice none 0 0) k):∃cs t,W.heap[k]?=some (.cells cs t (0,0))∧(t=96∨t=112):=by
 rcases hk with rfl|⟨n,hn,hg⟩|hg
 · obtain⟨cs,h1,_⟩:=h.cells;exact⟨_,_,h1,Or.inl rfl⟩
 · obtain⟨cs,h1⟩:=Cz (h.rows n hn) hg;exact⟨_,_,h1,Or.inr rfl⟩
 · cases hg
theorem J5.below (h:J5 w0 b mb A B C D c l f W)(hb:Below W.heap.size W W'):J5 w0 b mb A B C D c l f W':=by
 obtain⟨R,ht⟩:=h.tm;exact⟨⟨R,ht.below hb⟩,(hb.block _ (Ab h.a)).trans h.a,(hb.block _ (Ab h.n)).trans h.n,(hb.block _ (Ab h.t)).trans h.t,(hb.block _ (Ab h.f)).trans h.f,h.b0.trans (hb.mono h.b0.size),h.hb,h.hB⟩
theorem J5.count (h:J5 w0 b mb A B C D c l f W)(f':Nat):J5 w0 b mb A B C D c l f' (W.setCell ⟨B,0,none⟩ (.int .i64 (f':Int))):=by
 obtain⟨R,ht⟩:=h.tm;have hne:∀k,k≠B→(W.setCell ⟨B,0,none⟩ (.int .i64 (f':Int))).heap[k]?=W.heap[k]?:=fun k hk=>Bw _ _ _ _ hk
 refine⟨⟨R,ht.kept fun k hk=>?_⟩,?_,?_,?_,?_,h.b0.setCell (p:=⟨B,0,none⟩) h.hB _,h.hb,h.hB⟩
 · obtain⟨cs,t,h1,h2⟩:=Vq ht hk;exact hne k (RH h1 h.n (by rcases h2 with rfl|rfl<;>decide))
 · rw[hne _ (RH h.a h.n (by decide))];exact h.a
 · rw[Bj _ B 0 _ _ _ h.n];rfl
 · rw[hne _ (RH h.t h.n (by decide))];exact h.t
 · rw[hne _ (RH h.f h.n (by decide))];exact h.f
theorem J5.put (h:J5 w0 b mb A B C D c l f W){R R':Nat→Value}(hR:TM W b (Bl l) (Bf l) R 0 (.slice none 0 0) [] c){d:Nat}{e:Bq}{nd:Nat}(hnd:e.node=nd)(h1:1≤nd)(h0:Bl l nd=0)
 (ht:TM W' b (upd (Bl l) nd (kindOf e.dir)) (upd (Bf l) d (Bf l d++[e])) R' 0 (.slice none 0 0) [] c) (htr:Trod W W' (DV b R (.slice none 0 0)) (DV b R' (.slice none 0 0))):J5 w0 b mb A B C D c (l++[⟨(d:Int),e⟩]) f W':=by
 have hout:∀{q:Nat} {cs:Array Value} {t:TypeId} {fr:Nat×Nat},W.heap[q]?=some (.cells cs t fr)→(t≠96∧t≠112)→W'.heap[q]?=some (.cells cs t fr):=by
  intro q cs t fr hq hne;rw[htr.rest q (Ab hq) (fun hs=>by
   obtain⟨cs',t',h2,h3⟩:=Vq hR hs;rw[hq]at h2;injection h2 with h2;injection h2 with _ h4 _;rcases h3 with h3|h3
   · exact hne.1 (h4.trans h3)
   · exact hne.2 (h4.trans h3))]
  exact hq
 have hlow:=htr.low (B:=w0.heap.size) h.b0.size (fun k hk=>Al h.hb (hR.lt k hk).1);refine⟨⟨R',?_⟩,hout h.a (by decide),hout h.n (by decide),hout h.t (by decide),hout h.f (by decide),h.b0.trans hlow.1,h.hb,h.hB⟩;rw[K8 l (d:Int) e hnd h1 h0,NQ];exact ht
end
theorem AaZ {c:Int}{rec:Int→List Az×Nat→Bool×(List Az×Nat)}{d:Int}{e:Bq}{es:List Bq}{l:List Az}{f:Nat}(h:¬Fits l c d e):Eu c rec d (e::es) (l,f)=(false,(l,f)):=by
 rw[Eu];exact if_neg h
theorem vz {c:Int}{rec:Int→List Az×Nat→Bool×(List Az×Nat)}{d:Int}{e:Bq}{es:List Bq}{l:List Az}{f:Nat}(h:Fits l c d e)(he:e.dir=false):Eu c rec d (e::es) (l,f)=Eu c rec d es (l++[⟨d,e⟩],f):=by
 rw[Eu,if_pos h,if_neg (by rw[he];decide)]
theorem zb {c:Int}{rec:Int→List Az×Nat→Bool×(List Az×Nat)}{d:Int}{e:Bq}{es:List Bq}{l:List Az}{f:Nat}(h:Fits l c d e)(he:e.dir=true)(hr:(rec e.node (l++[⟨d,e⟩],f)).1=false):(Eu c rec d (e::es) (l,f)).1=false:=by
 rw[Eu,if_pos h,if_pos he,if_neg (by show ¬(rec e.node (l++[⟨d,e⟩],f)).1=true;rw[hr];decide)]
theorem za {c:Int}{rec:Int→List Az×Nat→Bool×(List Az×Nat)}{d:Int}{e:Bq}{es:List Bq}{l:List Az}{f:Nat}(h:Fits l c d e)(he:e.dir=true)(hr:(rec e.node (l++[⟨d,e⟩],f)).1=true):Eu c rec d (e::es) (l,f)=Eu c rec d es (rec e.node (l++[⟨d,e⟩],f)).2:=by
 rw[Eu,if_pos h,if_pos he,if_pos (by exact hr)]
structure bu (G:Cr):Prop where
 len:∀q es,G q=some es→es.length≤100000
 name:∀q es,G q=some es→∀e∈es,e.name.size≤9223372036854775807
def TV (w0:World)(b mb A B C D:Nat)(c:Int)(r:Bool×(List Az×Nat))(e:Ending)(w':World):Prop:=
 e=.returned (.bool r.1)∧Below w0.heap.size w0 w'∧(r.1=true→J5 w0 b mb A B C D c r.2.1 r.2.2 w')
set_option maxHeartbeats 8000000 in
theorem pF (w0:World)(b mb n A B C D:Nat)(F:Int→Option Value)(G:Cr)(c:Int)(hm:Ls w0 mb n F G)(hsm:bu G):∀(k:Nat) (d:Nat) (l:List Az) (f:Nat) (W:World),d≤200→Aq l c→AO l (d:Int)=2→201≤l.length+k→f≤l.length→J5 w0 b mb A B C D c l f W →
 Calls Tryz.prog 173 #[.int .i64 (d:Int),Aj A,Aj B,Aj C,Aj D] W (TV w0 b mb A B C D c (Gi G c k (d:Int) (l,f)))
 | 0,d,l,f,W,hd,hg,hk2,hfu,hf,hw=>by
  have:=hg.len;omega
 | k+1,d,l,f,W,hd,hg,hk2,hfu,hf,hw=>by
  have IH:=fun d l f W h1 h2 h3 h4 h5 h6=>pF w0 b mb n A B C D F G c hm hsm k d l f W h1 h2 h3 h4 h5 h6
  unfold TV at IH ⊢;have HM:=Aa hm;have r9:=Aa hsm;have HD:=Aa hd;have HG:=Aa hg;have sw:=Aa hk2;have HFU:=Aa hfu;have HF:=Aa hf;have HW:=Aa hw;have hll:=hg.len;have c0:W.cell? ⟨A,0,none⟩=some (.map (some mb)):=Av hw.a 0;have hdi:GY (d:Int):=⟨by omega,by omega⟩;obtain⟨v,es,he,hes,dZ,_⟩:=hm.look hw.b0 hdi;obtain⟨RR,hRR⟩:∃RR,Gi G c (k+1) (d:Int) (l,f)=RR:=⟨_,rfl⟩;have YA:=hRR;unfold Gi at YA;rw[hRR];clear hRR hw hm hsm hg hk2 hfu;cases hG:G (d:Int) with
  | none =>
   rw[hG]at dZ YA;simp only at YA;subst YA;clear hG he hes;go_enter Tryz.func173,Tryz.ntmps173;go_wp2;go_ret;exact⟨rfl,HW.out.b0,fun h=>by cases h⟩
  | some es2 =>
   rw[hG]at dZ YA hes;simp only[Option.getD_some]at hes;subst hes;simp only at YA;have HRR:=Aa YA;have HES:=Aa he;have hle:=r9.out.len _ _ hG;have HNM:=Aa (r9.out.name _ _ hG);obtain⟨av,cap,rfl⟩:=he.len;obtain⟨m,hm⟩:∃m,es2.length=m:=⟨_,rfl⟩;have HMM:=Aa hm;rw[hm]at hle dZ he;rw[hm]at HES;have c1:W.cell? ⟨B,0,none⟩=some (.int .i64 (f:Int)):=Av HW.out.n 0;have c2:W.frozen? ⟨B,0,none⟩=false:=BA HW.out.n 0;have hwf:IntKind.i64.wrap ((f:Int)+1)=((f+1:Nat):Int):=by rw[El];omega
   clear YA hG hm he;go_enter Tryz.func173,Tryz.ntmps173;go_upto_region 5 with fail;have HW1:Hid (J5 w0 b mb A B C D c l (f+1) (W.setCell ⟨B,0,none⟩ (.int .i64 ((f:Int)+1)))):=Aa (HW.out.count (f+1));generalize (W.setCell ⟨B,0,none⟩ (.int .i64 ((f:Int)+1)))=W1 at *;clear c0 c1 c2 dZ hwf;go_wp2;go_loopw [23] (fun iv wr=>∃(i:Nat) (l1:List Az) (f1:Nat),i≤m∧iv=.int .i64 i∧J5 w0 b mb A B C D c l1 f1 wr∧Aq l1 c∧AO l1 (d:Int)=2∧200≤l1.length+k∧f1≤l1.length+1∧Eu c (Gi G c k) (d:Int) (es2.drop i) (l1,f1)=RR) (fun iv _=>m-(intOf iv).toNat)
   case atStart=>exact⟨0,l,f+1,by omega,rfl,HW1.out,HG.out,sw.out,by have:=HFU.out;omega,by omega,by rw[List.drop_zero];exact HRR.out⟩
   case round =>
    clear HW1 HRR HW HFU HG sw;obtain⟨i,l1,f1,hi,rfl,hw1,hg1,hd1,hf1,hc1,hgo⟩:=hrel;have GK:=Aa hgo;have HW1:=Aa hw1;have Nf:=Aa hg1;have HD1:=Aa hd1;have Uh:=Aa hf1;have xG:=Aa hc1;have AcJ:=hg1.len;clear hgo hw1 hg1 hd1 hf1 hc1;by_cases him:i<m
    · have hiz:(i:Int)<(m:Int):=by omega
      obtain⟨x,hx⟩:∃x,es2[i]?=some x:=⟨_,Ci (by rw[HMM.out];omega)⟩;obtain⟨g,off,rfl,hg,hrr⟩:=HES.out.at hx;obtain⟨d0,d1,d2,d3,d4⟩:=Ia (DI hrr hg HW1.out.b0);have hdrop:=Dh hx;have j5:Hid (Eu c (Gi G c k) (d:Int) (x::es2.drop (i+1)) (l1,f1)=RR):=Aa (by rw[←hdrop];exact GK.out);have hnm:=HNM.out x (Dr hx);clear hdrop GK hrr hg hx;obtain⟨R,dX⟩:=HW1.out.tm;have rZ:=Aa dX;have hbw:Below wr.heap.size wr (wr.alloc (.cells #[.string x.name,.int .i64 x.node,.bool x.dir,.int .i64 x.Am,.int .i64 x.short] 112)):=(Ad _ _).alloc (Ae _) _;have HW2:=Aa (HW1.out.below hbw);have vV:=Aa (dX.below hbw);have HNF:Hid (¬DV b R (.slice none 0 0) wr.heap.size):=Aa (fun hk=>by have:=(dX.lt _ hk).2;omega);have J4:Hid ((wr.alloc (.cells #[.string x.name,.int .i64 x.node,.bool x.dir,.int .i64 x.Am,.int .i64 x.short] 112)).heap[wr.heap.size]?=some (.cells #[.string x.name,.int .i64 x.node,.bool x.dir,.int .i64 x.Am,.int .i64 x.short] 112 (0,0))):=Aa (Ai _ _);clear hbw dX rZ;go_upto_region 8 with fail;generalize (wr.alloc (.cells #[.string x.name,.int .i64 x.node,.bool x.dir,.int .i64 x.Am,.int .i64 x.short] 112))=W2 at *;generalize wr.heap.size=q at *;clear d0 d1 d2 d3 d4;have e1:W2.cell? ⟨C,0,none⟩=some (Aj b):=Av HW2.out.t 0;obtain⟨⟨p0,p1,p2,p3,p4⟩,_⟩:=Ah J4.out;by_cases hfit:Fits l1 c (d:Int) x
      · have cFi:=Tq vV.out HD.out (fun n hn=>Al (Nf.out.NR n) (by omega)) x hnm true (by rw[YH Nf.out HD.out];exact⟨fun _=>hfit,fun _=>rfl⟩);unfold Df at cFi;go_upto_region 10 with(go_at_call 174;refine cFi.mono ?_;rintro e w3 ⟨rfl,hb3⟩;have HB3:=Aa hb3;clear hb3);have HW3:=Aa (HW2.out.below HB3.out);have zK:=Aa (vV.out.below HB3.out);have M5:=Aa ((HB3.out.block _ (Ab J4.out)).trans J4.out);clear e1 p0 p1 p2 p3 p4 cFi HW2 vV J4 HB3;have e1:w3.cell? ⟨C,0,none⟩=some (Aj b):=Av HW3.out.t 0;obtain⟨⟨p0,p1,p2,p3,p4⟩,_⟩:=Ah M5.out;obtain⟨nd,hnd⟩:∃nd:Nat,x.node=nd:=⟨x.node.toNat,by have:=hfit.1;omega⟩;have yJ:1≤nd∧nd≤200:=by have:=hfit.1;omega
        have h0:Bl l1 nd=0:=by show AO l1 (nd:Int)=0;rw[←hnd];exact hfit.2.1
        have cPu:=UZ zK.out HD.out (Al (Nf.out.NR d) (by omega)) x hnd yJ.2 (by have:=Qd hfit.2.2.1;omega);unfold EC Df at cPu;have HND:=Aa hnd;have xx:=Aa yJ;have HH0:=Aa h0;have LJ:=Aa hfit;clear hnd yJ h0 hfit;go_upto_region 11 with(go_at_call 169;refine cPu.mono ?_;rintro e w4 ⟨R4,rfl,wL,AaA⟩;have kC:=Aa wL;have zJ:=Aa AaA;clear wL AaA);have HW4:=Aa (HW3.out.put zK.out HND.out xx.out.1 HH0.out kC.out zJ.out);have xw:=Aa ((zJ.out.rest q (Ab M5.out) HNF.out).trans M5.out);clear e1 p0 p1 p2 p3 p4 cPu HW3 zK M5 kC zJ;obtain⟨⟨p0,p1,p2,p3,p4⟩,_⟩:=Ah xw.out;have HG4:=Aa (KE Nf.out HD1.out LJ.out);cases NK:x.dir with
        | false =>
         rw[NK]at p2;have Xp:=Aa (j5.out.symm.trans (vz LJ.out NK));have HD4:Hid (AO (l1++[⟨(d:Int),x⟩]) (d:Int)=2):=Aa (by rw[EP (by have:=HD1.out;omega)];exact HD1.out);clear NK;go_wp2;go_roundw
         case rel=>exact⟨i+1,_,f1,by omega,by first|rfl|go_num,HW4.out,HG4.out,HD4.out,by have:=Uh.out;simp;omega,by have:=xG.out;simp;omega,Xp.out.symm⟩
         case measure=>simp[intOf];omega
        | true =>
         rw[NK]at p2;have e2:w4.cell? ⟨D,0,none⟩=some (.func (.func 173) #[] #[Aj A,Aj B,Aj C,Aj D]):=Av HW4.out.f 0;have hk4:AO (l1++[⟨(d:Int),x⟩]) (nd:Int)=2:=by rw[←HND.out,OZ LJ.out.2.1,if_pos NK]
         have wP:(l1++[(⟨(d:Int),x⟩:Az)]).length=l1.length+1:=by simp
         have cI:=IH nd _ f1 w4 xx.out.2 HG4.out hk4 (by have:=Uh.out;omega) (by have:=xG.out;omega) HW4.out;rw[←HND.out]at cI;cases hr:(Gi G c k x.node (l1++[⟨(d:Int),x⟩],f1)).1 with
         | false =>
          have Xp:Hid (RR.1=false):=Aa (by rw[←j5.out];exact zb LJ.out NK hr);rw[hr]at cI;clear hr NK hk4 wP;go_wp2_with (go_at_call 173;refine cI.mono ?_;rintro e w5 ⟨rfl,hb5,_⟩;have JG:=Aa hb5;clear hb5);go_ret;exact⟨by rw[Xp.out];rfl,JG.out,fun h=>by rw[Xp.out]at h;cases h⟩
         | true =>
          have Xp:Hid (Eu c (Gi G c k) (d:Int) (es2.drop (i+1)) (Gi G c k x.node (l1++[⟨(d:Int),x⟩],f1)).2=RR):=Aa (by rw[←j5.out];exact(za LJ.out NK hr).symm);obtain⟨s1,s2,s3,s4⟩:=je Nf.out HD1.out LJ.out NK hr (by have:=xG.out;omega);have S1:=Aa s1;have S2:=Aa s2;have S3:=Aa s3;have S4:=Aa s4;rw[hr]at cI;clear hr NK hk4 wP s1 s2 s3 s4;generalize Gi G c k x.node (l1++[⟨(d:Int),x⟩],f1)=Z at *;go_wp2_with (go_at_call 173;refine cI.mono ?_;rintro e w5 ⟨rfl,hb5,hw5⟩;have Xv:=Aa (hw5 rfl);clear hb5 hw5);go_roundw
          case rel=>exact⟨i+1,Z.2.1,Z.2.2,by omega,by first|rfl|go_num,Xv.out,S1.out,S2.out,by have:=Uh.out;have:=S3.out;omega,S4.out,Xp.out⟩
          case measure=>simp[intOf];omega
      · have cFi:=Tq vV.out HD.out (fun n hn=>Al (Nf.out.NR n) (by omega)) x hnm false (by rw[YH Nf.out HD.out];exact⟨fun h=>(by cases h),fun h=>absurd h hfit⟩);have Xp:=Aa (j5.out.symm.trans (AaZ hfit));unfold Df at cFi;clear hfit;go_wp2_with (go_at_call 174;refine cFi.mono ?_;rintro e w3 ⟨rfl,hb3⟩;have HB3:=Aa hb3;clear hb3);go_ret;refine⟨by rw[Xp.out];rfl,(HW2.out.below HB3.out).b0,fun h=>by rw[Xp.out]at h;cases h⟩
    · have hiz:¬(i:Int)<(m:Int):=by omega
      have j5:Hid (RR=(true,(l1,f1))):=Aa (by
       rw[←GK.out,Jk (by rw[HMM.out];omega)];rfl)
      go_wp2;go_ret;rw[j5.out];exact⟨rfl,HW1.out.b0,fun _=>HW1.out⟩
end Go.Proofs.YtdmkhmeaphaapaaGreat
namespace Go.Proofs.YtdmkhmeaphaapaaGreat
open Go.RowKit Go.Sort
theorem uk {w:World}{v:Value}{l:List Int}(h:JZ w v l):Eo w v l:=by
 rcases h with h|⟨g,off,cap,hg,hv,hc⟩
 · exact Or.inl h
 · refine Or.inr ⟨g,off,cap,hg,hv,fun j hj=>?_⟩;have h1:=hc j l[j] (Ci hj);have h2:=h1 0 (.int .i64 l[j]) rfl;rw[FK,Ci hj];simpa using h2
def EH (K:Nat→Int):Nat→List Int
 | 0=>[]
 | n+1=>EH K n++(if n≠0∧K n≠0 then [(n:Int)] else [])
theorem RF (K:Nat→Int):∀n,(EH K n).length≤n
 | 0=>Ae _
 | n+1=>by
  have:=RF K n;unfold EH;rw[Bg];split<;>simp<;>omega
theorem PH (K:Nat→Int):∀(n:Nat) (x:Int),x∈EH K n↔∃m:Nat,m<n∧m≠0∧K m≠0∧x=m
 | 0,x=>by unfold EH;simp
 | n+1,x=>by
  unfold EH;rw[FB,PH K n x];constructor
  · rintro(⟨m,h1,h2⟩|h)
    · exact⟨m,by omega,h2⟩
    · by_cases hc:n≠0∧K n≠0
      · rw[if_pos hc,CU]at h;exact⟨n,by omega,hc.1,hc.2,h⟩
      · rw[if_neg hc]at h;cases h
  · rintro⟨m,h1,h2,h3,h4⟩;by_cases e:m=n
    · subst e;rw[if_pos ⟨h2,h3⟩];exact Or.inr (CU.2 h4)
    · exact Or.inl ⟨m,by omega,h2,h3,h4⟩
def Pm (X:List Int)(w:World)(e:Ending)(w':World):Prop:=∃v,e=.returned v∧Eo w' v X∧Below w.heap.size w w'
section
variable {w:World}{b:Nat}{K:Nat→Int}{E:Nat→List Bq}{R:Nat→Value}{u:Nat}{v:Value}{ys:List Int}{c:Int}
set_option maxHeartbeats 8000000 in
theorem xL (h:TM w b K E R u v ys c)(hK:∀n,n≤200→K n=0∨K n=1∨K n=2):Calls Tryz.prog 175 #[Aj b] w (Pm (EH K 201) w):=by
 unfold Pm;have HT:=Aa h;have HKK:=Aa hK;obtain⟨X,hX⟩:∃X,EH K 201=X:=⟨_,rfl⟩;rw[hX];have HX:=Aa hX;clear h hX hK;go_enter Tryz.func175,Tryz.ntmps175;go_wp2;go_loopw [3,5] (fun ov iv wr=>∃n:Nat,n≤201∧iv=.int .i64 n∧wr.ownsRow w.heap.size 3 1 ov (EH K n).length ((EH K n).flatMap Gx)∧Below w.heap.size w wr) (fun _ iv _=>201-(intOf iv).toNat)
 case atStart=>exact⟨0,by omega,rfl,FM _ _ _ _,Ad _ _⟩
 case round =>
  obtain⟨n,hn,rfl,hrow,hb⟩:=hrel;have HW:=Aa hrow;have FJ:=Aa hb;have hdl:=RF K n;have LF:Hid (EH K (n+1)=EH K n++(if n≠0∧K n≠0 then [(n:Int)] else [])):=Aa rfl;have hsz:=hb.size;by_cases hn2:n≤200
  · have hnz:(n:Int)<201:=by omega
    have hn0:(0:Int)≤(n:Int):=by omega
    have c1:=((HT.out.below hb).Lx hn2).1;clear hrow hb;by_cases hz:n=0
    · subst hz;have HS2:Hid (EH K (0+1)=EH K 0):=Aa (by rw[LF.out,if_neg (by omega),Ct]);clear LF c1;go_wp2;go_roundw
      case rel=>exact⟨0+1,by omega,by first|rfl|go_num,by rw[HS2.out];exact HW.out,FJ.out⟩
      case measure=>simp[intOf]<;>omega
    · have hzb:((n:Int)==0)=false:=by rw[A8];omega
      have hzc:¬(n:Int)=0:=by omega
      have hzn:((n:Int)!=0)=true:=by rw[bne,hzb];rfl
      have hze:¬n=0:=hz;have hzd:¬n=0:=hz;by_cases hk:K n=0
      · rw[hk]at c1;have HS2:Hid (EH K (n+1)=EH K n):=Aa (by rw[LF.out,if_neg (fun e=>e.2 hk),Ct]);clear hk LF;go_wp2;go_roundw
        case rel=>exact⟨n+1,by omega,by first|rfl|go_num,by rw[HS2.out];exact HW.out,FJ.out⟩
        case measure=>simp[intOf];omega
      · have HS2:Hid (EH K (n+1)=EH K n++[(n:Int)]):=Aa (by rw[LF.out,if_pos ⟨hz,hk⟩]);clear LF hzd hz;have AbI:=(HKK.out n hn2).resolve_left hk;clear hk;rcases AbI with hk|hk
        · rw[hk]at c1;clear hk;have Ns:Hid (World.ownsRow (wr.alloc (.cells #[.int .i64 (n:Int)] 3)) w.heap.size 3 1 u3 (EH K n).length ((EH K n).flatMap Gx)):=Aa (HW.out.alloc _);have rA:Hid (JZ (wr.alloc (.cells #[.int .i64 (n:Int)] 3)) (.slice (some ⟨wr.heap.size,0,none⟩) 1 1) [(n:Int)]):=Aa (AU.block (Du _) (Ai _ _));have hsa:w.heap.size≤(wr.alloc (.cells #[.int .i64 (n:Int)] 3)).heap.size:=by show _≤(wr.heap.push _).size;simp;omega
          have Qh:=Aa hsa;have LK:Hid (Below w.heap.size w (wr.alloc (.cells #[.int .i64 (n:Int)] 3))):=Aa (FJ.out.alloc hsz _);have hlen:(EH K n).length+[(n:Int)].length≤100000:=by simp;omega
          clear hsa;go_wp2_with (at_builtin;refine AY MR rfl _ _ rfl w.heap.size _ _ _ rfl Ns.out _ [(n:Int)] (Du _) (Kr _) rfl rA.out hlen Qh.out ?_;intro v8 w8 Gg Gy KC;have rJ:=Aa (LK.out.grown Gy Qh.out (fun j hj=>(Ns.out.lt j hj).1));have qX:=Aa Gg;clear Gg Gy KC);go_roundw
          case rel=>exact⟨n+1,by omega,by first|rfl|go_num,by rw[HS2.out,Bg,FL];exact qX.out,rJ.out⟩
          case measure=>simp[intOf];omega
        · rw[hk]at c1;clear hk;have Ns:Hid (World.ownsRow (wr.alloc (.cells #[.int .i64 (n:Int)] 3)) w.heap.size 3 1 u3 (EH K n).length ((EH K n).flatMap Gx)):=Aa (HW.out.alloc _);have rA:Hid (JZ (wr.alloc (.cells #[.int .i64 (n:Int)] 3)) (.slice (some ⟨wr.heap.size,0,none⟩) 1 1) [(n:Int)]):=Aa (AU.block (Du _) (Ai _ _));have hsa:w.heap.size≤(wr.alloc (.cells #[.int .i64 (n:Int)] 3)).heap.size:=by show _≤(wr.heap.push _).size;simp;omega
          have Qh:=Aa hsa;have LK:Hid (Below w.heap.size w (wr.alloc (.cells #[.int .i64 (n:Int)] 3))):=Aa (FJ.out.alloc hsz _);have hlen:(EH K n).length+[(n:Int)].length≤100000:=by simp;omega
          clear hsa;go_wp2_with (at_builtin;refine AY MR rfl _ _ rfl w.heap.size _ _ _ rfl Ns.out _ [(n:Int)] (Du _) (Kr _) rfl rA.out hlen Qh.out ?_;intro v8 w8 Gg Gy KC;have rJ:=Aa (LK.out.grown Gy Qh.out (fun j hj=>(Ns.out.lt j hj).1));have qX:=Aa Gg;clear Gg Gy KC);go_roundw
          case rel=>exact⟨n+1,by omega,by first|rfl|go_num,by rw[HS2.out,Bg,FL];exact qX.out,rJ.out⟩
          case measure=>simp[intOf];omega
  · have hnz:¬(n:Int)<201:=by omega
    obtain rfl:n=201:=by omega
    rw[HX.out]at HW;have HE:Hid (JZ wr u3 X):=Aa (AU.own (Du _) HW.out rfl);clear hrow hb;go_wp2;go_ret;exact⟨_,rfl,uk HE.out,FJ.out⟩
end
end Go.Proofs.YtdmkhmeaphaapaaGreat
namespace Go.Proofs.YtdmkhmeaphaapaaGreat
open Go.RowKit Go.Sort
theorem nz (m:Nat)(M:List Bool)(x:Int)(n:Nat)(hM:M.length=201)(hn:n≤200):(wI m M x).getD n false=(M.getD n false||decide (1≤x∧x≤(m:Int)∧x=(n:Int))):=by
 unfold wI;split
 · rename_i h;rw[FK,FK,List.getElem?_set];by_cases e:x.toNat=n
   · rw[if_pos e,if_pos (by omega),AX (by omega:1≤x∧x≤(m:Int)∧x=(n:Int))];simp
   · rw[if_neg e,A7 (by omega:¬(1≤x∧x≤(m:Int)∧x=(n:Int)))];simp
 · rename_i h;rw[A7 (fun h2=>h ⟨h2.1,h2.2.1⟩)];simp
theorem Va (m:Nat)(n:Nat)(hn:n≤200):∀(l:List Int) (M:List Bool),M.length=201→(l.foldl (wI m) M).getD n false=(M.getD n false||decide ((n:Int)∈l∧1≤n∧n≤m))
 | [],M,_=>by simp
 | x::l,M,hM=>by
  rw[List.foldl_cons,Va m n hn l _ ((dM m M x).trans hM),nz m M x n hM hn,Bool.or_assoc];congr 1;rw[Bool.eq_iff_iff,Bool.or_eq_true,KU,KU,KU,Er];constructor
  · rintro(⟨h1,h2,h3⟩|⟨h1,h2,h3⟩)
    · exact⟨Or.inl h3.symm,by omega,by omega⟩
    · exact⟨Or.inr h1,h2,h3⟩
  · rintro⟨h1|h1,h2,h3⟩
    · exact Or.inl ⟨by omega,by omega,h1.symm⟩
    · exact Or.inr ⟨h1,h2,h3⟩
theorem uA (l:List Az):FH 200 (EH (Bl l) 201)=BH l:=by
 apply List.ext_getElem
 · rw[PT];simp[BH]
 · intro n h1 h2;have hn:n≤200:=by rw[PT]at h1;omega
   have e1:(FH 200 (EH (Bl l) 201)).getD n false=(BH l).getD n false:=by
    rw[GQ l hn];unfold FH;rw[Va 200 n hn _ _ JL];rw[Bool.eq_iff_iff,Bool.or_eq_true,KU,KU];have hr:(List.replicate 201 false).getD n false=false:=by
     rw[FK,List.getElem?_replicate];split<;>rfl
    rw[hr];constructor
    · rintro(h|⟨h,h3,h4⟩)
      · cases h
      · obtain⟨k,k1,k2,k3,k4⟩:=(PH _ _ _).1 h;have:n=k:=by omega
        subst this;exact⟨k2,k3⟩
    · rintro⟨h3,h4⟩;exact Or.inr ⟨(PH _ _ _).2 ⟨n,by omega,h3,h4,rfl⟩,by omega,hn⟩
   rw[FK,FK,Ci h1,Ci h2]at e1;exact e1
theorem Z5 (l:List Az)(n:Nat):Bl l n=0∨Bl l n=1∨Bl l n=2:=by
 show AO l (n:Int)=0∨AO l (n:Int)=1∨AO l (n:Int)=2
 unfold AO;split
 · exact Or.inr (Or.inr rfl)
 · unfold Cn;split
   · split
     · exact Or.inr (Or.inr rfl)
     · exact Or.inr (Or.inl rfl)
   · exact Or.inl rfl
section
variable {w:World}{b:Nat}{K:Nat→Int}{E:Nat→List Bq}{R:Nat→Value}{u:Nat}{v:Value}{ys:List Int}{c:Int}
theorem Ij {w:World}{B B':Nat}{T:TypeId}{k:Nat}{v:Value}{n:Nat}{xs:List Value}(h:w.ownsRow B T k v n xs)(hB:B'≤B):w.ownsRow B' T k v n xs:=by
 refine⟨h.1,?_⟩;rcases h.2 with h1|⟨g,cap,cur,h1,h2,h3⟩
 · exact Or.inl h1
 · exact Or.inr ⟨g,cap,cur,h1,Al hB h2,h3⟩
theorem TM.uz (h:TM w b K E R u v ys c){u':Nat}{v':Value}{ys':List Int}(ho:Dv (b+1) w v' ys')(hg:Fe 200 u' ys') :
 TM (((w.setCell ⟨b,402,none⟩ (.int .i64 200)).setCell ⟨b,403,none⟩ (.int .i64 (u':Int))).setCell ⟨b,404,none⟩ v') b K E R u' v' ys' c:=by
 obtain⟨cs,hc,hO⟩:=h.cells;have hf:∀g,g≠b→(((w.setCell ⟨b,402,none⟩ (.int .i64 200)).setCell ⟨b,403,none⟩ (.int .i64 (u':Int))).setCell ⟨b,404,none⟩ v').heap[g]?=w.heap[g]?:=fun g hg=>by
  rw[Bw _ _ _ _ hg,Bw _ _ _ _ hg,Bw _ _ _ _ hg]
 have hs:=hO.size;refine⟨⟨_,Bj _ b 404 _ _ _ (Bj _ b 403 _ _ _ (Bj _ b 402 _ _ _ hc)),?_⟩,fun n hn=>AV (h.rows n hn) fun g hg=>hf g (by have:=((h.rows n hn).lt g hg).1;omega),h.apart,AV ho fun g hg=>hf g (by have:=(World.ownsRow.lt ho g hg).1;omega),hg⟩;have hne:∀j,j<402∨j=405→(((cs.setIfInBounds 402 (.int .i64 200)).setIfInBounds 403 (.int .i64 (u':Int))).setIfInBounds 404 v')[j]?=cs[j]?:=fun j hj=>by
  rw[Lu (by omega),Lu (by omega),Lu (by omega)]
 refine⟨by simp[hs],fun n hn=>by rw[hne _ (by omega)];exact hO.kind n hn,fun n hn=>by rw[hne _ (by omega)];exact hO.row n hn,?_,?_,?_,by rw[hne _ (by omega)];exact hO.GL⟩
 · rw[Lu (by omega),Lu (by omega),Ql (by omega)];rfl
 · rw[Lu (by omega),Ql (by simp;omega)]
 · rw[Ql (by simp;omega)]
end
theorem bn (w:World)(a b:Obj):((w.alloc a).alloc b).heap[w.heap.size]?=some a:=by
 rw[Lib.alloc_old _ _ _ (by simp)];exact Ai _ _
def X9 (G:Cr)(c:Int)(cnt:Nat):Prop:=1≤c∧(Fh G c).1=true∧(Fh G c).2.2=cnt
def Pp (G:Cr)(c:Int)(t:Bool)(w:World)(e:Ending)(w':World):Prop:=
 (t=false→e=.returned (.tuple #[.pointer none,.int .i64 2])∧Below w.heap.size w w') ∧
 (t=true→∃b S,e=.returned (.tuple #[Aj b,.int .i64 0])∧Bp.Is w' b (Fh G c).2.1 c S∧(∀k,S k→w.heap.size≤k)∧Below w.heap.size w w')
set_option maxHeartbeats 8000000 in
theorem ym (w:World)(mb n cnt:Nat)(F:Int→Option Value)(G:Cr)(c:Int)(hm:Ls w mb n F G)(hf:IC Tryz.prog 3 w mb n F cnt)(hsm:bu G)(t:Bool)(ht:t=true↔X9 G c cnt) :
 Calls Tryz.prog 148 #[.int .i64 c,.map (some mb)] w (Pp G c t w):=by
 unfold Pp;have HM:=Aa hm;have HMF:=Aa hf;have r9:=Aa hsm;have HT:=Aa ht;have cN:=UG;unfold Po at cN;have hb0:Below w.heap.size w (w.alloc (.cells #[.map (some mb)] 235)):=(Ad _ w).alloc (Ae _) _;have HB0:=Aa hb0;have HA0:Hid ((w.alloc (.cells #[.map (some mb)] 235)).heap[w.heap.size]?=some (.cells #[.map (some mb)] 235 (0,0))):=Aa (Ai _ _);clear hb0 hm hf hsm ht;go_enter Tryz.func148,Tryz.ntmps148;go_upto_region 1 with fail;generalize (w.alloc (.cells #[.map (some mb)] 235))=W0 at *;generalize hA:w.heap.size=A at *;go_upto_region 2 with(go_at_call 73;refine(cN _).mono ?_;rintro e w1 ⟨b,rfl,hbl,dX,hb1⟩;have rH:=Aa hbl;have rZ:=Aa dX;have HB1:=Aa hb1;clear hbl dX hb1);have hbw:Below w1.heap.size w1 (w1.alloc (.cells #[Aj b] 55)):=(Ad _ w1).alloc (Ae _) _;have zL:=Aa (rZ.out.below hbw);have xG:Hid ((w1.alloc (.cells #[Aj b] 55)).heap[w1.heap.size]?=some (.cells #[Aj b] 55 (0,0))):=Aa (Ai _ _);have kg:=Aa (HB1.out.trans (hbw.mono HB1.out.size));have hbC:b<w1.heap.size:=rZ.out.blt;clear hbw rZ HB1;generalize (w1.alloc (.cells #[Aj b] 55))=W1 at *;generalize w1.heap.size=C at *;obtain⟨k1,k2⟩:=zL.out.Mv;have e1:W1.cell? ⟨C,0,none⟩=some (Aj b):=Av xG.out 0;go_upto_region 6 with fail;have Xv:Hid (J5 w b mb A W1.heap.size C (W1.heap.size+1) c [] 0 (((W1.setCell ⟨b,405,none⟩ (.int .i64 c)).alloc (.cells #[.int .i64 0] 3)).alloc (.cells #[.func (.func 173) #[] #[Aj A,Aj W1.heap.size,Aj C,Aj (W1.heap.size+1)]] 229))):=by
  have uV:=Ab HA0.out;have hlt1:=Ab xG.out;have hAb:A<b:=by have:=rH.out;omega
  have hs5:((W1.setCell ⟨b,405,none⟩ (.int .i64 c)).alloc (.cells #[.int .i64 0] 3)).heap.size=W1.heap.size+1:=by simp[World.setCell]
  have hs4:(W1.setCell ⟨b,405,none⟩ (.int .i64 c)).heap.size=W1.heap.size:=by simp[World.setCell]
  have hbelow:Below (W1.setCell ⟨b,405,none⟩ (.int .i64 c)).heap.size (W1.setCell ⟨b,405,none⟩ (.int .i64 c)) (((W1.setCell ⟨b,405,none⟩ (.int .i64 c)).alloc (.cells #[.int .i64 0] 3)).alloc (.cells #[.func (.func 173) #[] #[Aj A,Aj W1.heap.size,Aj C,Aj (W1.heap.size+1)]] 229)):=((Ad _ _).alloc (Ae _) _).alloc (by simp) _;have hset:∀g,g≠b→g<W1.heap.size→(((W1.setCell ⟨b,405,none⟩ (.int .i64 c)).alloc (.cells #[.int .i64 0] 3)).alloc (.cells #[.func (.func 173) #[] #[Aj A,Aj W1.heap.size,Aj C,Aj (W1.heap.size+1)]] 229)).heap[g]?=W1.heap[g]?:=fun g h1 h2=>by
   rw[hbelow.block g (by rw[hs4];exact h2)];exact Bw _ _ _ _ h1
  have hbA:Below A w W1:=by
   have:=HB0.out.trans (kg.out.mono (by omega))
   first|exact this|(rw[hA]at this;exact this)|(rw[←hA]at this ⊢;exact this)
  refine Aa ⟨⟨fun _=>.slice none 0 0,?_⟩,?_,?_,?_,?_,?_,by omega,by have:=kg.out.size;omega⟩
  · have h9:=(zL.out.Q9 c).below hbelow;rw[←Vi]at h9;exact h9
  · rw[hset A (by omega) (by have:=kg.out.size;omega),kg.out.block A uV];exact HA0.out
  · have h9:=bn (W1.setCell ⟨b,405,none⟩ (.int .i64 c)) (.cells #[.int .i64 0] 3) (.cells #[.func (.func 173) #[] #[Aj A,Aj W1.heap.size,Aj C,Aj (W1.heap.size+1)]] 229);rw[hs4]at h9;exact h9
  · rw[hset C (by omega) hlt1];exact xG.out
  · have h9:=Ai ((W1.setCell ⟨b,405,none⟩ (.int .i64 c)).alloc (.cells #[.int .i64 0] 3)) (.cells #[.func (.func 173) #[] #[Aj A,Aj W1.heap.size,Aj C,Aj (W1.heap.size+1)]] 229);rw[hs5]at h9;exact h9
  · (try rw[hA])
    exact(hbA.setCell (p:=⟨b,405,none⟩) (by show A≤b;omega) _).trans (hbelow.mono (by rw[hs4];have:=kg.out.size;omega))
 generalize AbP:(((W1.setCell ⟨b,405,none⟩ (.int .i64 c)).alloc (.cells #[.int .i64 0] 3)).alloc (.cells #[.func (.func 173) #[] #[Aj A,Aj W1.heap.size,Aj C,Aj (W1.heap.size+1)]] 229))=W5 at *;clear AbP;generalize W1.heap.size=B at *;generalize hD:B+1=D at *;clear k1 k2 e1 zL xG kg HA0 HB0 cN hD;have e1:W5.cell? ⟨D,0,none⟩=some (.func (.func 173) #[] #[Aj A,Aj B,Aj C,Aj D]):=Av Xv.out.f 0;by_cases hc:c<1
 · have HF:Hid (t=false):=Aa (by
    cases t with
    | false=>rfl
    | true=>have:=(HT.out.1 rfl).1;omega)
   have hcb:=AX hc;go_wp2;go_ret2;rw[HF.out];exact⟨fun _=>⟨rfl,by first|exact Xv.out.b0|(rw[←hA];exact Xv.out.b0)⟩,fun h=>by cases h⟩
 have hcb:=A7 hc;have hc1:1≤c:=by omega
 have cI:=pF w b mb n A B C D F G c HM.out r9.out 202 0 [] 0 W5 (by omega) (Tj hc1) rfl (by simp) (by simp) Xv.out;unfold TV at cI;have wC:Hid (Gi G c 202 ((0:Nat):Int) ([],0)=Fh G c):=Aa rfl;rw[wC.out]at cI;have HOK:=Aa (fun h=>NP (G:=G) hc1 h);cases hr:(Fh G c).1 with
 | false =>
  have HF:Hid (t=false):=Aa (by
   cases t with
   | false=>rfl
   | true=>have:=(HT.out.1 rfl).2.1;rw[hr]at this;cases this)
  rw[hr]at cI;clear hr;go_wp2_with (go_at_call 173;refine cI.mono ?_;rintro e w6 ⟨rfl,hb6,_⟩;have VO:=Aa hb6;clear hb6);go_ret2;rw[HF.out];exact⟨fun _=>⟨rfl,by first|exact VO.out|(rw[←hA];exact VO.out)⟩,fun h=>by cases h⟩
 | true =>
  obtain⟨l,h1,hg,hdn,hfu⟩:=HOK.out hr;rw[hr,h1]at cI;have HR1:=Aa h1;have HG:=Aa hg;have HR:=Aa hr;simp only[true_implies]at cI;clear hr h1 hg hdn hfu;generalize 1+(Bn l).length=f at *;by_cases hfc:f=cnt
  · subst hfc;have HF:Hid (t=true):=Aa (HT.out.2 ⟨hc1,HR.out,by rw[HR1.out]⟩);go_upto_region 8 with(go_at_call 173;refine cI.mono ?_;rintro e w6 ⟨rfl,hb6,hw6⟩;have Q4:=Aa hw6;clear hb6 hw6;have q1:w6.cell? ⟨B,0,none⟩=some (.int .i64 (f:Int)):=Av Q4.out.n 0;have q2:w6.cell? ⟨A,0,none⟩=some (.map (some mb)):=Av Q4.out.a 0;have q3:=fun ty=>(HMF.out.below Q4.out.b0).len Tryz.underlying235 ty);obtain⟨R,dX⟩:=Q4.out.tm;have rZ:=Aa dX;have HFB:Hid (∀W,Below w6.heap.size w6 W→(W.frozen? ⟨b,402,none⟩=false∧W.frozen? ⟨b,403,none⟩=false∧W.frozen? ⟨b,404,none⟩=false)∧W.cell? ⟨b,402,none⟩=some (.int .i64 200)∧W.cell? ⟨b,403,none⟩=some (.int .i64 0)∧W.cell? ⟨b,404,none⟩=some (.slice none 0 0)):=Aa (fun W hW=>by
     obtain⟨cs,hcs,hO⟩:=(rZ.out.below hW).cells;exact⟨⟨BA hcs _,BA hcs _,BA hcs _⟩,(Av hcs _).trans hO.most,(Av hcs _).trans hO.used,(Av hcs _).trans hO.wait⟩)
    have bJ:Hid (∀W,Below w6.heap.size w6 W→W.cell? ⟨C,0,none⟩=some (Aj b)):=Aa (fun W hW=>Av ((hW.block _ (Ab Q4.out.t)).trans Q4.out.t) 0);have HCB:Hid (C≠b):=Aa (by
     obtain⟨cs,hcs,_⟩:=dX.cells;exact RH Q4.out.t hcs (by decide))
    have HCS:Hid (∀(W:World) (x y z:Value),W.cell? ⟨C,0,none⟩=some (Aj b)→(((W.setCell ⟨b,402,none⟩ x).setCell ⟨b,403,none⟩ y).setCell ⟨b,404,none⟩ z).cell? ⟨C,0,none⟩=some (Aj b)):=Aa (fun W x y z h=>by
     rw[Fz (Bw _ _ _ _ HCB.out),Fz (Bw _ _ _ _ HCB.out),Fz (Bw _ _ _ _ HCB.out)];exact h)
    have cU:Hid (∀W,Below w6.heap.size w6 W→Calls Tryz.prog 175 #[Aj b] W (Pm (EH (Bl l) 201) W)):=Aa (fun W hW=>xL (rZ.out.below hW) (fun n _=>Z5 l n));have cNw:Hid (∀v W,Eo W v (EH (Bl l) 201)→Calls Tryz.prog 114 #[.int .i64 200,v] W (J2 200 (BH l) W)):=Aa (fun v W hv=>by
     have h9:=dH 200 v _ W hv (Al (RF _ _) (by omega));rw[show Me 200=200 from rfl,uA]at h9;exact h9)
    unfold Pm at cU;unfold J2 at cNw;clear dX q1 q2 q3 cI;have hs6:=bJ.out w6.drew (Ad _ _).drew;go_region_with (first
     | (go_at_call 175;refine(cU.out w6.drew (Ad _ _).drew).mono ?_;rintro e w7 ⟨vu,rfl,hnu,IG⟩;have ky:Below w6.heap.size w6 w7:=CV (Ae _) (Ad _ _).drew IG;have hC7:=bJ.out w7 ky)
     | (go_at_call 114;refine(cNw.out vu w7 hnu).mono ?_;rintro e w8 ⟨pb,vp,rfl,hpl,AaF⟩;obtain⟨u8,ys8,JI,hgd,hrow⟩:=AaF;have hq8:Below w6.heap.size w6 w8:=ky.trans ((JI.keep.below hpl (Ae _) (fun k hk=>(by cases hk))).mono ky.size);have hk0:w8.cell? ⟨pb,0,none⟩=some (.int .i64 200):=Av JI.at' 0;have hk1:w8.cell? ⟨pb,1,none⟩=some (.int .i64 (u8:Int)):=Av JI.at' 1;have hk2:w8.cell? ⟨pb,2,none⟩=some vp:=Av JI.at' 2;obtain⟨av,nv,cv,hvp⟩:=GU JI.own;subst hvp;obtain⟨⟨f2,f3,f4⟩,f5,f6,f7⟩:=HFB.out w8 hq8;have hC8:=bJ.out w8 hq8))
    all_goals
     have hC9:=HCS.out w8 (.int .i64 200) (.int .i64 (u8:Int)) (.slice av nv cv) hC8;have AaV:=(rZ.out.below hq8).uz (Ij JI.own (show b+1≤pb+1 by have:=(rZ.out.below ky).blt;omega)) hgd;have Aa':=Aa AaV;have HRW:=Aa hrow;have FJ:Hid (Below w.heap.size w (((w8.setCell ⟨b,402,none⟩ (.int .i64 200)).setCell ⟨b,403,none⟩ (.int .i64 (u8:Int))).setCell ⟨b,404,none⟩ (.slice av nv cv))):=Aa (by
      have h9:=Q4.out.b0.trans (hq8.mono Q4.out.b0.size);exact((h9.setCell (p:=⟨b,402,none⟩) Q4.out.hb _).setCell (p:=⟨b,403,none⟩) Q4.out.hb _).setCell (p:=⟨b,404,none⟩) Q4.out.hb _)
     clear AaV hrow ky hq8 IG hnu JI hk0 hk1 hk2 f2 f3 f4 f5 f6 f7 hC7 hC8 hpl;generalize (((w8.setCell ⟨b,402,none⟩ (.int .i64 200)).setCell ⟨b,403,none⟩ (.int .i64 (u8:Int))).setCell ⟨b,404,none⟩ (.slice av nv cv))=W9 at *;go_wp2;go_ret2;refine⟨fun h=>(by rw[HF.out]at h;cases h),fun _=>⟨b,DV b R (.slice av nv cv),rfl,?_,fun k hk=>Al Q4.out.hb (Aa'.out.lt k hk).1,FJ.out⟩⟩;rw[HR1.out];exact⟨R,u8,.slice av nv cv,ys8,Aa'.out,HRW.out.symm,HG.out,rfl⟩
  · have HF:Hid (t=false):=Aa (by
     cases t with
     | false=>rfl
     | true=>have:=(HT.out.1 rfl).2.2;rw[HR1.out]at this;exact absurd this hfc)
    have n1:¬(f:Int)=(cnt:Int):=by omega
    have n2:((f:Int)==(cnt:Int))=false:=A8.2 n1;have n3:((f:Int)!=(cnt:Int))=true:=by rw[bne,n2];rfl
    go_wp2_with (go_at_call 173;refine cI.mono ?_;rintro e w6 ⟨rfl,hb6,hw6⟩;have Q4:=Aa hw6;clear hb6 hw6;have q1:w6.cell? ⟨B,0,none⟩=some (.int .i64 (f:Int)):=Av Q4.out.n 0;have q2:w6.cell? ⟨A,0,none⟩=some (.map (some mb)):=Av Q4.out.a 0;have q3:=fun ty=>(HMF.out.below Q4.out.b0).len Tryz.underlying235 ty);go_ret2;rw[HF.out];exact⟨fun _=>⟨rfl,by first|exact Q4.out.b0|(rw[←hA];exact Q4.out.b0)⟩,fun h=>by cases h⟩
theorem IC.same {P:Program}{k:TypeId}{w w':World}{b n c:Nat}{F:Int→Option Value}(h:IC P k w b n F c)(hb:w'.heap[b]?=w.heap[b]?):IC P k w' b n F c:=by
 obtain⟨D,⟨es,cl,h1,h2⟩,h3⟩:=h;exact⟨D,⟨es,cl,hb.trans h1,h2⟩,h3⟩
theorem jg {w w':World}{v:Value}{l:List Bq}(h:DC w v l)(hs:w.heap.size≤w'.heap.size)(hk:l≠[]→∀g,v.ownBlock=some g→w'.heap[g]?=w.heap[g]?):DC w' v l:=by
 by_cases hl:l=[]
 · subst hl;rcases h with h|⟨g,off,cap,hg,hv,_⟩
   · exact Or.inl h
   · exact Or.inl ⟨rfl,_,cap,by rw[hv];rfl⟩
 · exact h.only hs (hk hl)
structure Hi (B:Nat)(w w':World):Prop where
 size:w.heap.size≤w'.heap.size
 block:∀k,B≤k→k<w.heap.size→w'.heap[k]?=w.heap[k]?
theorem Hi.of_below {B:Nat}{w w':World}(h:Below w.heap.size w w'):Hi B w w':=⟨h.size,fun k _ hk=>h.block k hk⟩
structure Ib (B:Nat)(w:World)(mb n:Nat)(F:Int→Option Value)(cnt:Nat)(G:Cr):Prop where
 f:IC Tryz.prog 3 w mb n F cnt
 g:∀x,GY x→match F x with
  | none=>G x=none
  | some v=>∃l,G x=some l∧DC w v l∧(l≠[]→∀g,v.ownBlock=some g→B≤g∧g<w.heap.size)
 mb:B≤mb
theorem Ib.at' {B:Nat}{w:World}{mb n cnt:Nat}{F:Int→Option Value}{G:Cr}(h:Ib B w mb n F cnt G):Ls w mb n F G:=by
 refine⟨⟨cnt,h.f⟩,fun x hx=>?_⟩;have hg:=h.g x hx;cases hv:F x with
 | none=>rw[hv]at hg;exact hg
 | some v =>
  rw[hv]at hg;obtain⟨l,h1,h2,_⟩:=hg;exact⟨l,h1,h2⟩
theorem Ib.hi {B:Nat}{w w':World}{mb n cnt:Nat}{F:Int→Option Value}{G:Cr}(h:Ib B w mb n F cnt G)(hh:Hi B w w'):Ib B w' mb n F cnt G:=by
 refine⟨h.f.same (hh.block mb h.mb h.f.lt),fun x hx=>?_,h.mb⟩;have hg:=h.g x hx;cases hv:F x with
 | none=>rw[hv]at hg;exact hg
 | some v =>
  rw[hv]at hg;obtain⟨l,h1,h2,h3⟩:=hg;exact⟨l,h1,jg h2 hh.size fun hne g hg=>hh.block g (h3 hne g hg).1 (h3 hne g hg).2,fun hne g hg=>⟨(h3 hne g hg).1,Nat.lt_of_lt_of_le (h3 hne g hg).2 hh.size⟩⟩
theorem Om {w w':World}{b:Nat}(h:w.mapTurned w' b):w'.heap.size=w.heap.size∧(∀k,k≠b→w'.heap[k]?=w.heap[k]?)∧w'.os=w.os∧w'.tape=w.tape∧w'.output=w.output:=by
 obtain⟨es,cl,es',cl',h1,rfl⟩:=h;refine⟨by show(w.heap.setIfInBounds b _).size=_;simp,fun k hk=>?_,rfl,rfl,rfl⟩;show(w.heap.setIfInBounds b _)[k]?=_
 rw[Lu (fun e=>hk e.symm)]
def xM (G:Cr)(x:Int)(l:Option (List Bq)):Cr:=fun y=>if y=x then l else G y
theorem Ib.set {B:Nat}{w:World}{mb n cnt:Nat}{F:Int→Option Value}{G:Cr}(h:Ib B w mb n F cnt G)(hn:n<maxLen){x:Int}(hx:GY x){v:Value}{l:List Bq}(he:DC w v l)(hv:l≠[]→∀g,v.ownBlock=some g→B≤g∧g<w.heap.size) :
 ∃w',(Instr.mapUpdate 235 (.map (some mb)) (.int .i64 x) v).run Tryz.prog w=.ok () w'∧Ib B w' mb (n+1) (sQ F x (some v)) (if(F x).isSome=true then cnt else cnt+1) (xM G x (some l))∧w.mapTurned w' mb:=by
 obtain⟨w',h1,h2,h3⟩:=h.f.update Tryz.underlying3 Tryz.underlying235 hn hx v;obtain⟨t1,t2,_⟩:=Om h3;obtain⟨es,cl,hmm⟩:=h.f.isMap;have keep:∀{v:Value} {l:List Bq},DC w v l→DC w' v l:=fun {v l} he=>by
  rcases he with he|⟨g,off,cap,hg,hvv,hc⟩
  · exact Or.inl he
  · rcases l with _|⟨y,r⟩
    · exact Or.inl ⟨rfl,_,cap,by rw[hvv];rfl⟩
    · have hne:g≠mb:=by
       rintro rfl;have h9:=hc 0 y rfl 0 _ rfl;unfold World.cell? at h9;rw[hmm]at h9;simp at h9
      refine Or.inr ⟨g,off,cap,by rw[t1];exact hg,hvv,fun j x hj=>?_⟩;intro i u hu;rw[Fz (t2 g hne)];exact hc j x hj i u hu
 refine⟨w',h1,⟨h2,fun y hy=>?_,h.mb⟩,h3⟩;unfold sQ xM;by_cases e:y=x
 · rw[if_pos e,if_pos e];exact⟨l,rfl,keep he,fun hne g hg=>by rw[t1];exact hv hne g hg⟩
 · rw[if_neg e,if_neg e];have hg:=h.g y hy;cases hF:F y with
   | none=>rw[hF]at hg;exact hg
   | some v' =>
    rw[hF]at hg;obtain⟨l',g1,g2,g3⟩:=hg;exact⟨l',g1,keep g2,fun hne g hg=>by rw[t1];exact g3 hne g hg⟩
end Go.Proofs.YtdmkhmeaphaapaaGreat
