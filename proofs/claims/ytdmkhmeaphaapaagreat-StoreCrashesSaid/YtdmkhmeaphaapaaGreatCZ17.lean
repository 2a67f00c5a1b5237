/- Kit. -/
import Derived.Test.YtdmkhmeaphaapaaGreatCZ13
import Derived.Test.YtdmkhmeaphaapaaGreatCZ16
import Derived.Laws.EntriesVeiled
import Derived.Test.YtdmkhmeaphaapaaGreatCZ9
import Derived.Test.YtdmkhmeaphaapaaGreatCZ0
set_option maxRecDepth 100000
set_option linter.unusedVariables false
set_option linter.unusedSimpArgs false
namespace Go.Proofs.YtdmkhmeaphaapaaGreat
open Go.RowKit Go.Sort
def iD (K:Nat→Int)(E:Nat→List Br)(c:Int)(d:Nat)(e:Br):Prop:=(1≤e.node∧e.node≤200)∧K e.node.toNat=0∧Ec e.name e.short=0∧ER (E d) e.name<0∧(IB (E d)<e.Al∧e.Al<c)∧¬QR E e.Al
section
variable {w:World}{b:Nat}{K:Nat→Int}{E:Nat→List Br}{R:Nat→Value}{u:Nat}{v:Value}{ys:List Int}{c:Int}
set_option maxHeartbeats 8000000 in
theorem TJ (h:TM w b K E R u v ys c){d:Nat}(hd:d≤200)(hE:∀n,n≤200→(E n).length≤1000)(x:Br)(hs:x.name.size≤9223372036854775807)(t:Bool)(ht:t=true↔iD K E c d x) :
 Calls Tryz.prog 174 #[Ag b,.int .i64 (d:Int),Di x] w fun e w'=>e=.returned (.bool t)∧Below w.heap.size w w':=by
 unfold iD at ht;obtain⟨nm,n0,dr,ck,sh⟩:=x;simp only at hs ht;unfold Di;simp only;have Z7:=Aa ht;have hb0:Below w.heap.size w (w.alloc (.cells #[.string nm,.int .i64 n0,.bool dr,.int .i64 ck,.int .i64 sh] 112)):=(Ad _ w).alloc (Ae _) _;have HB0:=Aa hb0;have HT0:=Aa (h.below hb0);have RI:Hid ((w.alloc (.cells #[.string nm,.int .i64 n0,.bool dr,.int .i64 ck,.int .i64 sh] 112)).heap[w.heap.size]?=some (.cells #[.string nm,.int .i64 n0,.bool dr,.int .i64 ck,.int .i64 sh] 112 (0,0))):=Aa (Ai _ _);have HE:=Aa hE;have uR:=Aa hs;have HD:=Aa hd;clear hb0 h hE ht hs hd;go_enter Tryz.func174,Tryz.ntmps174;go_upto_region 1 with fail;generalize (w.alloc (.cells #[.string nm,.int .i64 n0,.bool dr,.int .i64 ck,.int .i64 sh] 112))=W0 at *;generalize NF:w.heap.size=bO at *;obtain⟨⟨p0,p1,p2,p3,p4⟩,_⟩:=Aj RI.out;by_cases g1:n0<1
 · have HF:Hid (t=false):=Aa (by cases t with|false=>rfl|true=>have:=(Z7.out.1 rfl).1.1;omega);have e1:=A8 g1;go_quiet (fail);go_wp2;go_ret;exact⟨by rw[HF.out];rfl,by first|exact Am HB0.out _|(rw[NF];exact Am HB0.out _)⟩
 have e1:=Bb g1;by_cases g2:200<n0
 · have HF:Hid (t=false):=Aa (by cases t with|false=>rfl|true=>have:=(Z7.out.1 rfl).1.2;omega);have e2:=A8 g2;go_quiet (fail);go_wp2;go_ret;exact⟨by rw[HF.out];rfl,by first|exact Am HB0.out _|(rw[NF];exact Am HB0.out _)⟩
 have e2:=Bb g2;obtain⟨n,rfl⟩:∃n:Nat,n0=n:=⟨n0.toNat,by omega⟩;have hn2:n≤200:=by omega
 have hn0:(0:Int)≤(n:Int):=by omega
 have hn1:(n:Int)<201:=by omega
 have k1:=(HT0.out.LH hn2).1;have Aby:((n:Int)).toNat=n:=DY n;rw[Aby]at Z7;clear Aby;by_cases g3:¬(K n=0)
 · have HF:Hid (t=false):=Aa (by cases t with|false=>rfl|true=>exact absurd (Z7.out.1 rfl).2.1 g3);have e3:(K n==0)=false:=Ba.2 g3;generalize K n=kn at *;go_quiet (fail);go_wp2;go_ret;exact⟨by rw[HF.out];rfl,by first|exact Am HB0.out _|(rw[NF];exact Am HB0.out _)⟩
 have g3:=Classical.not_not.1 g3;rw[g3]at k1;go_quiet (fail);have HB1:Hid (Below bO w (W0.drewN nq)):=Aa (Am HB0.out _);have HBD:Hid (Below W0.heap.size W0 (W0.drewN nq)):=Aa (Am (Ad _ _) _);have HT1:=Aa (HT0.out.below HBD.out);have ZV:=Aa ((HBD.out.block _ (Ab RI.out)).trans RI.out);clear p0 p1 p2 p3 p4 k1 HBD HT0 RI HB0;generalize (W0.drewN nq)=W1 at *;obtain⟨⟨p0,p1,p2,p3,p4⟩,_⟩:=Aj ZV.out;have cA:=Ui nm uR.out sh;by_cases g4:¬(Ec nm sh=0)
 · have HF:Hid (t=false):=Aa (by cases t with|false=>rfl|true=>exact absurd (Z7.out.1 rfl).2.2.1 g4);have e4:(Ec nm sh==0)=false:=Ba.2 g4;generalize Ec nm sh=bd at *;go_wp2_with (go_at_call 166;refine(cA _).mono ?_;rintro e w2 ⟨rfl,hb2⟩;have HB2:=Aa hb2;clear hb2);go_ret;exact⟨by rw[HF.out];rfl,by first|exact HB1.out.trans (HB2.out.mono (Ao (Nat.le_of_lt (Ab ZV.out)) (Ae _)))|(rw[NF];exact HB1.out.trans (HB2.out.mono (Ao (Nat.le_of_lt (Ab ZV.out)) (Ae _))))⟩
 have g4:=Classical.not_not.1 g4;rw[g4]at cA;have cP:Hid (∀W,Below W1.heap.size W1 W→Calls Tryz.prog 167 #[Ag b,.int .i64 (d:Int),.string nm] W fun e w'=>e=.returned (.int .i64 (ER (E d) nm))∧Below W.heap.size W w'):=Aa (fun W hW=>Ru (HT1.out.below hW) HD.out (HE.out d HD.out) nm);by_cases g5:¬(ER (E d) nm<0)
 · have HF:Hid (t=false):=Aa (by cases t with|false=>rfl|true=>exact absurd (Z7.out.1 rfl).2.2.2.1 g5);have e5:0≤ER (E d) nm:=by omega
   have e6:=A8 e5;generalize ER (E d) nm=pl at *;go_wp2_with (first
    | (go_at_call 166;refine(cA _).mono ?_;rintro e w2 ⟨rfl,hb2⟩;have HB2:=Aa hb2;obtain⟨⟨p0,p1,p2,p3,p4⟩,_⟩:=Aj ((hb2.block _ (Ab ZV.out)).trans ZV.out);clear hb2)
    | (go_at_call 167;refine(cP.out _ HB2.out).mono ?_;rintro e w3 ⟨rfl,hb3⟩;have HB3:=Aa (HB2.out.trans (hb3.mono HB2.out.size));clear hb3))
   go_ret;exact⟨by rw[HF.out];rfl,by first|exact HB1.out.trans (HB3.out.mono (Nat.le_of_lt (Ab ZV.out)))|(rw[NF];exact HB1.out.trans (HB3.out.mono (Nat.le_of_lt (Ab ZV.out))))⟩
 have g5:=Classical.not_not.1 g5;have e5:¬0≤ER (E d) nm:=by omega
 have e6:=Bb e5;generalize ER (E d) nm=pl at *;go_upto_region 5 with(first
  | (go_at_call 166;refine(cA _).mono ?_;rintro e w2 ⟨rfl,hb2⟩;have HB2:=Aa hb2;obtain⟨⟨p0,p1,p2,p3,p4⟩,_⟩:=Aj ((hb2.block _ (Ab ZV.out)).trans ZV.out);clear hb2)
  | (go_at_call 167;refine(cP.out _ HB2.out).mono ?_;rintro e w3 ⟨rfl,hb3⟩;have HB3:=Aa (HB2.out.trans (hb3.mono HB2.out.size));clear hb3))
 have HT3:=Aa (HT1.out.below HB3.out);have Nl:=Aa ((HB3.out.block _ (Ab ZV.out)).trans ZV.out);have mf:=Aa (HB1.out.trans (HB3.out.mono (Nat.le_of_lt (Ab ZV.out))));have X8:Hid (1≤(n:Int)∧(n:Int)≤200):=Aa ⟨by omega,by omega⟩;clear p0 p1 p2 p3 p4 cA cP HT1 ZV HB1 HB2 HB3 e5 e6 e1 e2 g1 g2;have Nj:Hid (∀W,Below w3.heap.size w3 W→Below w3.heap.size w3 W∧W.cell? ⟨bO,3,none⟩=some (.int .i64 ck)∧W.cell? ⟨b,405,none⟩=some (.int .i64 c)):=Aa (fun W hW=>by
  obtain⟨⟨_,_,_,p3,_⟩,_⟩:=Aj ((hW.block _ (Ab Nl.out)).trans Nl.out);exact⟨hW,p3,(HT3.out.below hW).MI.1⟩)
 have cL:Hid (∀W,Below w3.heap.size w3 W→Calls Tryz.prog 192 #[Ag b,.int .i64 (d:Int)] W fun e w'=>e=.returned (.int .i64 (IB (E d)))∧Below W.heap.size W w'):=Aa (fun W hW=>(Pe (HT3.out.below hW) HD.out (HE.out d HD.out)).mono fun e w' h=>⟨h.1,by rw[h.2];exact Ad _ _⟩);have HLA:Hid (∀W,Below w3.heap.size w3 W→Calls Tryz.prog 192 #[Ag b,.int .i64 (d:Int)] W fun e w'=>e=.returned (.int .i64 (IB (E d)))∧W=w'):=Aa (fun W hW=>(Pe (HT3.out.below hW) HD.out (HE.out d HD.out)).mono fun e w' h=>⟨h.1,h.2.symm⟩);have hfin:∀W,Below w3.heap.size w3 W→Below w.heap.size w W:=fun W hW=>by first|exact mf.out.trans (hW.mono (Nat.le_of_lt (Ab Nl.out)))|(rw[NF];exact mf.out.trans (hW.mono (Nat.le_of_lt (Ab Nl.out))))
 have Ff:=Aa hfin;clear hfin;have hs3:=Nj.out w3.drew (Ad _ _).drew;by_cases g6:¬(IB (E d)<ck)
 · have HF:Hid (t=false):=Aa (by cases t with|false=>rfl|true=>exact absurd (Z7.out.1 rfl).2.2.2.2.1.1 g6);have e7:=Bb g6;generalize IB (E d)=la at *;have cQ:∀q,Calls Tryz.prog 192 #[Ag b,.int .i64 (d:Int)] (w3.drewN q) fun e w'=>e=.returned (.int .i64 la)∧w3.drewN q=w':=fun q=>HLA.out _ (Am (Ad _ _) q)
   obtain⟨_,p3,p4⟩:=Nj.out w3 (Ad _ _);clear hs3;go_quiet ((go_at_call 192;exact Calls.quiet_of_same ((cQ _).mono fun _ _ h=>⟨h.1,h.2.symm⟩)));go_wp2;go_ret;exact⟨by rw[HF.out];rfl,by first|exact Ff.out _ (Am (Ad _ _) _)|(rw[←NF];exact Ff.out _ (Am (Ad _ _) _))⟩
 have g6:=Classical.not_not.1 g6;have e7:=A8 g6;by_cases g7:¬(ck<c)
 · have HF:Hid (t=false):=Aa (by cases t with|false=>rfl|true=>exact absurd (Z7.out.1 rfl).2.2.2.2.1.2 g7);have e8:=Bb g7;generalize IB (E d)=la at *;have cQ:∀q,Calls Tryz.prog 192 #[Ag b,.int .i64 (d:Int)] (w3.drewN q) fun e w'=>e=.returned (.int .i64 la)∧w3.drewN q=w':=fun q=>HLA.out _ (Am (Ad _ _) q)
   obtain⟨_,p3,p4⟩:=Nj.out w3 (Ad _ _);clear hs3;go_quiet ((go_at_call 192;exact Calls.quiet_of_same ((cQ _).mono fun _ _ h=>⟨h.1,h.2.symm⟩)));go_wp2;go_ret;exact⟨by rw[HF.out];rfl,by first|exact Ff.out _ (Am (Ad _ _) _)|(rw[←NF];exact Ff.out _ (Am (Ad _ _) _))⟩
 have g7:=Classical.not_not.1 g7;have e8:=A8 g7;obtain⟨hc,hhc,HF⟩:∃hc:Bool,(hc=true↔QR E ck)∧Hid (t=!hc):=by
  by_cases g8:QR E ck
  · exact⟨true,by simp[g8],Aa (by cases t with|false=>rfl|true=>exact absurd g8 (Z7.out.1 rfl).2.2.2.2.2)⟩
  · exact⟨false,by simp[g8],Aa (Z7.out.2 ⟨X8.out,g3,g4,g5,⟨g6,g7⟩,g8⟩)⟩
 have cH:Hid (∀W,Below w3.heap.size w3 W→Calls Tryz.prog 193 #[Ag b,.int .i64 ck] W fun e w'=>e=.returned (.bool hc)∧Below W.heap.size W w'):=Aa (fun W hW=>Zb (HT3.out.below hW) HE.out ck hc hhc);clear hhc;generalize IB (E d)=la at *;go_region_held3 (fun W=>Below w3.heap.size w3 W∧W.cell? ⟨bO,3,none⟩=some (.int .i64 ck)∧W.cell? ⟨b,405,none⟩=some (.int .i64 c)) (first|assumption|(refine Nj.out _ ?_;first|assumption|exact(Ad _ _).drew|exact Cy ‹_›)) (first
  | (go_at_call 192;refine(cL.out _ (by first|assumption|exact(Ad _ _).drew)).mono ?_;rintro e w4 ⟨rfl,hb4⟩;have hq4:Below w3.heap.size w3 w4:=Dk (Ae _) (by first|assumption|exact(Ad _ _).drew) hb4)
  | (go_at_call 193;refine(cH.out _ (by first|assumption|exact(Ad _ _).drew)).mono ?_;rintro e w5 ⟨rfl,hb5⟩;have UA:Below w3.heap.size w3 w5:=Dk (Ae _) (by first|assumption|exact(Ad _ _).drew) hb5))
 all_goals
  go_wp2;go_ret;exact⟨by rw[HF.out];rfl,Ff.out _ (by assumption)⟩
end
theorem Zk {l:List Az}{c:Int}(hg:Aq l c){d:Nat}(hd:d≤200)(e:Br):iD (Bo l) (Bh l) c d e↔Fits l c (d:Int) e:=by
 unfold iD Fits;have hp:ER (Bh l d) e.name<0↔∀y∈Ak l (d:Int),y.name≠e.name:=by
  rcases Iy (Bh l d) e.name with⟨h1,_,h2⟩|⟨i,x,h1,h2,h3,_⟩
  · exact⟨fun _=>h2,fun _=>by omega⟩
  · exact⟨fun h=>by omega,fun h=>absurd h3 (h x (CU h2))⟩
 have hk:QR (Bh l) e.Al↔∃x∈l,x.e.Al=e.Al:=by
  unfold QR;constructor
  · rintro⟨n,hn,h⟩;obtain⟨y,hy,hc⟩:=List.any_eq_true.1 h;exact⟨⟨(n:Int),y⟩,FJ.1 hy,FL hc⟩
  · rintro⟨x,hx,hc⟩;obtain⟨r1,r2⟩:=hg.KN hx;refine⟨x.BD.toNat,by omega,List.any_eq_true.2 ⟨x.e,?_,A8 hc⟩⟩;show x.e∈Ak l ((x.BD.toNat:Nat):Int)
    rw[show((x.BD.toNat:Nat):Int)=x.BD by omega];exact FJ.2 hx
 have hh:(¬QR (Bh l) e.Al)↔∀x∈l,x.e.Al≠e.Al:=by
  rw[hk];exact⟨fun h x hx hc=>h ⟨x,hx,hc⟩,fun h ⟨x,hx,hc⟩=>h x hx hc⟩
 rw[hp,hh];constructor
 · rintro⟨h1,h2,h3⟩;rw[IE l (by omega)]at h2;exact⟨h1,h2,h3⟩
 · rintro⟨h1,h2,h3⟩;exact⟨h1,by rw[IE l (by omega)];exact h2,h3⟩
theorem kK {G:Cw}{c:Int}{k:Nat}{l:List Az}{f:Nat}{d:Int}{e:Br}(hg:Aq l c)(hd:AP l d=2)(hf:Fits l c d e)(he:e.dir=true)(hr:(Gs G c k e.node (l++[⟨d,e⟩],f)).1=true)(hfl:f≤(l++[(⟨d,e⟩:Az)]).length) :
 Aq (Gs G c k e.node (l++[⟨d,e⟩],f)).2.1 c∧AP (Gs G c k e.node (l++[⟨d,e⟩],f)).2.1 d=2∧l.length<(Gs G c k e.node (l++[⟨d,e⟩],f)).2.1.length∧(Gs G c k e.node (l++[⟨d,e⟩],f)).2.2≤(Gs G c k e.node (l++[⟨d,e⟩],f)).2.1.length+1:=by
 have hg1:=KP hg hd hf;have hk1:AP (l++[⟨d,e⟩]) e.node=2:=by rw[Pg hf.2.1,if_pos he]
 have hn1:Ak (l++[⟨d,e⟩]) e.node=[]:=by
  rw[Dh,hg.wh (by rw[hf.2.1];decide),G5];refine F9 fun x hx e2=>?_
  rw[Cn]at hx;subst hx;have e3:d=e.node:=e2;rw[e3,hf.2.1]at hd;omega
 obtain⟨A,a1,a2,a3⟩:=RD G c k e.node (l++[⟨d,e⟩]) f hg1 hk1 hn1 hr;rw[a1];have hdl:(Bp A).length≤A.length:=by
  unfold Bp;rw[DW];exact List.length_filter_le _ _
 have hd1:AP (l++[⟨d,e⟩]) d=2:=by rw[EX (by omega)];exact hd
 refine⟨a2.good,by show AP (l++[⟨d,e⟩]++A) d=2;rw[EX (by omega)];exact hd1,?_,?_⟩
 · simp only[List.length_append,List.length_cons,List.length_nil];omega
 · simp only[List.length_append]at hfl ⊢;omega
theorem Sa {W:World}{k q:Nat}{cs cs':Array Value}{t t':TypeId}{fr fr':Nat×Nat}(h:W.heap[k]?=some (.cells cs t fr))(h':W.heap[q]?=some (.cells cs' t' fr'))(ht:t≠t'):k≠q:=by
 rintro rfl;rw[h]at h';injection h' with h';injection h' with _ h2 _;exact ht h2
structure Ki (w0:World)(b mb A B C D:Nat)(c:Int)(l:List Az)(f:Nat)(W:World):Prop where
 tm:∃R,TM W b (Bo l) (Bh l) R 0 (.slice none 0 0) [] c
 a:W.heap[A]?=some (.cells #[.map (some mb)] 235 (0,0))
 n:W.heap[B]?=some (.cells #[.int .i64 (f:Int)] 3 (0,0))
 t:W.heap[C]?=some (.cells #[Ag b] 55 (0,0))
 f:W.heap[D]?=some (.cells #[.func (.func 173) #[] #[Ag A,Ag B,Ag C,Ag D]] 229 (0,0))
 b0:Below w0.heap.size w0 W
 hb:w0.heap.size≤b
 hB:w0.heap.size≤B
section
variable {w0 W W':World}{b mb A B C D:Nat}{c:Int}{l:List Az}{f:Nat}
theorem VO {K:Nat→Int}{E:Nat→List Br}{R:Nat→Value}(h:TM W b K E R 0 (.slice none 0 0) [] c){k:Nat}(hk:DV b R (.slice none 0 0) k):∃cs t,W.heap[k]?=some (.cells cs t (0,0))∧(t=96∨t=112):=by
 rcases hk with rfl|⟨n,hn,hg⟩|hg
 · obtain⟨cs,h1,_⟩:=h.cells;exact⟨_,_,h1,Or.inl rfl⟩
 · obtain⟨cs,h1⟩:=CJ (h.rows n hn) hg;exact⟨_,_,h1,Or.inr rfl⟩
 · cases hg
theorem Ki.below (h:Ki w0 b mb A B C D c l f W)(hb:Below W.heap.size W W'):Ki w0 b mb A B C D c l f W':=by
 obtain⟨R,ht⟩:=h.tm;exact⟨⟨R,ht.below hb⟩,(hb.block _ (Ab h.a)).trans h.a,(hb.block _ (Ab h.n)).trans h.n,(hb.block _ (Ab h.t)).trans h.t,(hb.block _ (Ab h.f)).trans h.f,h.b0.trans (hb.mono h.b0.size),h.hb,h.hB⟩
theorem Ki.count (h:Ki w0 b mb A B C D c l f W)(f':Nat):Ki w0 b mb A B C D c l f' (W.setCell ⟨B,0,none⟩ (.int .i64 (f':Int))):=by
 obtain⟨R,ht⟩:=h.tm;have hne:∀k,k≠B→(W.setCell ⟨B,0,none⟩ (.int .i64 (f':Int))).heap[k]?=W.heap[k]?:=fun k hk=>Bw _ _ _ _ hk
 refine⟨⟨R,ht.kept fun k hk=>?_⟩,?_,?_,?_,?_,h.b0.setCell (p:=⟨B,0,none⟩) h.hB _,h.hb,h.hB⟩
 · obtain⟨cs,t,h1,h2⟩:=VO ht hk;exact hne k (Sa h1 h.n (by rcases h2 with rfl|rfl<;>decide))
 · rw[hne _ (Sa h.a h.n (by decide))];exact h.a
 · rw[Bn _ B 0 _ _ _ h.n];rfl
 · rw[hne _ (Sa h.t h.n (by decide))];exact h.t
 · rw[hne _ (Sa h.f h.n (by decide))];exact h.f
theorem Ki.put (h:Ki w0 b mb A B C D c l f W){R R':Nat→Value}(hR:TM W b (Bo l) (Bh l) R 0 (.slice none 0 0) [] c){d:Nat}{e:Br}{nd:Nat}(hnd:e.node=nd)(h1:1≤nd)(h0:Bo l nd=0)
 (ht:TM W' b (upd (Bo l) nd (kindOf e.dir)) (upd (Bh l) d (Bh l d++[e])) R' 0 (.slice none 0 0) [] c) (htr:Trod W W' (DV b R (.slice none 0 0)) (DV b R' (.slice none 0 0))):Ki w0 b mb A B C D c (l++[⟨(d:Int),e⟩]) f W':=by
 have hout:∀{q:Nat} {cs:Array Value} {t:TypeId} {fr:Nat×Nat},W.heap[q]?=some (.cells cs t fr)→(t≠96∧t≠112)→W'.heap[q]?=some (.cells cs t fr):=by
  intro q cs t fr hq hne;rw[htr.rest q (Ab hq) (fun hs=>by
   obtain⟨cs',t',h2,h3⟩:=VO hR hs;rw[hq]at h2;injection h2 with h2;injection h2 with _ h4 _;rcases h3 with h3|h3
   · exact hne.1 (h4.trans h3)
   · exact hne.2 (h4.trans h3))]
  exact hq
 have hlow:=htr.low (B:=w0.heap.size) h.b0.size (fun k hk=>Ao h.hb (hR.lt k hk).1);refine⟨⟨R',?_⟩,hout h.a (by decide),hout h.n (by decide),hout h.t (by decide),hout h.f (by decide),h.b0.trans hlow.1,h.hb,h.hB⟩;rw[Lg l (d:Int) e hnd h1 h0,Oh];exact ht
end
theorem AbL {c:Int}{rec:Int→List Az×Nat→Bool×(List Az×Nat)}{d:Int}{e:Br}{es:List Br}{l:List Az}{f:Nat}(h:¬Fits l c d e):Eu c rec d (e::es) (l,f)=(false,(l,f)):=by
 rw[Eu];exact if_neg h
theorem xC {c:Int}{rec:Int→List Az×Nat→Bool×(List Az×Nat)}{d:Int}{e:Br}{es:List Br}{l:List Az}{f:Nat}(h:Fits l c d e)(he:e.dir=false):Eu c rec d (e::es) (l,f)=Eu c rec d es (l++[⟨d,e⟩],f):=by
 rw[Eu,if_pos h,if_neg (by rw[he];decide)]
theorem AaC {c:Int}{rec:Int→List Az×Nat→Bool×(List Az×Nat)}{d:Int}{e:Br}{es:List Br}{l:List Az}{f:Nat}(h:Fits l c d e)(he:e.dir=true)(hr:(rec e.node (l++[⟨d,e⟩],f)).1=false):(Eu c rec d (e::es) (l,f)).1=false:=by
 rw[Eu,if_pos h,if_pos he,if_neg (by show ¬(rec e.node (l++[⟨d,e⟩],f)).1=true;rw[hr];decide)]
theorem AaB {c:Int}{rec:Int→List Az×Nat→Bool×(List Az×Nat)}{d:Int}{e:Br}{es:List Br}{l:List Az}{f:Nat}(h:Fits l c d e)(he:e.dir=true)(hr:(rec e.node (l++[⟨d,e⟩],f)).1=true):Eu c rec d (e::es) (l,f)=Eu c rec d es (rec e.node (l++[⟨d,e⟩],f)).2:=by
 rw[Eu,if_pos h,if_pos he,if_pos (by exact hr)]
structure dN (G:Cw):Prop where
 len:∀q es,G q=some es→es.length≤100000
 name:∀q es,G q=some es→∀e∈es,e.name.size≤9223372036854775807
def Ur (w0:World)(b mb A B C D:Nat)(c:Int)(r:Bool×(List Az×Nat))(e:Ending)(w':World):Prop:=
 e=.returned (.bool r.1)∧Below w0.heap.size w0 w'∧(r.1=true→Ki w0 b mb A B C D c r.2.1 r.2.2 w')
set_option maxHeartbeats 8000000 in
theorem rz (w0:World)(b mb n A B C D:Nat)(F:Int→Option Value)(G:Cw)(c:Int)(hm:LC w0 mb n F G)(hsm:dN G):∀(k:Nat) (d:Nat) (l:List Az) (f:Nat) (W:World),d≤200→Aq l c→AP l (d:Int)=2→201≤l.length+k→f≤l.length→Ki w0 b mb A B C D c l f W →
 Calls Tryz.prog 173 #[.int .i64 (d:Int),Ag A,Ag B,Ag C,Ag D] W (Ur w0 b mb A B C D c (Gs G c k (d:Int) (l,f)))
 | 0,d,l,f,W,hd,hg,hk2,hfu,hf,hw=>by
  have:=hg.len;omega
 | k+1,d,l,f,W,hd,hg,hk2,hfu,hf,hw=>by
  have IH:=fun d l f W h1 h2 h3 h4 h5 h6=>rz w0 b mb n A B C D F G c hm hsm k d l f W h1 h2 h3 h4 h5 h6
  unfold Ur at IH ⊢;have HM:=Aa hm;have uR:=Aa hsm;have HD:=Aa hd;have HG:=Aa hg;have mG:=Aa hk2;have HFU:=Aa hfu;have HF:=Aa hf;have HW:=Aa hw;have hll:=hg.len;have c0:W.cell? ⟨A,0,none⟩=some (.map (some mb)):=Ap hw.a 0;have hdi:Hf (d:Int):=⟨by omega,by omega⟩;obtain⟨v,es,he,hes,gL,_⟩:=hm.look hw.b0 hdi;obtain⟨RR,hRR⟩:∃RR,Gs G c (k+1) (d:Int) (l,f)=RR:=⟨_,rfl⟩;have Zd:=hRR;unfold Gs at Zd;rw[hRR];clear hRR hw hm hsm hg hk2 hfu;cases hG:G (d:Int) with
  | none =>
   rw[hG]at gL Zd;simp only at Zd;subst Zd;clear hG he hes;go_enter Tryz.func173,Tryz.ntmps173;go_wp2;go_ret;exact⟨rfl,HW.out.b0,fun h=>by cases h⟩
  | some es2 =>
   rw[hG]at gL Zd hes;simp only[Option.getD_some]at hes;subst hes;simp only at Zd;have HRR:=Aa Zd;have HES:=Aa he;have hle:=uR.out.len _ _ hG;have HNM:=Aa (uR.out.name _ _ hG);obtain⟨av,cap,rfl⟩:=he.len;obtain⟨m,hm⟩:∃m,es2.length=m:=⟨_,rfl⟩;have HMM:=Aa hm;rw[hm]at hle gL he;rw[hm]at HES;have c1:W.cell? ⟨B,0,none⟩=some (.int .i64 (f:Int)):=Ap HW.out.n 0;have c2:W.frozen? ⟨B,0,none⟩=false:=BA HW.out.n 0;have hwf:IntKind.i64.wrap ((f:Int)+1)=((f+1:Nat):Int):=by rw[El];omega
   clear Zd hG hm he;go_enter Tryz.func173,Tryz.ntmps173;go_upto_region 5 with fail;have HW1:Hid (Ki w0 b mb A B C D c l (f+1) (W.setCell ⟨B,0,none⟩ (.int .i64 ((f:Int)+1)))):=Aa (HW.out.count (f+1));generalize (W.setCell ⟨B,0,none⟩ (.int .i64 ((f:Int)+1)))=W1 at *;clear c0 c1 c2 gL hwf;go_wp2;go_loopw [23] (fun iv wr=>∃(i:Nat) (l1:List Az) (f1:Nat),i≤m∧iv=.int .i64 i∧Ki w0 b mb A B C D c l1 f1 wr∧Aq l1 c∧AP l1 (d:Int)=2∧200≤l1.length+k∧f1≤l1.length+1∧Eu c (Gs G c k) (d:Int) (es2.drop i) (l1,f1)=RR) (fun iv _=>m-(intOf iv).toNat)
   case atStart=>exact⟨0,l,f+1,by omega,rfl,HW1.out,HG.out,mG.out,by have:=HFU.out;omega,by omega,by rw[List.drop_zero];exact HRR.out⟩
   case round =>
    clear HW1 HRR HW HFU HG mG;obtain⟨i,l1,f1,hi,rfl,hw1,hg1,hd1,hf1,hc1,hgo⟩:=hrel;have Ht:=Aa hgo;have HW1:=Aa hw1;have Nw:=Aa hg1;have HD1:=Aa hd1;have UD:=Aa hf1;have zA:=Aa hc1;have Adn:=hg1.len;clear hgo hw1 hg1 hd1 hf1 hc1;by_cases him:i<m
    · have hiz:(i:Int)<(m:Int):=by omega
      obtain⟨x,hx⟩:∃x,es2[i]?=some x:=⟨_,Co (by rw[HMM.out];omega)⟩;obtain⟨g,off,rfl,hg,hrr⟩:=HES.out.at hx;obtain⟨d0,d1,d2,d3,d4⟩:=Ii (DJ hrr hg HW1.out.b0);have hdrop:=DK hx;have lZ:Hid (Eu c (Gs G c k) (d:Int) (x::es2.drop (i+1)) (l1,f1)=RR):=Aa (by rw[←hdrop];exact Ht.out);have hnm:=HNM.out x (CU hx);clear hdrop Ht hrr hg hx;obtain⟨R,gJ⟩:=HW1.out.tm;have uQ:=Aa gJ;have hbw:Below wr.heap.size wr (wr.alloc (.cells #[.string x.name,.int .i64 x.node,.bool x.dir,.int .i64 x.Al,.int .i64 x.short] 112)):=(Ad _ _).alloc (Ae _) _;have HW2:=Aa (HW1.out.below hbw);have xY:=Aa (gJ.below hbw);have zg:Hid (¬DV b R (.slice none 0 0) wr.heap.size):=Aa (fun hk=>by have:=(gJ.lt _ hk).2;omega);have Kh:Hid ((wr.alloc (.cells #[.string x.name,.int .i64 x.node,.bool x.dir,.int .i64 x.Al,.int .i64 x.short] 112)).heap[wr.heap.size]?=some (.cells #[.string x.name,.int .i64 x.node,.bool x.dir,.int .i64 x.Al,.int .i64 x.short] 112 (0,0))):=Aa (Ai _ _);clear hbw gJ uQ;go_upto_region 8 with fail;generalize (wr.alloc (.cells #[.string x.name,.int .i64 x.node,.bool x.dir,.int .i64 x.Al,.int .i64 x.short] 112))=W2 at *;generalize wr.heap.size=q at *;clear d0 d1 d2 d3 d4;have e1:W2.cell? ⟨C,0,none⟩=some (Ag b):=Ap HW2.out.t 0;obtain⟨⟨p0,p1,p2,p3,p4⟩,_⟩:=Aj Kh.out;by_cases hfit:Fits l1 c (d:Int) x
      · have cFi:=TJ xY.out HD.out (fun n hn=>Ao (Nw.out.Nt n) (by omega)) x hnm true (by rw[Zk Nw.out HD.out];exact⟨fun _=>hfit,fun _=>rfl⟩);unfold Di at cFi;go_upto_region 10 with(go_at_call 174;refine cFi.mono ?_;rintro e w3 ⟨rfl,hb3⟩;have HB3:=Aa hb3;clear hb3);have HW3:=Aa (HW2.out.below HB3.out);have AaV:=Aa (xY.out.below HB3.out);have Nl:=Aa ((HB3.out.block _ (Ab Kh.out)).trans Kh.out);clear e1 p0 p1 p2 p3 p4 cFi HW2 xY Kh HB3;have e1:w3.cell? ⟨C,0,none⟩=some (Ag b):=Ap HW3.out.t 0;obtain⟨⟨p0,p1,p2,p3,p4⟩,_⟩:=Aj Nl.out;obtain⟨nd,hnd⟩:∃nd:Nat,x.node=nd:=⟨x.node.toNat,by have:=hfit.1;omega⟩;have Aap:1≤nd∧nd≤200:=by have:=hfit.1;omega
        have h0:Bo l1 nd=0:=by show AP l1 (nd:Int)=0;rw[←hnd];exact hfit.2.1
        have cPu:=Vn AaV.out HD.out (Ao (Nw.out.Nt d) (by omega)) x hnd Aap.2 (by have:=Qn hfit.2.2.1;omega);unfold ED Di at cPu;have HND:=Aa hnd;have zh:=Aa Aap;have HH0:=Aa h0;have Ny:=Aa hfit;clear hnd Aap h0 hfit;go_upto_region 11 with(go_at_call 169;refine cPu.mono ?_;rintro e w4 ⟨R4,rfl,yE,Abr⟩;have ZU:=Aa yE;have dW:=Aa Abr;clear yE Abr);have HW4:=Aa (HW3.out.put AaV.out HND.out zh.out.1 HH0.out ZU.out dW.out);have za:=Aa ((dW.out.rest q (Ab Nl.out) zg.out).trans Nl.out);clear e1 p0 p1 p2 p3 p4 cPu HW3 AaV Nl ZU dW;obtain⟨⟨p0,p1,p2,p3,p4⟩,_⟩:=Aj za.out;have HG4:=Aa (KP Nw.out HD1.out Ny.out);cases Oc:x.dir with
        | false =>
         rw[Oc]at p2;have XW:=Aa (lZ.out.symm.trans (xC Ny.out Oc));have HD4:Hid (AP (l1++[⟨(d:Int),x⟩]) (d:Int)=2):=Aa (by rw[EX (by have:=HD1.out;omega)];exact HD1.out);clear Oc;go_wp2;go_roundw
         case rel=>exact⟨i+1,_,f1,by omega,by first|rfl|go_num,HW4.out,HG4.out,HD4.out,by have:=UD.out;simp;omega,by have:=zA.out;simp;omega,XW.out.symm⟩
         case measure=>simp[intOf];omega
        | true =>
         rw[Oc]at p2;have e2:w4.cell? ⟨D,0,none⟩=some (.func (.func 173) #[] #[Ag A,Ag B,Ag C,Ag D]):=Ap HW4.out.f 0;have hk4:AP (l1++[⟨(d:Int),x⟩]) (nd:Int)=2:=by rw[←HND.out,Pg Ny.out.2.1,if_pos Oc]
         have yI:(l1++[(⟨(d:Int),x⟩:Az)]).length=l1.length+1:=by simp
         have cI:=IH nd _ f1 w4 zh.out.2 HG4.out hk4 (by have:=UD.out;omega) (by have:=zA.out;omega) HW4.out;rw[←HND.out]at cI;cases hr:(Gs G c k x.node (l1++[⟨(d:Int),x⟩],f1)).1 with
         | false =>
          have XW:Hid (RR.1=false):=Aa (by rw[←lZ.out];exact AaC Ny.out Oc hr);rw[hr]at cI;clear hr Oc hk4 yI;go_wp2_with (go_at_call 173;refine cI.mono ?_;rintro e w5 ⟨rfl,hb5,_⟩;have I4:=Aa hb5;clear hb5);go_ret;exact⟨by rw[XW.out];rfl,I4.out,fun h=>by rw[XW.out]at h;cases h⟩
         | true =>
          have XW:Hid (Eu c (Gs G c k) (d:Int) (es2.drop (i+1)) (Gs G c k x.node (l1++[⟨(d:Int),x⟩],f1)).2=RR):=Aa (by rw[←lZ.out];exact(AaB Ny.out Oc hr).symm);obtain⟨s1,s2,s3,s4⟩:=kK Nw.out HD1.out Ny.out Oc hr (by have:=zA.out;omega);have S1:=Aa s1;have S2:=Aa s2;have S3:=Aa s3;have S4:=Aa s4;rw[hr]at cI;clear hr Oc hk4 yI s1 s2 s3 s4;generalize Gs G c k x.node (l1++[⟨(d:Int),x⟩],f1)=Z at *;go_wp2_with (go_at_call 173;refine cI.mono ?_;rintro e w5 ⟨rfl,hb5,hw5⟩;have X5:=Aa (hw5 rfl);clear hb5 hw5);go_roundw
          case rel=>exact⟨i+1,Z.2.1,Z.2.2,by omega,by first|rfl|go_num,X5.out,S1.out,S2.out,by have:=UD.out;have:=S3.out;omega,S4.out,XW.out⟩
          case measure=>simp[intOf];omega
      · have cFi:=TJ xY.out HD.out (fun n hn=>Ao (Nw.out.Nt n) (by omega)) x hnm false (by rw[Zk Nw.out HD.out];exact⟨fun h=>(by cases h),fun h=>absurd h hfit⟩);have XW:=Aa (lZ.out.symm.trans (AbL hfit));unfold Di at cFi;clear hfit;go_wp2_with (go_at_call 174;refine cFi.mono ?_;rintro e w3 ⟨rfl,hb3⟩;have HB3:=Aa hb3;clear hb3);go_ret;refine⟨by rw[XW.out];rfl,(HW2.out.below HB3.out).b0,fun h=>by rw[XW.out]at h;cases h⟩
    · have hiz:¬(i:Int)<(m:Int):=by omega
      have lZ:Hid (RR=(true,(l1,f1))):=Aa (by
       rw[←Ht.out,JW (by rw[HMM.out];omega)];rfl)
      go_wp2;go_ret;rw[lZ.out];exact⟨rfl,HW1.out.b0,fun _=>HW1.out⟩
end Go.Proofs.YtdmkhmeaphaapaaGreat
namespace Go.Proofs.YtdmkhmeaphaapaaGreat
open Go.RowKit Go.Sort
theorem vZ {w:World}{v:Value}{l:List Int}(h:Kc w v l):CQ w v l:=by
 rcases h with h|⟨g,off,cap,hg,hv,hc⟩
 · exact Or.inl h
 · refine Or.inr ⟨g,off,cap,hg,hv,fun j hj=>?_⟩;have h1:=hc j l[j] (Co hj);have h2:=h1 0 (.int .i64 l[j]) rfl;rw[Gi,Co hj];simpa using h2
def EJ (K:Nat→Int):Nat→List Int
 | 0=>[]
 | n+1=>EJ K n++(if n≠0∧K n≠0 then [(n:Int)] else [])
theorem R7 (K:Nat→Int):∀n,(EJ K n).length≤n
 | 0=>Ae _
 | n+1=>by
  have:=R7 K n;unfold EJ;rw[A7];split<;>simp<;>omega
theorem PU (K:Nat→Int):∀(n:Nat) (x:Int),x∈EJ K n↔∃m:Nat,m<n∧m≠0∧K m≠0∧x=m
 | 0,x=>by unfold EJ;simp
 | n+1,x=>by
  unfold EJ;rw[EI,PU K n x];constructor
  · rintro(⟨m,h1,h2⟩|h)
    · exact⟨m,by omega,h2⟩
    · by_cases hc:n≠0∧K n≠0
      · rw[if_pos hc,Cn]at h;exact⟨n,by omega,hc.1,hc.2,h⟩
      · rw[if_neg hc]at h;cases h
  · rintro⟨m,h1,h2,h3,h4⟩;by_cases e:m=n
    · subst e;rw[if_pos ⟨h2,h3⟩];exact Or.inr (Cn.2 h4)
    · exact Or.inl ⟨m,by omega,h2,h3,h4⟩
def PG (X:List Int)(w:World)(e:Ending)(w':World):Prop:=∃v,e=.returned v∧CQ w' v X∧Below w.heap.size w w'
section
variable {w:World}{b:Nat}{K:Nat→Int}{E:Nat→List Br}{R:Nat→Value}{u:Nat}{v:Value}{ys:List Int}{c:Int}
set_option maxHeartbeats 8000000 in
theorem zI (h:TM w b K E R u v ys c)(hK:∀n,n≤200→K n=0∨K n=1∨K n=2):Calls Tryz.prog 175 #[Ag b] w (PG (EJ K 201) w):=by
 unfold PG;have HT:=Aa h;have HKK:=Aa hK;obtain⟨X,hX⟩:∃X,EJ K 201=X:=⟨_,rfl⟩;rw[hX];have HX:=Aa hX;clear h hX hK;go_enter Tryz.func175,Tryz.ntmps175;go_wp2;go_loopw [3,5] (fun ov iv wr=>∃n:Nat,n≤201∧iv=.int .i64 n∧wr.ownsRow w.heap.size 3 1 ov (EJ K n).length ((EJ K n).flatMap GK)∧Below w.heap.size w wr) (fun _ iv _=>201-(intOf iv).toNat)
 case atStart=>exact⟨0,by omega,rfl,FV _ _ _ _,Ad _ _⟩
 case round =>
  obtain⟨n,hn,rfl,hrow,hb⟩:=hrel;have HW:=Aa hrow;have FU:=Aa hb;have hdl:=R7 K n;have Nk:Hid (EJ K (n+1)=EJ K n++(if n≠0∧K n≠0 then [(n:Int)] else [])):=Aa rfl;have hsz:=hb.size;by_cases hn2:n≤200
  · have hnz:(n:Int)<201:=by omega
    have hn0:(0:Int)≤(n:Int):=by omega
    have c1:=((HT.out.below hb).LH hn2).1;clear hrow hb;by_cases hz:n=0
    · subst hz;have HS2:Hid (EJ K (0+1)=EJ K 0):=Aa (by rw[Nk.out,if_neg (by omega),Cz]);clear Nk c1;go_wp2;go_roundw
      case rel=>exact⟨0+1,by omega,by first|rfl|go_num,by rw[HS2.out];exact HW.out,FU.out⟩
      case measure=>simp[intOf]<;>omega
    · have hzb:((n:Int)==0)=false:=by rw[Ba];omega
      have hzc:¬(n:Int)=0:=by omega
      have hzn:((n:Int)!=0)=true:=by rw[bne,hzb];rfl
      have hze:¬n=0:=hz;have hzd:¬n=0:=hz;by_cases hk:K n=0
      · rw[hk]at c1;have HS2:Hid (EJ K (n+1)=EJ K n):=Aa (by rw[Nk.out,if_neg (fun e=>e.2 hk),Cz]);clear hk Nk;go_wp2;go_roundw
        case rel=>exact⟨n+1,by omega,by first|rfl|go_num,by rw[HS2.out];exact HW.out,FU.out⟩
        case measure=>simp[intOf];omega
      · have HS2:Hid (EJ K (n+1)=EJ K n++[(n:Int)]):=Aa (by rw[Nk.out,if_pos ⟨hz,hk⟩]);clear Nk hzd hz;have Acx:=(HKK.out n hn2).resolve_left hk;clear hk;rcases Acx with hk|hk
        · rw[hk]at c1;clear hk;have NJ:Hid (World.ownsRow (wr.alloc (.cells #[.int .i64 (n:Int)] 3)) w.heap.size 3 1 u3 (EJ K n).length ((EJ K n).flatMap GK)):=Aa (HW.out.alloc _);have uA:Hid (Kc (wr.alloc (.cells #[.int .i64 (n:Int)] 3)) (.slice (some ⟨wr.heap.size,0,none⟩) 1 1) [(n:Int)]):=Aa (AL.block (Dv _) (Ai _ _));have hsa:w.heap.size≤(wr.alloc (.cells #[.int .i64 (n:Int)] 3)).heap.size:=by show _≤(wr.heap.push _).size;simp;omega
          have Qr:=Aa hsa;have K5:Hid (Below w.heap.size w (wr.alloc (.cells #[.int .i64 (n:Int)] 3))):=Aa (FU.out.alloc hsz _);have hlen:(EJ K n).length+[(n:Int)].length≤100000:=by simp;omega
          clear hsa;go_wp2_with (at_builtin;refine AY M8 rfl _ _ rfl w.heap.size _ _ _ rfl NJ.out _ [(n:Int)] (Dv _) (KF _) rfl uA.out hlen Qr.out ?_;intro v8 w8 Fz F6 JS;have uE:=Aa (K5.out.grown F6 Qr.out (fun j hj=>(NJ.out.lt j hj).1));have uo:=Aa Fz;clear Fz F6 JS);go_roundw
          case rel=>exact⟨n+1,by omega,by first|rfl|go_num,by rw[HS2.out,A7,FB];exact uo.out,uE.out⟩
          case measure=>simp[intOf];omega
        · rw[hk]at c1;clear hk;have NJ:Hid (World.ownsRow (wr.alloc (.cells #[.int .i64 (n:Int)] 3)) w.heap.size 3 1 u3 (EJ K n).length ((EJ K n).flatMap GK)):=Aa (HW.out.alloc _);have uA:Hid (Kc (wr.alloc (.cells #[.int .i64 (n:Int)] 3)) (.slice (some ⟨wr.heap.size,0,none⟩) 1 1) [(n:Int)]):=Aa (AL.block (Dv _) (Ai _ _));have hsa:w.heap.size≤(wr.alloc (.cells #[.int .i64 (n:Int)] 3)).heap.size:=by show _≤(wr.heap.push _).size;simp;omega
          have Qr:=Aa hsa;have K5:Hid (Below w.heap.size w (wr.alloc (.cells #[.int .i64 (n:Int)] 3))):=Aa (FU.out.alloc hsz _);have hlen:(EJ K n).length+[(n:Int)].length≤100000:=by simp;omega
          clear hsa;go_wp2_with (at_builtin;refine AY M8 rfl _ _ rfl w.heap.size _ _ _ rfl NJ.out _ [(n:Int)] (Dv _) (KF _) rfl uA.out hlen Qr.out ?_;intro v8 w8 Fz F6 JS;have uE:=Aa (K5.out.grown F6 Qr.out (fun j hj=>(NJ.out.lt j hj).1));have uo:=Aa Fz;clear Fz F6 JS);go_roundw
          case rel=>exact⟨n+1,by omega,by first|rfl|go_num,by rw[HS2.out,A7,FB];exact uo.out,uE.out⟩
          case measure=>simp[intOf];omega
  · have hnz:¬(n:Int)<201:=by omega
    obtain rfl:n=201:=by omega
    rw[HX.out]at HW;have HE:Hid (Kc wr u3 X):=Aa (AL.own (Dv _) HW.out rfl);clear hrow hb;go_wp2;go_ret;exact⟨_,rfl,vZ HE.out,FU.out⟩
end
end Go.Proofs.YtdmkhmeaphaapaaGreat
namespace Go.Proofs.YtdmkhmeaphaapaaGreat
open Go.RowKit Go.Sort
theorem pK (m:Nat)(M:List Bool)(x:Int)(n:Nat)(hM:M.length=201)(hn:n≤200):(yA m M x).getD n false=(M.getD n false||decide (1≤x∧x≤(m:Int)∧x=(n:Int))):=by
 unfold yA;split
 · rename_i h;rw[Gi,Gi,List.getElem?_set];by_cases e:x.toNat=n
   · rw[if_pos e,if_pos (by omega),A8 (by omega:1≤x∧x≤(m:Int)∧x=(n:Int))];simp
   · rw[if_neg e,Bb (by omega:¬(1≤x∧x≤(m:Int)∧x=(n:Int)))];simp
 · rename_i h;rw[Bb (fun h2=>h ⟨h2.1,h2.2.1⟩)];simp
theorem Vw (m:Nat)(n:Nat)(hn:n≤200):∀(l:List Int) (M:List Bool),M.length=201→(l.foldl (yA m) M).getD n false=(M.getD n false||decide ((n:Int)∈l∧1≤n∧n≤m))
 | [],M,_=>by simp
 | x::l,M,hM=>by
  rw[List.foldl_cons,Vw m n hn l _ ((fV m M x).trans hM),pK m M x n hM hn,Bool.or_assoc];congr 1;rw[Bool.eq_iff_iff,Bool.or_eq_true,LU,LU,LU,Em];constructor
  · rintro(⟨h1,h2,h3⟩|⟨h1,h2,h3⟩)
    · exact⟨Or.inl h3.symm,by omega,by omega⟩
    · exact⟨Or.inr h1,h2,h3⟩
  · rintro⟨h1|h1,h2,h3⟩
    · exact Or.inl ⟨by omega,by omega,h1.symm⟩
    · exact Or.inr ⟨h1,h2,h3⟩
theorem wG (l:List Az):FP 200 (EJ (Bo l) 201)=BI l:=by
 apply List.ext_getElem
 · rw[Qa];simp[BI]
 · intro n h1 h2;have hn:n≤200:=by rw[Qa]at h1;omega
   have e1:(FP 200 (EJ (Bo l) 201)).getD n false=(BI l).getD n false:=by
    rw[G7 l hn];unfold FP;rw[Vw 200 n hn _ _ JX];rw[Bool.eq_iff_iff,Bool.or_eq_true,LU,LU];have hr:(List.replicate 201 false).getD n false=false:=by
     rw[Gi,List.getElem?_replicate];split<;>rfl
    rw[hr];constructor
    · rintro(h|⟨h,h3,h4⟩)
      · cases h
      · obtain⟨k,k1,k2,k3,k4⟩:=(PU _ _ _).1 h;have:n=k:=by omega
        subst this;exact⟨k2,k3⟩
    · rintro⟨h3,h4⟩;exact Or.inr ⟨(PU _ _ _).2 ⟨n,by omega,h3,h4,rfl⟩,by omega,hn⟩
   rw[Gi,Gi,Co h1,Co h2]at e1;exact e1
theorem bF (l:List Az)(n:Nat):Bo l n=0∨Bo l n=1∨Bo l n=2:=by
 show AP l (n:Int)=0∨AP l (n:Int)=1∨AP l (n:Int)=2
 unfold AP;split
 · exact Or.inr (Or.inr rfl)
 · unfold Cu;split
   · split
     · exact Or.inr (Or.inr rfl)
     · exact Or.inr (Or.inl rfl)
   · exact Or.inl rfl
section
variable {w:World}{b:Nat}{K:Nat→Int}{E:Nat→List Br}{R:Nat→Value}{u:Nat}{v:Value}{ys:List Int}{c:Int}
theorem Iz {w:World}{B B':Nat}{T:TypeId}{k:Nat}{v:Value}{n:Nat}{xs:List Value}(h:w.ownsRow B T k v n xs)(hB:B'≤B):w.ownsRow B' T k v n xs:=by
 refine⟨h.1,?_⟩;rcases h.2 with h1|⟨g,cap,cur,h1,h2,h3⟩
 · exact Or.inl h1
 · exact Or.inr ⟨g,cap,cur,h1,Ao hB h2,h3⟩
theorem TM.wC (h:TM w b K E R u v ys c){u':Nat}{v':Value}{ys':List Int}(ho:Dw (b+1) w v' ys')(hg:Fv 200 u' ys') :
 TM (((w.setCell ⟨b,402,none⟩ (.int .i64 200)).setCell ⟨b,403,none⟩ (.int .i64 (u':Int))).setCell ⟨b,404,none⟩ v') b K E R u' v' ys' c:=by
 obtain⟨cs,hc,hO⟩:=h.cells;have hf:∀g,g≠b→(((w.setCell ⟨b,402,none⟩ (.int .i64 200)).setCell ⟨b,403,none⟩ (.int .i64 (u':Int))).setCell ⟨b,404,none⟩ v').heap[g]?=w.heap[g]?:=fun g hg=>by
  rw[Bw _ _ _ _ hg,Bw _ _ _ _ hg,Bw _ _ _ _ hg]
 have hs:=hO.size;refine⟨⟨_,Bn _ b 404 _ _ _ (Bn _ b 403 _ _ _ (Bn _ b 402 _ _ _ hc)),?_⟩,fun n hn=>AV (h.rows n hn) fun g hg=>hf g (by have:=((h.rows n hn).lt g hg).1;omega),h.apart,AV ho fun g hg=>hf g (by have:=(World.ownsRow.lt ho g hg).1;omega),hg⟩;have hne:∀j,j<402∨j=405→(((cs.setIfInBounds 402 (.int .i64 200)).setIfInBounds 403 (.int .i64 (u':Int))).setIfInBounds 404 v')[j]?=cs[j]?:=fun j hj=>by
  rw[LF (by omega),LF (by omega),LF (by omega)]
 refine⟨by simp[hs],fun n hn=>by rw[hne _ (by omega)];exact hO.kind n hn,fun n hn=>by rw[hne _ (by omega)];exact hO.row n hn,?_,?_,?_,by rw[hne _ (by omega)];exact hO.Ho⟩
 · rw[LF (by omega),LF (by omega),Qu (by omega)];rfl
 · rw[LF (by omega),Qu (by simp;omega)]
 · rw[Qu (by simp;omega)]
end
theorem dL (w:World)(a b:Obj):((w.alloc a).alloc b).heap[w.heap.size]?=some a:=by
 rw[Lib.alloc_old _ _ _ (by simp)];exact Ai _ _
def YL (G:Cw)(c:Int)(cnt:Nat):Prop:=1≤c∧(Fx G c).1=true∧(Fx G c).2.2=cnt
def PK (G:Cw)(c:Int)(t:Bool)(w:World)(e:Ending)(w':World):Prop:=
 (t=false→e=.returned (.tuple #[.pointer none,.int .i64 2])∧Below w.heap.size w w') ∧
 (t=true→∃b S,e=.returned (.tuple #[Ag b,.int .i64 0])∧Bl.Is w' b (Fx G c).2.1 c S∧(∀k,S k→w.heap.size≤k)∧Below w.heap.size w w')
set_option maxHeartbeats 8000000 in
theorem Aad (w:World)(mb n cnt:Nat)(F:Int→Option Value)(G:Cw)(c:Int)(hm:LC w mb n F G)(hf:IV Tryz.prog 3 w mb n F cnt)(hsm:dN G)(t:Bool)(ht:t=true↔YL G c cnt) :
 Calls Tryz.prog 148 #[.int .i64 c,.map (some mb)] w (PK G c t w):=by
 unfold PK;have HM:=Aa hm;have HMF:=Aa hf;have uR:=Aa hsm;have HT:=Aa ht;have cN:=U7;unfold PI at cN;have hb0:Below w.heap.size w (w.alloc (.cells #[.map (some mb)] 235)):=(Ad _ w).alloc (Ae _) _;have HB0:=Aa hb0;have HA0:Hid ((w.alloc (.cells #[.map (some mb)] 235)).heap[w.heap.size]?=some (.cells #[.map (some mb)] 235 (0,0))):=Aa (Ai _ _);clear hb0 hm hf hsm ht;go_enter Tryz.func148,Tryz.ntmps148;go_upto_region 1 with fail;generalize (w.alloc (.cells #[.map (some mb)] 235))=W0 at *;generalize hA:w.heap.size=A at *;go_upto_region 2 with(go_at_call 73;refine(cN _).mono ?_;rintro e w1 ⟨b,rfl,hbl,gJ,hb1⟩;have mI:=Aa hbl;have uQ:=Aa gJ;have HB1:=Aa hb1;clear hbl gJ hb1);have hbw:Below w1.heap.size w1 (w1.alloc (.cells #[Ag b] 55)):=(Ad _ w1).alloc (Ae _) _;have AaW:=Aa (uQ.out.below hbw);have zA:Hid ((w1.alloc (.cells #[Ag b] 55)).heap[w1.heap.size]?=some (.cells #[Ag b] 55 (0,0))):=Aa (Ai _ _);have mg:=Aa (HB1.out.trans (hbw.mono HB1.out.size));have hbC:b<w1.heap.size:=uQ.out.blt;clear hbw uQ HB1;generalize (w1.alloc (.cells #[Ag b] 55))=W1 at *;generalize w1.heap.size=C at *;obtain⟨k1,k2⟩:=AaW.out.MI;have e1:W1.cell? ⟨C,0,none⟩=some (Ag b):=Ap zA.out 0;go_upto_region 6 with fail;have X5:Hid (Ki w b mb A W1.heap.size C (W1.heap.size+1) c [] 0 (((W1.setCell ⟨b,405,none⟩ (.int .i64 c)).alloc (.cells #[.int .i64 0] 3)).alloc (.cells #[.func (.func 173) #[] #[Ag A,Ag W1.heap.size,Ag C,Ag (W1.heap.size+1)]] 229))):=by
  have xg:=Ab HA0.out;have hlt1:=Ab zA.out;have hAb:A<b:=by have:=mI.out;omega
  have hs5:((W1.setCell ⟨b,405,none⟩ (.int .i64 c)).alloc (.cells #[.int .i64 0] 3)).heap.size=W1.heap.size+1:=by simp[World.setCell]
  have hs4:(W1.setCell ⟨b,405,none⟩ (.int .i64 c)).heap.size=W1.heap.size:=by simp[World.setCell]
  have hbelow:Below (W1.setCell ⟨b,405,none⟩ (.int .i64 c)).heap.size (W1.setCell ⟨b,405,none⟩ (.int .i64 c)) (((W1.setCell ⟨b,405,none⟩ (.int .i64 c)).alloc (.cells #[.int .i64 0] 3)).alloc (.cells #[.func (.func 173) #[] #[Ag A,Ag W1.heap.size,Ag C,Ag (W1.heap.size+1)]] 229)):=((Ad _ _).alloc (Ae _) _).alloc (by simp) _;have hset:∀g,g≠b→g<W1.heap.size→(((W1.setCell ⟨b,405,none⟩ (.int .i64 c)).alloc (.cells #[.int .i64 0] 3)).alloc (.cells #[.func (.func 173) #[] #[Ag A,Ag W1.heap.size,Ag C,Ag (W1.heap.size+1)]] 229)).heap[g]?=W1.heap[g]?:=fun g h1 h2=>by
   rw[hbelow.block g (by rw[hs4];exact h2)];exact Bw _ _ _ _ h1
  have hbA:Below A w W1:=by
   have:=HB0.out.trans (mg.out.mono (by omega))
   first|exact this|(rw[hA]at this;exact this)|(rw[←hA]at this ⊢;exact this)
  refine Aa ⟨⟨fun _=>.slice none 0 0,?_⟩,?_,?_,?_,?_,?_,by omega,by have:=mg.out.size;omega⟩
  · have h9:=(AaW.out.Rt c).below hbelow;rw[←VE]at h9;exact h9
  · rw[hset A (by omega) (by have:=mg.out.size;omega),mg.out.block A xg];exact HA0.out
  · have h9:=dL (W1.setCell ⟨b,405,none⟩ (.int .i64 c)) (.cells #[.int .i64 0] 3) (.cells #[.func (.func 173) #[] #[Ag A,Ag W1.heap.size,Ag C,Ag (W1.heap.size+1)]] 229);rw[hs4]at h9;exact h9
  · rw[hset C (by omega) hlt1];exact zA.out
  · have h9:=Ai ((W1.setCell ⟨b,405,none⟩ (.int .i64 c)).alloc (.cells #[.int .i64 0] 3)) (.cells #[.func (.func 173) #[] #[Ag A,Ag W1.heap.size,Ag C,Ag (W1.heap.size+1)]] 229);rw[hs5]at h9;exact h9
  · (try rw[hA])
    exact(hbA.setCell (p:=⟨b,405,none⟩) (by show A≤b;omega) _).trans (hbelow.mono (by rw[hs4];have:=mg.out.size;omega))
 generalize AcF:(((W1.setCell ⟨b,405,none⟩ (.int .i64 c)).alloc (.cells #[.int .i64 0] 3)).alloc (.cells #[.func (.func 173) #[] #[Ag A,Ag W1.heap.size,Ag C,Ag (W1.heap.size+1)]] 229))=W5 at *;clear AcF;generalize W1.heap.size=B at *;generalize hD:B+1=D at *;clear k1 k2 e1 AaW zA mg HA0 HB0 cN hD;have e1:W5.cell? ⟨D,0,none⟩=some (.func (.func 173) #[] #[Ag A,Ag B,Ag C,Ag D]):=Ap X5.out.f 0;by_cases hc:c<1
 · have HF:Hid (t=false):=Aa (by
    cases t with
    | false=>rfl
    | true=>have:=(HT.out.1 rfl).1;omega)
   have hcb:=A8 hc;go_wp2;go_ret2;rw[HF.out];exact⟨fun _=>⟨rfl,by first|exact X5.out.b0|(rw[←hA];exact X5.out.b0)⟩,fun h=>by cases h⟩
 have hcb:=Bb hc;have hc1:1≤c:=by omega
 have cI:=rz w b mb n A B C D F G c HM.out uR.out 202 0 [] 0 W5 (by omega) (TC hc1) rfl (by simp) (by simp) X5.out;unfold Ur at cI;have eF:Hid (Gs G c 202 ((0:Nat):Int) ([],0)=Fx G c):=Aa rfl;rw[eF.out]at cI;have HOK:=Aa (fun h=>Og (G:=G) hc1 h);cases hr:(Fx G c).1 with
 | false =>
  have HF:Hid (t=false):=Aa (by
   cases t with
   | false=>rfl
   | true=>have:=(HT.out.1 rfl).2.1;rw[hr]at this;cases this)
  rw[hr]at cI;clear hr;go_wp2_with (go_at_call 173;refine cI.mono ?_;rintro e w6 ⟨rfl,hb6,_⟩;have RJ:=Aa hb6;clear hb6);go_ret2;rw[HF.out];exact⟨fun _=>⟨rfl,by first|exact RJ.out|(rw[←hA];exact RJ.out)⟩,fun h=>by cases h⟩
 | true =>
  obtain⟨l,h1,hg,hdn,hfu⟩:=HOK.out hr;rw[hr,h1]at cI;have HR1:=Aa h1;have HG:=Aa hg;have HR:=Aa hr;simp only[true_implies]at cI;clear hr h1 hg hdn hfu;generalize 1+(Bp l).length=f at *;by_cases hfc:f=cnt
  · subst hfc;have HF:Hid (t=true):=Aa (HT.out.2 ⟨hc1,HR.out,by rw[HR1.out]⟩);go_upto_region 8 with(go_at_call 173;refine cI.mono ?_;rintro e w6 ⟨rfl,hb6,hw6⟩;have Rl:=Aa hw6;clear hb6 hw6;have q1:w6.cell? ⟨B,0,none⟩=some (.int .i64 (f:Int)):=Ap Rl.out.n 0;have q2:w6.cell? ⟨A,0,none⟩=some (.map (some mb)):=Ap Rl.out.a 0;have q3:=fun ty=>(HMF.out.below Rl.out.b0).len Tryz.underlying235 ty);obtain⟨R,gJ⟩:=Rl.out.tm;have uQ:=Aa gJ;have HFB:Hid (∀W,Below w6.heap.size w6 W→(W.frozen? ⟨b,402,none⟩=false∧W.frozen? ⟨b,403,none⟩=false∧W.frozen? ⟨b,404,none⟩=false)∧W.cell? ⟨b,402,none⟩=some (.int .i64 200)∧W.cell? ⟨b,403,none⟩=some (.int .i64 0)∧W.cell? ⟨b,404,none⟩=some (.slice none 0 0)):=Aa (fun W hW=>by
     obtain⟨cs,hcs,hO⟩:=(uQ.out.below hW).cells;exact⟨⟨BA hcs _,BA hcs _,BA hcs _⟩,(Ap hcs _).trans hO.most,(Ap hcs _).trans hO.used,(Ap hcs _).trans hO.wait⟩)
    have eu:Hid (∀W,Below w6.heap.size w6 W→W.cell? ⟨C,0,none⟩=some (Ag b)):=Aa (fun W hW=>Ap ((hW.block _ (Ab Rl.out.t)).trans Rl.out.t) 0);have HCB:Hid (C≠b):=Aa (by
     obtain⟨cs,hcs,_⟩:=gJ.cells;exact Sa Rl.out.t hcs (by decide))
    have HCS:Hid (∀(W:World) (x y z:Value),W.cell? ⟨C,0,none⟩=some (Ag b)→(((W.setCell ⟨b,402,none⟩ x).setCell ⟨b,403,none⟩ y).setCell ⟨b,404,none⟩ z).cell? ⟨C,0,none⟩=some (Ag b)):=Aa (fun W x y z h=>by
     rw[Fj (Bw _ _ _ _ HCB.out),Fj (Bw _ _ _ _ HCB.out),Fj (Bw _ _ _ _ HCB.out)];exact h)
    have cU:Hid (∀W,Below w6.heap.size w6 W→Calls Tryz.prog 175 #[Ag b] W (PG (EJ (Bo l) 201) W)):=Aa (fun W hW=>zI (uQ.out.below hW) (fun n _=>bF l n));have cNw:Hid (∀v W,CQ W v (EJ (Bo l) 201)→Calls Tryz.prog 114 #[.int .i64 200,v] W (Ke 200 (BI l) W)):=Aa (fun v W hv=>by
     have h9:=fT 200 v _ W hv (Ao (R7 _ _) (by omega));rw[show Mm 200=200 from rfl,wG]at h9;exact h9)
    unfold PG at cU;unfold Ke at cNw;clear gJ q1 q2 q3 cI;have hs6:=eu.out w6.drew (Ad _ _).drew;go_region_with (first
     | (go_at_call 175;refine(cU.out w6.drew (Ad _ _).drew).mono ?_;rintro e w7 ⟨vu,rfl,hnu,Er⟩;have Uz:Below w6.heap.size w6 w7:=Dk (Ae _) (Ad _ _).drew Er;have hC7:=eu.out w7 Uz)
     | (go_at_call 114;refine(cNw.out vu w7 hnu).mono ?_;rintro e w8 ⟨pb,vp,rfl,hpl,Abv⟩;obtain⟨u8,ys8,JU,hgd,hrow⟩:=Abv;have hq8:Below w6.heap.size w6 w8:=Uz.trans ((JU.keep.below hpl (Ae _) (fun k hk=>(by cases hk))).mono Uz.size);have hk0:w8.cell? ⟨pb,0,none⟩=some (.int .i64 200):=Ap JU.at' 0;have hk1:w8.cell? ⟨pb,1,none⟩=some (.int .i64 (u8:Int)):=Ap JU.at' 1;have hk2:w8.cell? ⟨pb,2,none⟩=some vp:=Ap JU.at' 2;obtain⟨av,nv,cv,hvp⟩:=Dc JU.own;subst hvp;obtain⟨⟨f2,f3,f4⟩,f5,f6,f7⟩:=HFB.out w8 hq8;have hC8:=eu.out w8 hq8))
    all_goals
     have hC9:=HCS.out w8 (.int .i64 200) (.int .i64 (u8:Int)) (.slice av nv cv) hC8;have AbH:=(uQ.out.below hq8).wC (Iz JU.own (show b+1≤pb+1 by have:=(uQ.out.below Uz).blt;omega)) hgd;have AbY:=Aa AbH;have HRW:=Aa hrow;have FU:Hid (Below w.heap.size w (((w8.setCell ⟨b,402,none⟩ (.int .i64 200)).setCell ⟨b,403,none⟩ (.int .i64 (u8:Int))).setCell ⟨b,404,none⟩ (.slice av nv cv))):=Aa (by
      have h9:=Rl.out.b0.trans (hq8.mono Rl.out.b0.size);exact((h9.setCell (p:=⟨b,402,none⟩) Rl.out.hb _).setCell (p:=⟨b,403,none⟩) Rl.out.hb _).setCell (p:=⟨b,404,none⟩) Rl.out.hb _)
     clear AbH hrow Uz hq8 Er hnu JU hk0 hk1 hk2 f2 f3 f4 f5 f6 f7 hC7 hC8 hpl;generalize (((w8.setCell ⟨b,402,none⟩ (.int .i64 200)).setCell ⟨b,403,none⟩ (.int .i64 (u8:Int))).setCell ⟨b,404,none⟩ (.slice av nv cv))=W9 at *;go_wp2;go_ret2;refine⟨fun h=>(by rw[HF.out]at h;cases h),fun _=>⟨b,DV b R (.slice av nv cv),rfl,?_,fun k hk=>Ao Rl.out.hb (AbY.out.lt k hk).1,FU.out⟩⟩;rw[HR1.out];exact⟨R,u8,.slice av nv cv,ys8,AbY.out,HRW.out.symm,HG.out,rfl⟩
  · have HF:Hid (t=false):=Aa (by
     cases t with
     | false=>rfl
     | true=>have:=(HT.out.1 rfl).2.2;rw[HR1.out]at this;exact absurd this hfc)
    have n1:¬(f:Int)=(cnt:Int):=by omega
    have n2:((f:Int)==(cnt:Int))=false:=Ba.2 n1;have n3:((f:Int)!=(cnt:Int))=true:=by rw[bne,n2];rfl
    go_wp2_with (go_at_call 173;refine cI.mono ?_;rintro e w6 ⟨rfl,hb6,hw6⟩;have Rl:=Aa hw6;clear hb6 hw6;have q1:w6.cell? ⟨B,0,none⟩=some (.int .i64 (f:Int)):=Ap Rl.out.n 0;have q2:w6.cell? ⟨A,0,none⟩=some (.map (some mb)):=Ap Rl.out.a 0;have q3:=fun ty=>(HMF.out.below Rl.out.b0).len Tryz.underlying235 ty);go_ret2;rw[HF.out];exact⟨fun _=>⟨rfl,by first|exact Rl.out.b0|(rw[←hA];exact Rl.out.b0)⟩,fun h=>by cases h⟩
theorem IV.same {P:Program}{k:TypeId}{w w':World}{b n c:Nat}{F:Int→Option Value}(h:IV P k w b n F c)(hb:w'.heap[b]?=w.heap[b]?):IV P k w' b n F c:=by
 obtain⟨D,⟨es,cl,h1,h2⟩,h3⟩:=h;exact⟨D,⟨es,cl,hb.trans h1,h2⟩,h3⟩
theorem kM {w w':World}{v:Value}{l:List Br}(h:DD w v l)(hs:w.heap.size≤w'.heap.size)(hk:l≠[]→∀g,v.ownBlock=some g→w'.heap[g]?=w.heap[g]?):DD w' v l:=by
 by_cases hl:l=[]
 · subst hl;rcases h with h|⟨g,off,cap,hg,hv,_⟩
   · exact Or.inl h
   · exact Or.inl ⟨rfl,_,cap,by rw[hv];rfl⟩
 · exact h.only hs (hk hl)
structure Hi (B:Nat)(w w':World):Prop where
 size:w.heap.size≤w'.heap.size
 block:∀k,B≤k→k<w.heap.size→w'.heap[k]?=w.heap[k]?
theorem Hi.of_below {B:Nat}{w w':World}(h:Below w.heap.size w w'):Hi B w w':=⟨h.size,fun k _ hk=>h.block k hk⟩
structure Ik (B:Nat)(w:World)(mb n:Nat)(F:Int→Option Value)(cnt:Nat)(G:Cw):Prop where
 f:IV Tryz.prog 3 w mb n F cnt
 g:∀x,Hf x→match F x with
  | none=>G x=none
  | some v=>∃l,G x=some l∧DD w v l∧(l≠[]→∀g,v.ownBlock=some g→B≤g∧g<w.heap.size)
 mb:B≤mb
theorem Ik.at' {B:Nat}{w:World}{mb n cnt:Nat}{F:Int→Option Value}{G:Cw}(h:Ik B w mb n F cnt G):LC w mb n F G:=by
 refine⟨⟨cnt,h.f⟩,fun x hx=>?_⟩;have hg:=h.g x hx;cases hv:F x with
 | none=>rw[hv]at hg;exact hg
 | some v =>
  rw[hv]at hg;obtain⟨l,h1,h2,_⟩:=hg;exact⟨l,h1,h2⟩
theorem Ik.hi {B:Nat}{w w':World}{mb n cnt:Nat}{F:Int→Option Value}{G:Cw}(h:Ik B w mb n F cnt G)(hh:Hi B w w'):Ik B w' mb n F cnt G:=by
 refine⟨h.f.same (hh.block mb h.mb h.f.lt),fun x hx=>?_,h.mb⟩;have hg:=h.g x hx;cases hv:F x with
 | none=>rw[hv]at hg;exact hg
 | some v =>
  rw[hv]at hg;obtain⟨l,h1,h2,h3⟩:=hg;exact⟨l,h1,kM h2 hh.size fun hne g hg=>hh.block g (h3 hne g hg).1 (h3 hne g hg).2,fun hne g hg=>⟨(h3 hne g hg).1,Nat.lt_of_lt_of_le (h3 hne g hg).2 hh.size⟩⟩
theorem OG {w w':World}{b:Nat}(h:w.mapTurned w' b):w'.heap.size=w.heap.size∧(∀k,k≠b→w'.heap[k]?=w.heap[k]?)∧w'.os=w.os∧w'.tape=w.tape∧w'.output=w.output:=by
 obtain⟨es,cl,es',cl',h1,rfl⟩:=h;refine⟨by show(w.heap.setIfInBounds b _).size=_;simp,fun k hk=>?_,rfl,rfl,rfl⟩;show(w.heap.setIfInBounds b _)[k]?=_
 rw[LF (fun e=>hk e.symm)]
def zJ (G:Cw)(x:Int)(l:Option (List Br)):Cw:=fun y=>if y=x then l else G y
theorem Ik.set {B:Nat}{w:World}{mb n cnt:Nat}{F:Int→Option Value}{G:Cw}(h:Ik B w mb n F cnt G)(hn:n<maxLen){x:Int}(hx:Hf x){v:Value}{l:List Br}(he:DD w v l)(hv:l≠[]→∀g,v.ownBlock=some g→B≤g∧g<w.heap.size) :
 ∃w',(Instr.mapUpdate 235 (.map (some mb)) (.int .i64 x) v).run Tryz.prog w=.ok () w'∧Ik B w' mb (n+1) (vw F x (some v)) (if(F x).isSome=true then cnt else cnt+1) (zJ G x (some l))∧w.mapTurned w' mb:=by
 obtain⟨w',h1,h2,h3⟩:=h.f.update Tryz.underlying3 Tryz.underlying235 hn hx v;obtain⟨t1,t2,_⟩:=OG h3;obtain⟨es,cl,hmm⟩:=h.f.isMap;have keep:∀{v:Value} {l:List Br},DD w v l→DD w' v l:=fun {v l} he=>by
  rcases he with he|⟨g,off,cap,hg,hvv,hc⟩
  · exact Or.inl he
  · rcases l with _|⟨y,r⟩
    · exact Or.inl ⟨rfl,_,cap,by rw[hvv];rfl⟩
    · have hne:g≠mb:=by
       rintro rfl;have h9:=hc 0 y rfl 0 _ rfl;unfold World.cell? at h9;rw[hmm]at h9;simp at h9
      refine Or.inr ⟨g,off,cap,by rw[t1];exact hg,hvv,fun j x hj=>?_⟩;intro i u hu;rw[Fj (t2 g hne)];exact hc j x hj i u hu
 refine⟨w',h1,⟨h2,fun y hy=>?_,h.mb⟩,h3⟩;unfold vw zJ;by_cases e:y=x
 · rw[if_pos e,if_pos e];exact⟨l,rfl,keep he,fun hne g hg=>by rw[t1];exact hv hne g hg⟩
 · rw[if_neg e,if_neg e];have hg:=h.g y hy;cases hF:F y with
   | none=>rw[hF]at hg;exact hg
   | some v' =>
    rw[hF]at hg;obtain⟨l',g1,g2,g3⟩:=hg;exact⟨l',g1,keep g2,fun hne g hg=>by rw[t1];exact g3 hne g hg⟩
end Go.Proofs.YtdmkhmeaphaapaaGreat
