/- Kit. -/
import Derived.Test.YtdmkhmeaphaapaaGreatCZ9
import Derived.Laws.StructEq
import Derived.Test.YtdmkhmeaphaapaaGreatCZ0
import Derived.Test.YtdmkhmeaphaapaaGreatCZ8
set_option maxRecDepth 100000
set_option linter.unusedVariables false
set_option linter.unusedSimpArgs false
namespace Go.Proofs.YtdmkhmeaphaapaaGreat
open Go.RowKit Go.Sort
theorem wD (w:World):Calls Tryz.prog 30 #[] w fun e w'=>e=.returned (Bq (.slice none 0 0) 1)∧Below w.heap.size w w':=by
 unfold Bq;go_enter Tryz.func30,Tryz.ntmps30;have HB:Hid (Below w.heap.size w (w.alloc (.cells #[.slice none 0 0,.int .i64 1] 31))):=Aa ((Ad _ w).alloc (Ae _) _);go_wp2;refine Bv (results_cell_row Tryz.results30 _ _ _ _ _ _ _ rfl (Ai _ _) Tryz.underlying31 rfl NB) rfl ⟨rfl,HB.out⟩
structure yU where
 k:Int
 d:Int
 dt:Int
 s:ByteArray
 ns:ByteArray
 Bg:Bool
 sh:Int
deriving Inhabited
def opV (o:yU):Value:=.agg #[.int .u8 o.k,.int .i64 o.d,.int .i64 o.dt,.string o.s,.string o.ns,.bool o.Bg,.int .i64 o.sh]
def UB (l:List Az)(nx:Int)(o:yU):(List Az×Int)×Int×Int:=
 if o.k%3=0 then D7 l nx o.d o.s o.Bg o.sh
 else if o.k%3=1 then((BM l nx o.d o.s o.Bg).1,0,(BM l nx o.d o.s o.Bg).2)
 else((D5 l nx o.d o.s o.dt o.ns o.sh).1,0,(D5 l nx o.d o.s o.dt o.ns o.sh).2)
theorem Mi {W:World}{q:Nat}(hq:W.heap[q]?=some (.cells #[.slice none 0 0,.int .i64 0] 31 (0,0))){v8:Value}{nx8:Int}{l8:List Az}(h8:Bi W v8 l8) :
 ((W.setCell ⟨q,0,none⟩ v8).setCell ⟨q,1,none⟩ (.int .i64 nx8)).heap[q]?=some (.cells #[v8,.int .i64 nx8] 31 (0,0))∧Bi ((W.setCell ⟨q,0,none⟩ v8).setCell ⟨q,1,none⟩ (.int .i64 nx8)) v8 l8:=by
 have hb:v8.ownBlock≠some q:=fun e=>by
  obtain⟨cs,hc⟩:=h8.2 _ e;exact Ci hc hq (by decide) rfl
 refine⟨?_,(h8.set hb 0 _).set hb 1 _⟩;rw[Bn _ q 1 _ _ _ (Bn _ q 0 _ _ _ hq)];rfl
theorem KT {B q:Nat}{W0 W:World}{x y:Value}(h:Below B W0 W)(hq:B≤q):Below B W0 ((W.setCell ⟨q,0,none⟩ x).setCell ⟨q,1,none⟩ y):=(h.setCell (p:=⟨q,0,none⟩) hq _).setCell (p:=⟨q,1,none⟩) hq _
set_option maxHeartbeats 8000000 in
theorem AaI (v:Value)(l:List Az)(nx:Int)(o:yU)(w:World)(hv:Bi w v l)(hl:l.length≤999)(hs:o.s.size≤9223372036854775807)(hns:o.ns.size≤9223372036854775807)(hk0:0≤o.k)(hk1:o.k≤255)(hnx:nx+1≤9223372036854775807)(Xo:0≤nx) :
 Calls Tryz.prog 38 #[Bq v nx,opV o] w (KY (UB l nx o) w):=by
 unfold KY;obtain⟨k,d,dt,s,ns,Bg,sh⟩:=o;simp only at hs hns hk0 hk1;obtain⟨R,hR⟩:∃R,UB l nx ⟨k,d,dt,s,ns,Bg,sh⟩=R:=⟨_,rfl⟩;rw[hR];unfold UB at hR;simp only at hR;have HRR:=Aa hR;obtain⟨a,cap,rfl⟩:=hv.1.len;have cL:=fun W (h:Bi W (.slice a l.length cap) l)=>pX (.slice a l.length cap) l nx d s Bg sh W h hl hs hnx Xo
 have cU:=fun W (h:Bi W (.slice a l.length cap) l)=>ay (.slice a l.length cap) l nx d s Bg W h hl
 have cM:=fun W (h:Bi W (.slice a l.length cap) l)=>pI (.slice a l.length cap) l nx d s dt ns sh W h hl hns hnx Xo
 obtain⟨m,hm⟩:∃m,l.length=m:=⟨_,rfl⟩;simp only[hm]at cL cU cM;rw[hm]at hv hl ⊢;have s1:(w.alloc (.cells #[.slice a m cap,.int .i64 nx] 31)).heap.size=w.heap.size+1:=by simp
 have s2:((w.alloc (.cells #[.slice a m cap,.int .i64 nx] 31)).alloc (.cells #[.int .u8 k,.int .i64 d,.int .i64 dt,.string s,.string ns,.bool Bg,.int .i64 sh] 105)).heap.size=w.heap.size+1+1:=by simp
 have hb0:Below w.heap.size w (((w.alloc (.cells #[.slice a m cap,.int .i64 nx] 31)).alloc (.cells #[.int .u8 k,.int .i64 d,.int .i64 dt,.string s,.string ns,.bool Bg,.int .i64 sh] 105)).alloc (.cells #[.slice none 0 0,.int .i64 0] 31)):=(((Ad _ w).alloc (Ae _) _).alloc (by rw[s1];omega) _).alloc (by rw[s2];omega) _;have HT:Hid (DC (((w.alloc (.cells #[.slice a m cap,.int .i64 nx] 31)).alloc (.cells #[.int .u8 k,.int .i64 d,.int .i64 dt,.string s,.string ns,.bool Bg,.int .i64 sh] 105)).alloc (.cells #[.slice none 0 0,.int .i64 0] 31)) w.heap.size (.slice a m cap) nx):=Aa (by
  unfold DC;rw[Ct _ _ _ (by rw[s2];omega),Ct _ _ _ (by rw[s1];omega)];exact Ai _ _)
 have HO:Hid (((((w.alloc (.cells #[.slice a m cap,.int .i64 nx] 31)).alloc (.cells #[.int .u8 k,.int .i64 d,.int .i64 dt,.string s,.string ns,.bool Bg,.int .i64 sh] 105)).alloc (.cells #[.slice none 0 0,.int .i64 0] 31))).heap[w.heap.size+1]?=some (.cells #[.int .u8 k,.int .i64 d,.int .i64 dt,.string s,.string ns,.bool Bg,.int .i64 sh] 105 (0,0))):=Aa (by
  rw[Ct _ _ _ (by rw[s2];omega),←s1];exact Ai _ _)
 have HQ:Hid (((((w.alloc (.cells #[.slice a m cap,.int .i64 nx] 31)).alloc (.cells #[.int .u8 k,.int .i64 d,.int .i64 dt,.string s,.string ns,.bool Bg,.int .i64 sh] 105)).alloc (.cells #[.slice none 0 0,.int .i64 0] 31))).heap[w.heap.size+1+1]?=some (.cells #[.slice none 0 0,.int .i64 0] 31 (0,0))):=Aa (by
  rw[←s2];exact Ai _ _)
 have HB:=Aa hb0;have HI0:=Aa (hv.kept hb0);unfold Bq at cL cU cM ⊢;unfold opV;clear hv hm hR hb0;go_enter Tryz.func38,Tryz.ntmps38;go_upto_region 1 with fail;generalize (((w.alloc (.cells #[.slice a m cap,.int .i64 nx] 31)).alloc (.cells #[.int .u8 k,.int .i64 d,.int .i64 dt,.string s,.string ns,.bool Bg,.int .i64 sh] 105)).alloc (.cells #[.slice none 0 0,.int .i64 0] 31))=W0 at *;clear s1 s2;generalize Tw:w.heap.size=bT at *;have Wn:=Aa Tw;clear Tw;obtain⟨t0,t1⟩:=HT.out.l;have p0:W0.cell? ⟨bT+1,0,none⟩=some (.int .u8 k):=Ap HO.out 0;have p1:W0.cell? ⟨bT+1,1,none⟩=some (.int .i64 d):=Ap HO.out 1;have p2:W0.cell? ⟨bT+1,2,none⟩=some (.int .i64 dt):=Ap HO.out 2;have p3:W0.cell? ⟨bT+1,3,none⟩=some (.string s):=Ap HO.out 3;have p4:W0.cell? ⟨bT+1,4,none⟩=some (.string ns):=Ap HO.out 4;have p5:W0.cell? ⟨bT+1,5,none⟩=some (.bool Bg):=Ap HO.out 5;have p6:W0.cell? ⟨bT+1,6,none⟩=some (.int .i64 sh):=Ap HO.out 6;have hsw:W0.heap.size≥bT+1+1+1:=Ab HQ.out;have hkm:k.tmod 3=k%3:=Int.tmod_eq_emod_of_nonneg hk0;have hkc:k%3=0∨k%3=1∨k%3=2:=by omega
 have HQB:Hid (∀W:World,Below W0.heap.size W0 W→(W.heap[bT+1+1]?=some (.cells #[.slice none 0 0,.int .i64 0] 31 (0,0))∧Below bT w W)):=Aa (fun W hW=>⟨by rw[hW.block _ (by omega)];exact HQ.out,HB.out.trans (hW.mono (by omega))⟩);rcases hkc with hkc|hkc|hkc
 · have KZ:Hid (R=D7 l nx d s Bg sh):=Aa (by rw[←HRR.out,if_pos hkc]);have ZB:=cL W0 HI0.out;unfold KY Bq at ZB;rw[←KZ.out]at ZB;rw[hkc]at hkm;clear cL cU cM hkc;go_wp2_with (go_at_call 84;refine ZB.mono ?_;rintro e w1 ⟨v1,rfl,hi1,hb1⟩;obtain⟨hq1,Y7⟩:=HQB.out _ hb1;obtain⟨a1,c1,hv1⟩:=hi1.1.len;obtain⟨hz,hi⟩:=Mi hq1 hi1 (nx8:=R.1.2);have HZ:=Aa hz;have HI:=Aa hi;have GN:=Aa (KT (x:=v1) (y:=.int .i64 R.1.2) Y7 (show bT≤bT+1+1 by omega));obtain⟨⟨z0,z1⟩,⟨y0,y1⟩⟩:=BN hq1;generalize R.1.1.length=L1 at hv1;subst hv1;clear hz hi hi1 hb1 hq1 Y7);refine Bv (v:=.tuple #[Bq (.slice a1 L1 c1) R.1.2,.int .i64 R.2.1,.int .i64 R.2.2]) ?_ rfl ?_
   · rw[Bt rfl];go_simp;rfl
   · refine⟨_,rfl,HI.out,?_⟩;rw[Wn.out];exact GN.out
 · have KZ:Hid (R=((BM l nx d s Bg).1,0,(BM l nx d s Bg).2)):=Aa (by rw[←HRR.out,if_neg (show ¬k%3=0 by omega),if_pos hkc]);have ZB:=cU W0 HI0.out;unfold Qo Bq at ZB;generalize BM l nx d s Bg=U at *;rw[hkc]at hkm;clear cL cU cM hkc;go_wp2_with (go_at_call 85;refine ZB.mono ?_;rintro e w1 ⟨v1,rfl,hi1,hb1⟩;have hi2:=hi1.kept ((Ad _ w1).alloc (Ae _) (.cells #[v1,.int .i64 U.1.2] 31));have hb2:=hb1.trans (((Ad w1.heap.size w1).alloc (Ae _) (.cells #[v1,.int .i64 U.1.2] 31)).mono hb1.size);obtain⟨hq1,Y7⟩:=HQB.out _ hb2;obtain⟨a1,c1,hv1⟩:=hi1.1.len;obtain⟨hz,hi⟩:=Mi hq1 hi2 (nx8:=U.1.2);have HZ:=Aa hz;have HI:=Aa hi;have GN:=Aa (KT (x:=v1) (y:=.int .i64 U.1.2) Y7 (show bT≤bT+1+1 by omega));obtain⟨⟨z0,z1⟩,⟨y0,y1⟩⟩:=BN hq1;generalize U.1.1.length=L1 at hv1;subst hv1;clear hz hi hi1 hi2 hb1 hb2 hq1 Y7);refine Bv (v:=.tuple #[Bq (.slice a1 L1 c1) U.1.2,.int .i64 0,.int .i64 U.2]) ?_ rfl ?_
   · rw[Bt rfl];go_simp;rfl
   · rw[KZ.out];refine⟨_,rfl,HI.out,?_⟩;rw[Wn.out];exact GN.out
 · have KZ:Hid (R=((D5 l nx d s dt ns sh).1,0,(D5 l nx d s dt ns sh).2)):=Aa (by rw[←HRR.out,if_neg (show ¬k%3=0 by omega),if_neg (show ¬k%3=1 by omega)]);have ZB:=cM W0 HI0.out;unfold Qo Bq at ZB;generalize D5 l nx d s dt ns sh=U at *;rw[hkc]at hkm;clear cL cU cM hkc;go_wp2_with (go_at_call 86;refine ZB.mono ?_;rintro e w1 ⟨v1,rfl,hi1,hb1⟩;have hi2:=hi1.kept ((Ad _ w1).alloc (Ae _) (.cells #[v1,.int .i64 U.1.2] 31));have hb2:=hb1.trans (((Ad w1.heap.size w1).alloc (Ae _) (.cells #[v1,.int .i64 U.1.2] 31)).mono hb1.size);obtain⟨hq1,Y7⟩:=HQB.out _ hb2;obtain⟨a1,c1,hv1⟩:=hi1.1.len;obtain⟨hz,hi⟩:=Mi hq1 hi2 (nx8:=U.1.2);have HZ:=Aa hz;have HI:=Aa hi;have GN:=Aa (KT (x:=v1) (y:=.int .i64 U.1.2) Y7 (show bT≤bT+1+1 by omega));obtain⟨⟨z0,z1⟩,⟨y0,y1⟩⟩:=BN hq1;generalize U.1.1.length=L1 at hv1;subst hv1;clear hz hi hi1 hi2 hb1 hb2 hq1 Y7);refine Bv (v:=.tuple #[Bq (.slice a1 L1 c1) U.1.2,.int .i64 0,.int .i64 U.2]) ?_ rfl ?_
   · rw[Bt rfl];go_simp;rfl
   · rw[KZ.out];refine⟨_,rfl,HI.out,?_⟩;rw[Wn.out];exact GN.out
theorem xL (x y:Br)(w:World):(Op.equalIn 10000 112 (Di x) (Di y)).run Tryz.prog w=.ok (decide (x=y)) w:=by
 have hS:Tryz.prog.underlying 112=some (.struct (Tryz.prog.fieldsOf 112)):=by kernel_rfl
 have hp:Tryz.prog.stoodInHeld 112=false:=by kernel_rfl
 obtain⟨n1,a1,b1,c1,d1⟩:=x;obtain⟨n2,a2,b2,c2,d2⟩:=y;unfold Di;rw[show(10000:Nat)=9999+1 from rfl,run_equalIn_agg w 9999 112 _ _ hS hp];simp only[Program.fieldsOf,Tryz.underlying112];go_simp;have hn:(n1.toList==n2.toList)=decide (n1=n2):=by
  by_cases h:n1=n2
  · subst h;simp
  · rw[Rs h,Bb h]
 have hl:n1.toList=n2.toList↔n1=n2:=⟨fun h=>by
  rw[ByteArray.toList_eq,ByteArray.toList_eq]at h;exact ByteArray.ext (Array.toList_inj.1 h),fun h=>by rw[h]⟩
 (try simp only[Br.mk.injEq])
 (try rw[hn])
 by_cases h1:n1=n2<;>by_cases h2:a1=a2<;>by_cases h3:b1=b2<;>by_cases h4:c1=c2<;>by_cases h5:d1=d2<;>simp[hl,h1,h2,h3,h4,h5]
theorem gY (x y:Br)(w:World):(binOp .neq 112 (Di x) (Di y)).run Tryz.prog w=.ok (.bool (!decide (x=y))) w:=by
 have h:=xL x y w;unfold Di at h ⊢;rw[run_neq_struct,h];rfl
theorem VT (op:BinOp)(a b:Operand)(x y:Br)(w:World):(eqGuard op 112 a b (Di x) (Di y)).run Tryz.prog w=.ok () w:=by
 unfold Di;exact run_eqGuard_agg w op 112 a b _ _ (by kernel_rfl)
theorem kP {α:Type}[DecidableEq α]{l l':List α}{i:Nat}{x y:α}(h1:l[i]?=some x)(h2:l'[i]?=some y):decide (l.drop i=l'.drop i)=(decide (x=y)&&decide (l.drop (i+1)=l'.drop (i+1))):=by
 rw[DK h1,DK h2];by_cases h:x=y<;>simp[h]
set_option maxHeartbeats 4000000 in
theorem nV (v1 v2:Value)(l1 l2:List Br)(w:World)(h1:DD w v1 l1)(h2:DD w v2 l2)(hl1:l1.length≤100000)(hl2:l2.length≤100000) :
 Calls Tryz.prog 70 #[v1,v2] w fun e w'=>e=.returned (.bool (decide (l1=l2)))∧∃q,w'=w.drewN q:=by
 obtain⟨a1,AbR,rfl⟩:=h1.len;obtain⟨a2,cap2,rfl⟩:=h2.len;have H1:=Aa h1;have H2:=Aa h2;obtain⟨R,hR⟩:∃R,decide (l1=l2)=R:=⟨_,rfl⟩;rw[hR];obtain⟨n1,hn1⟩:∃n,l1.length=n:=⟨_,rfl⟩;obtain⟨n2,hn2⟩:∃n,l2.length=n:=⟨_,rfl⟩;have zh:=Aa hn1;have HN2:=Aa hn2;rw[hn1]at hl1 ⊢;rw[hn2]at hl2 ⊢;have HRR:=Aa hR;clear h1 h2 hR hn1 hn2;by_cases hne:n1=n2
 · subst hne;go_enter Tryz.func70,Tryz.ntmps70;go_wp2;go_loopw [5] (fun iv wr=>∃i:Nat,i≤n1∧iv=.int .i64 i∧decide (l1.drop i=l2.drop i)=R∧∃q,wr=w.drewN q) (fun iv _=>n1-(intOf iv).toNat)
   case atStart=>exact⟨0,by omega,rfl,HRR.out,0,rfl⟩
   case round =>
    obtain⟨i,hi,rfl,hgo,q,hq⟩:=hrel;have Ht:=Aa hgo;have HQ:=Aa hq;clear hgo hq;by_cases hin:i<n1
    · have hiz:(i:Int)<(n1:Int):=by omega
      obtain⟨x,hx⟩:∃x,l1[i]?=some x:=⟨_,Co (by rw[zh.out];omega)⟩;obtain⟨y,hy⟩:∃y,l2[i]?=some y:=⟨_,Co (by rw[HN2.out];omega)⟩;have hb:Below w.heap.size w wr:=by rw[HQ.out];exact Am (Ad _ _) q
      obtain⟨g1,o1,rfl,hg1,r1⟩:=(AL.kept H1.out hb).at hx;obtain⟨g2,o2,rfl,hg2,r2⟩:=(AL.kept H2.out hb).at hy;obtain⟨d0,d1,d2,d3,d4⟩:=Ii r1;obtain⟨e0,e1,e2,e3,e4⟩:=Ii r2;have HD:=Aa (kP hx hy);have hcmp:=gY x y;have hgd:=fun op a b=>VT op a b x y
      clear hx hy r1 r2 hg1 hg2 hb;obtain⟨xn,xa,xb,xc,xd⟩:=x;obtain⟨yn,ya,yb,yc,yd⟩:=y;simp only at d0 d1 d2 d3 d4 e0 e1 e2 e3 e4;unfold Di at hcmp hgd;by_cases hxy:(⟨xn,xa,xb,xc,xd⟩:Br)=⟨yn,ya,yb,yc,yd⟩
      · rw[A8 hxy]at hcmp;have HG:Hid (decide (l1.drop (i+1)=l2.drop (i+1))=R):=Aa (by rw[←Ht.out,HD.out,A8 hxy,Bool.true_and]);clear hxy HD;go_wp2;go_quiet (fail);go_wp2;go_roundw
        case rel=>exact⟨i+1,by omega,by first|rfl|go_num,HG.out,_,by rw[HQ.out,World.drewN_drewN]⟩
        case measure=>simp[intOf];omega
      · rw[Bb hxy]at hcmp;have HG:Hid (R=false):=Aa (by rw[←Ht.out,HD.out,Bb hxy,Bool.false_and]);clear hxy HD;go_wp2;go_quiet (fail);go_wp2;go_ret;exact⟨by rw[HG.out];rfl,_,by rw[HQ.out,World.drewN_drewN]⟩
    · have hge:¬((i:Int)<(n1:Int)):=by omega
      have HG:Hid (R=true):=Aa (by
       rw[←Ht.out,JW (by rw[zh.out];omega),JW (by rw[HN2.out];omega)];rfl)
      go_wp2;go_ret;exact⟨by rw[HG.out];rfl,q,HQ.out⟩
 · have hz:((n1:Int)==(n2:Int))=false:=by rw[Ba];omega
   have HG:Hid (R=false):=Aa (by
    rw[←HRR.out];exact Bb (fun e=>hne (by rw[←zh.out,←HN2.out,e])))
   go_enter Tryz.func70,Tryz.ntmps70;go_wp2;go_ret;exact⟨by rw[HG.out];rfl,0,rfl⟩
def GK (x:Int):List Value:=[.int .i64 x]
abbrev Kc:=@AL Int GK 1
theorem Dv (l:List Int):∀x∈l,(GK x).length=1:=fun _ _=>rfl
theorem KF (l:List Int):∀x∈l,∀u∈GK x,u.oneCell'=true:=fun x _ u hu=>by
 obtain rfl:=Cn.1 hu;rfl
theorem M8:MS Tryz.prog 39 3 1:=
 ⟨Tryz.underlying39,by
  have h:(Tryz.prog.info? 3).map (fun i=>(i.zero,i.size,i.bytes))=some (some (.int .i64 0),1,8):=by kernel_rfl
  obtain⟨i0,h1,h2,h3,h4⟩:=info_parts h;exact⟨i0,_,8,h1,h2,h3,h4,rfl,by decide⟩,by decide⟩
theorem Ta {w:World}{g p:Nat}{x:Int}(h:w.rangeAt g p (GK x)):w.cell? ⟨g,p,none⟩=some (.int .i64 x):=h 0 _ rfl
def Cb (l:List Az)(n:Nat):List Int:=((List.range n).map Int.ofNat).filter fun x=>decide (AP l x=2)
def AR (l:List Az):List Int:=Cb l 201
theorem MG (l:List Az)(n:Nat):Cb l (n+1)=Cb l n++(if AP l (n:Int)=2 then [(n:Int)] else []):=by
 unfold Cb;rw[List.range_succ,List.map_append,List.filter_append];congr 1;by_cases h:AP l (n:Int)=2<;>simp[h]
theorem Gn (l:List Az)(n:Nat):(Cb l n).length≤n:=by
 unfold Cb;exact Ao (List.length_filter_le _ _) (by simp)
def Uv (r:List Int)(w0:World)(e:Ending)(w':World):Prop:=∃v',e=.returned v'∧Kc w' v' r∧Below w0.heap.size w0 w'
set_option maxHeartbeats 4000000 in
theorem rQ (v:Value)(l:List Az)(nx:Int)(w:World)(hv:Bi w v l)(hl:l.length≤999) :
 Calls Tryz.prog 65 #[Bq v nx] w (Uv (AR l) w):=by
 unfold Uv;obtain⟨a,cap,rfl⟩:=hv.1.len;have cK:=fun(n:Nat) W (h:Bi W (.slice a l.length cap) l)=>Ms (.slice a l.length cap) l nx n W h.1 (by omega)
 obtain⟨m,hm⟩:∃m,l.length=m:=⟨_,rfl⟩;simp only[hm]at cK;rw[hm]at hv ⊢;have hb0:Below w.heap.size w (w.alloc (.cells #[.slice a m cap,.int .i64 nx] 31)):=(Ad _ w).alloc (Ae _) _;have HT:Hid (DC (w.alloc (.cells #[.slice a m cap,.int .i64 nx] 31)) w.heap.size (.slice a m cap) nx):=Aa (Ai _ _);have HI:=Aa (hv.kept hb0);have HB:=Aa hb0;have HZ:Hid ((w.alloc (.cells #[.slice a m cap,.int .i64 nx] 31)).heap.size=w.heap.size+1):=Aa (by simp);unfold Bq at cK ⊢;clear hv hm hb0;go_enter Tryz.func65,Tryz.ntmps65;go_upto_region 1 with fail;generalize w.alloc (.cells #[.slice a m cap,.int .i64 nx] 31)=W0 at *;generalize Tw:w.heap.size=bT at *;have Wn:=Aa Tw;clear Tw;go_wp2;go_loopw [3,4] (fun ov iv wr=>∃n:Nat,n≤201∧iv=.int .i64 n∧wr.ownsRow W0.heap.size 3 1 ov (Cb l n).length ((Cb l n).flatMap GK)∧Below W0.heap.size W0 wr) (fun _ iv _=>201-(intOf iv).toNat)
 case atStart=>exact⟨0,by omega,rfl,FV _ _ _ _,Ad _ _⟩
 case round =>
  obtain⟨n,hn,rfl,hrow,hb⟩:=hrel;have HW:=Aa hrow;have FU:=Aa hb;have HTr:=Aa (HT.out.below hb);obtain⟨t0,t1⟩:=HTr.out.l;have ic:=cK n wr (HI.out.kept hb);have hdl:=Gn l n;have Nk:=Aa (MG l n);have hsz:=hb.size;clear hrow hb;by_cases hn2:n≤200
  · have hnz:(n:Int)≤200:=by omega
    by_cases hk:AP l (n:Int)=2
    · rw[hk]at ic;have HS2:Hid (Cb l (n+1)=Cb l n++[(n:Int)]):=Aa (by rw[Nk.out,if_pos hk]);clear hk Nk;go_upto_region 6 with(go_at_call 107;refine ic.mono ?_;rintro e w5 ⟨rfl,hb5⟩;have I4:=Aa (FU.out.trans (hb5.mono hsz));have X5:Hid (World.ownsRow w5 W0.heap.size 3 1 u3 (Cb l n).length ((Cb l n).flatMap GK)):=Aa (HW.out.kept (row:=none) ⟨hb5.os,hb5.tape,hb5.output,hb5.size,fun k hk _=>hb5.block k hk⟩ (by cases h:u3.ownBlock with|none=>exact Or.inl rfl|some x=>exact Or.inr (by simp)));have hs5:W0.heap.size≤w5.heap.size:=I4.out.size;clear hb5);have NJ:Hid (World.ownsRow (w5.alloc (.cells #[.int .i64 (n:Int)] 3)) W0.heap.size 3 1 u3 (Cb l n).length ((Cb l n).flatMap GK)):=Aa (X5.out.alloc _);have uA:Hid (Kc (w5.alloc (.cells #[.int .i64 (n:Int)] 3)) (.slice (some ⟨w5.heap.size,0,none⟩) 1 1) [(n:Int)]):=Aa (AL.block (Dv _) (Ai _ _));have hsa:W0.heap.size≤(w5.alloc (.cells #[.int .i64 (n:Int)] 3)).heap.size:=by show _≤(w5.heap.push _).size;simp;omega
      have Qr:=Aa hsa;have K5:Hid (Below W0.heap.size W0 (w5.alloc (.cells #[.int .i64 (n:Int)] 3))):=Aa (I4.out.alloc hs5 _);have hlen:(Cb l n).length+[(n:Int)].length≤100000:=by simp;omega
      clear hsa;go_wp2_with (at_builtin;refine AY M8 rfl _ _ rfl W0.heap.size _ _ _ rfl NJ.out _ [(n:Int)] (Dv _) (KF _) rfl uA.out hlen Qr.out ?_;intro v8 w8 Fz F6 JS;have uE:=Aa (K5.out.grown F6 Qr.out (fun j hj=>(NJ.out.lt j hj).1));have uo:=Aa Fz;clear Fz F6 JS);go_roundw
      case rel=>exact⟨n+1,by omega,by first|rfl|go_num,by rw[HS2.out,A7,FB];exact uo.out,uE.out⟩
      case measure=>simp[intOf];omega
    · have hkz:(AP l (n:Int)==2)=false:=by rw[Ba];exact hk
      have HS2:Hid (Cb l (n+1)=Cb l n):=Aa (by rw[Nk.out,if_neg hk,Cz]);clear hk Nk;go_wp2_with (go_at_call 107;refine ic.mono ?_;rintro e w5 ⟨rfl,hb5⟩;have I4:=Aa (FU.out.trans (hb5.mono hsz));have X5:Hid (World.ownsRow w5 W0.heap.size 3 1 u3 (Cb l n).length ((Cb l n).flatMap GK)):=Aa (HW.out.kept (row:=none) ⟨hb5.os,hb5.tape,hb5.output,hb5.size,fun k hk _=>hb5.block k hk⟩ (by cases h:u3.ownBlock with|none=>exact Or.inl rfl|some x=>exact Or.inr (by simp)));clear hb5);go_roundw
      case rel=>exact⟨n+1,by omega,by first|rfl|go_num,by rw[HS2.out];exact X5.out,I4.out⟩
      case measure=>simp[intOf];omega
  · have hnz:¬(n:Int)≤200:=by omega
    obtain rfl:n=201:=by omega
    have HE:Hid (Kc wr u3 (AR l)):=Aa (AL.own (Dv _) HW.out rfl);have GN:Hid (Below bT w wr):=Aa (HB.out.trans (FU.out.mono (by have:=HZ.out;omega)));clear ic;go_wp2;go_ret;exact⟨_,rfl,HE.out,by rw[Wn.out];exact GN.out⟩
theorem Zm (B:Nat)(W:World)(hB:B≤W.heap.size):(W.alloc (.cells #[] 112)).ownsRow B 112 5 (.slice (some ⟨W.heap.size,0,none⟩) 0 0) 0 []:=Io (Ai _ _) hB
def Ut (l:List Br)(w:World)(e:Ending)(w':World):Prop:=∃v',e=.returned v'∧w'.ownsRow w.heap.size 112 5 v' l.length (l.flatMap DU)∧Below w.heap.size w w'
set_option maxHeartbeats 2000000 in
theorem TU (v:Value)(l:List Br)(w:World)(h:DD w v l)(hl:l.length≤1000):Calls Tryz.prog 80 #[v] w (Ut l w):=by
 unfold Ut;have q22:∀(w:World) (a:Option Addr) (n c n' c':Nat),(binOp .eql 86 (.slice a n c) (.slice none n' c')).run Tryz.prog w=.ok (.bool a.isNone) w:=fun w a n c n' c'=>Lib.run_eql_slice_nil w _ _ a n c n' c' Tryz.underlying86
 obtain⟨a,cap,rfl⟩:=h.len;have HO:=Aa (Zm w.heap.size w (Ae _));have K5:Hid (Below w.heap.size w (w.alloc (.cells #[] 112))):=Aa ((Ad _ w).alloc (Ae _) _);cases a with
 | none =>
  have hl0:l=[]:=by
   rcases h with⟨h,_⟩|⟨g,off,c,_,h,_⟩
   · exact h
   · cases h
  subst hl0;clear h;go_enter Tryz.func80,Tryz.ntmps80;go_wp2;go_ret;exact⟨_,rfl,⟨rfl,Or.inl ⟨rfl,rfl⟩⟩,Ad _ _⟩
 | some ad =>
  obtain⟨n,hn⟩:∃n,l.length=n:=⟨_,rfl⟩;have HN:=Aa hn;rw[hn]at hl h ⊢;have HL:=Aa (AL.kept h K5.out);have HS:Hid (w.heap.size≤(w.alloc (.cells #[] 112)).heap.size):=Aa (by show _≤(w.heap.push _).size;simp);clear h hn;go_enter Tryz.func80,Tryz.ntmps80;go_wp2_with (at_builtin;refine AY Xz rfl _ _ rfl w.heap.size _ 0 [] rfl HO.out _ l (Eb l) (fun y _=>IL y) rfl HL.out (by rw[HN.out];omega) HS.out ?_;intro v3 w3 hown3 hg3 hr3);rw[G5,Gh,HN.out]at hown3;obtain⟨a3,c3,hv3⟩:=Av hown3;subst hv3;have Jf:=Aa hown3;have HB3:Hid (Below w.heap.size w w3):=Aa (K5.out.grown hg3 HS.out (fun k hk=>Nat.le_of_eq (BS hk)));clear hown3 hg3 hr3;go_ret;exact⟨_,rfl,Jf.out,HB3.out⟩
section
variable {w:World}{b:Nat}{K:Nat→Int}{E:Nat→List Br}{R:Nat→Value}{u:Nat}{v:Value}{ys:List Int}{c:Int}
def Wj (K:Nat→Int)(E:Nat→List Br)(d:Int)(w:World)(e:Ending)(w':World):Prop:=
 ∃v',e=.returned (.tuple #[v',.int .i64 (Du K d)])∧DD w' v' (if Du K d=0 then E d.toNat else [])∧(∀g,v'.ownBlock=some g→w.heap.size≤g)∧Below w.heap.size w w'
def PX (K:Nat→Int)(E:Nat→List Br)(d:Int):List Br:=if Du K d=0 then E d.toNat else []
def KW (K:Nat→Int)(E:Nat→List Br)(d:Int)(w:World)(e:Ending)(w':World):Prop:=
 ∃v',e=.returned (.tuple #[v',.int .i64 (Du K d)])∧w'.ownsRow w.heap.size 112 5 v' (PX K E d).length ((PX K E d).flatMap DU)∧Below w.heap.size w w'
theorem JY (h:TM w b K E R u v ys c)(hl:∀n,n≤200→(E n).length≤1000)(d:Int):Calls Tryz.prog 68 #[Ag b,.int .i64 d] w (KW K E d w):=by
 unfold KW PX;have cO:=SY h d;obtain⟨o,ho⟩:∃o,Du K d=o:=⟨_,rfl⟩;rw[ho]at cO ⊢;by_cases h0:o=0
 · subst h0;obtain⟨n,rfl,hn,hk⟩:=G9 ho;rw[if_pos rfl,DY];have c1:=(h.FH hn).1;have cE:=TU (R n) (E n) w (h.Fy hn) (hl n hn);unfold Ut at cE;obtain⟨a,cap,hr⟩:=(h.Fy hn).len;rw[hr]at c1 cE;have hd0:(0:Int)≤(n:Int):=by omega
   have hd1:(n:Int)<201:=by omega
   clear h hl hr ho;go_enter Tryz.func68,Tryz.ntmps68;go_wp2_with (first
    | (go_at_call 109;refine cO.mono ?_;rintro e w1 ⟨rfl,rfl⟩)
    | (go_at_call 80;refine cE.mono ?_;rintro e w2 ⟨v2,rfl,ho2,hb2⟩;obtain⟨a2,c2,hv2⟩:=Av ho2;have JQ:=Aa ho2;clear ho2;subst hv2))
   go_ret2;exact⟨_,rfl,JQ.out,hb2⟩
 · have h0b:(o==0)=false:=Ba.2 h0;rw[if_neg h0];clear h hl ho h0;go_enter Tryz.func68,Tryz.ntmps68;go_wp2_with (go_at_call 109;refine cO.mono ?_;rintro e w1 ⟨rfl,rfl⟩);go_ret2;exact⟨_,rfl,FV _ _ _ _,Ad _ _⟩
theorem aB (h:TM w b K E R u v ys c)(hl:∀n,n≤200→(E n).length≤1000)(d:Int):Calls Tryz.prog 68 #[Ag b,.int .i64 d] w (Wj K E d w):=
 (JY h hl d).mono fun e w' ⟨v',he,ho,hb⟩=>⟨v',he,AL.own (Eb _) ho rfl,fun g hg=>(ho.lt g hg).1,hb⟩
def PY (K:Nat→Int)(E:Nat→List Br)(d:Int)(s:ByteArray):Br×Int:=
 if Du K d=0 then(match named (E d.toNat) s with|some x=>(x,0)|none=>(H6,5)) else(H6,Du K d)
set_option maxHeartbeats 4000000 in
theorem aD (h:TM w b K E R u v ys c)(hl:∀n,n≤200→(E n).length≤1000)(d:Int)(s:ByteArray):Calls Tryz.prog 142 #[Ag b,.int .i64 d,.string s] w fun e w'=>e=.returned (.tuple #[Di (PY K E d s).1,.int .i64 (PY K E d s).2])∧Below w.heap.size w w':=by
 obtain⟨F,hF⟩:∃F,PY K E d s=F:=⟨_,rfl⟩;rw[hF];unfold PY at hF;have hb0:Below w.heap.size w (w.alloc (.cells #[.string ⟨#[]⟩,.int .i64 0,.bool false,.int .i64 0,.int .i64 0] 112)):=(Ad _ w).alloc (Ae _) _;have RI:Hid ((w.alloc (.cells #[.string ⟨#[]⟩,.int .i64 0,.bool false,.int .i64 0,.int .i64 0] 112)).heap[w.heap.size]?=some (.cells #[.string ⟨#[]⟩,.int .i64 0,.bool false,.int .i64 0,.int .i64 0] 112 (0,0))):=Aa (Ai _ _);have HB0:=Aa hb0;have HT:=Aa (h.below hb0);have cO:=SY (h.below hb0) d;obtain⟨q,hq⟩:∃q,w.heap.size=q:=⟨_,rfl⟩;have HQ:=Aa hq;obtain⟨o,ho⟩:∃o,Du K d=o:=⟨_,rfl⟩;rw[ho]at cO hF;have fin:∀W x0 x1 x2 x3 x4,Below q w W→Below q w (((((W.setCell ⟨q,0,none⟩ x0).setCell ⟨q,1,none⟩ x1).setCell ⟨q,2,none⟩ x2).setCell ⟨q,3,none⟩ x3).setCell ⟨q,4,none⟩ x4):=fun W x0 x1 x2 x3 x4 hb =>
  ((((hb.setCell (p:=⟨q,0,none⟩) (Ae _) _).setCell (p:=⟨q,1,none⟩) (Ae _) _).setCell (p:=⟨q,2,none⟩) (Ae _) _).setCell (p:=⟨q,3,none⟩) (Ae _) _).setCell (p:=⟨q,4,none⟩) (Ae _) _
 have Ff:=Aa fin;by_cases h0:o=0
 · subst h0;obtain⟨n,rfl,hn,hk⟩:=G9 ho;rw[if_pos rfl,DY]at hF;have cP:=Ru (h.below hb0) hn (hl n hn) s;have hd0:(0:Int)≤(n:Int):=by omega
   have hd1:(n:Int)<201:=by omega
   have hpl:(E n).length≤1000:=hl n hn;rcases Iy (E n) s with⟨hp,hnm,_⟩|⟨i,x,hp,hx,_,hnm,_⟩
   · have HF:Hid (F=(H6,5)):=Aa (by rw[←hF,hnm]);rw[hp]at cP;clear h hl ho hF hb0 hk hnm hp fin hpl;go_enter Tryz.func142,Tryz.ntmps142;go_upto_region 1 with fail;generalize w.alloc (.cells #[.string ⟨#[]⟩,.int .i64 0,.bool false,.int .i64 0,.int .i64 0] 112)=W0 at *
     (try rw[hq]at RI)
     have ym:Hid (Below q w W0):=Aa (by rw[←hq];exact HB0.out);clear hq;go_upto_region 6 with(first
      | (go_at_call 109;refine cO.mono ?_;rintro e w1 ⟨rfl,rfl⟩)
      | (go_at_call 167;refine cP.mono ?_;rintro e w2 ⟨rfl,hb2⟩))
     have hq2:=(hb2.block q (Ab RI.out)).trans RI.out;obtain⟨⟨q0,q1,q2,q3,q4⟩,⟨f0,f1,f2,f3,f4⟩⟩:=Aj hq2;have HB2:Hid (Below q w w2):=Aa (ym.out.trans (hb2.mono (by have:=ym.out.size;have:=HQ.out;omega)));clear hb2 hq2;go_wp2
     (try simp only[Exit.inBlock,Exit.then])
     refine Bv (v:=.tuple #[Di H6,.int .i64 5]) ?_ rfl ⟨by rw[HF.out],?_⟩
     · rw[CZ rfl];unfold Di H6;go_simp
     · rw[HQ.out];exact Ff.out _ _ _ _ _ _ HB2.out
   · have HF:Hid (F=(x,0)):=Aa (by rw[←hF,hnm]);rw[hp]at cP;obtain⟨m,hm⟩:∃m,(E n).length=m:=⟨_,rfl⟩;have him:i<m:=by rw[←hm];exact(DL.1 hx).1
     have HX:=Aa hx;have HM:=Aa hm;have hiz:(i:Int)<(m:Int):=by omega
     have hi1:i≤1000:=by omega
     obtain⟨nm,nd,dr,ck,sh⟩:=x;clear h hl ho hF hb0 hk hnm hp fin hpl hm hx;go_enter Tryz.func142,Tryz.ntmps142;go_upto_region 1 with fail;generalize w.alloc (.cells #[.string ⟨#[]⟩,.int .i64 0,.bool false,.int .i64 0,.int .i64 0] 112)=W0 at *
     (try rw[hq]at RI)
     have ym:Hid (Below q w W0):=Aa (by rw[←hq];exact HB0.out);clear hq;go_upto_region 7 with(first
      | (go_at_call 109;refine cO.mono ?_;rintro e w1 ⟨rfl,rfl⟩)
      | (go_at_call 167;refine cP.mono ?_;rintro e w2 ⟨rfl,hb2⟩))
     have hq2:=(hb2.block q (Ab RI.out)).trans RI.out;obtain⟨⟨q0,q1,q2,q3,q4⟩,⟨f0,f1,f2,f3,f4⟩⟩:=Aj hq2;have HB2:Hid (Below q w w2):=Aa (ym.out.trans (hb2.mono (by have:=ym.out.size;have:=HQ.out;omega)));have ht2:=HT.out.below hb2;have r1:=(ht2.FH hn).1;obtain⟨a,cap,hr⟩:=(ht2.Fy hn).len;have he:=ht2.Fy hn;rw[hr]at he;obtain⟨g,off,rfl,hg,hrg⟩:=he.at HX.out;rw[hr,HM.out]at r1;obtain⟨d0,d1,d2,d3,d4⟩:=Ii hrg;simp only at d0 d1 d2 d3 d4;clear hb2 hq2 ht2 hr he hg hrg;go_wp2
     (try simp only[Exit.inBlock,Exit.then])
     refine Bv (v:=.tuple #[Di ⟨nm,nd,dr,ck,sh⟩,.int .i64 0]) ?_ rfl ⟨by rw[HF.out],?_⟩
     · rw[CZ rfl];unfold Di;go_simp
     · rw[HQ.out];exact Ff.out _ _ _ _ _ _ HB2.out
 · have h0b:(o==0)=false:=Ba.2 h0;have HF:Hid (F=(H6,o)):=Aa (by rw[←hF,if_neg h0]);clear h hl ho hF hb0 h0 fin;go_enter Tryz.func142,Tryz.ntmps142;go_upto_region 1 with fail;generalize w.alloc (.cells #[.string ⟨#[]⟩,.int .i64 0,.bool false,.int .i64 0,.int .i64 0] 112)=W0 at *
   (try rw[hq]at RI)
   have ym:Hid (Below q w W0):=Aa (by rw[←hq];exact HB0.out);clear hq;obtain⟨⟨q0,q1,q2,q3,q4⟩,⟨f0,f1,f2,f3,f4⟩⟩:=Aj RI.out;go_wp2_with (go_at_call 109;refine cO.mono ?_;rintro e w1 ⟨rfl,rfl⟩)
   (try simp only[Exit.inBlock,Exit.then])
   refine Bv (v:=.tuple #[Di H6,.int .i64 o]) ?_ rfl ⟨by rw[HF.out],?_⟩
   · rw[CZ rfl];unfold Di H6;go_simp
   · rw[HQ.out];exact Ff.out _ _ _ _ _ _ ym.out
end
set_option maxHeartbeats 2000000 in
theorem Aaj (w:World):Calls Tryz.prog 114 #[.int .i64 200,.slice none 0 0] w fun e w'=>∃pb,e=.returned (Ag pb)∧w.heap.size≤pb∧w'.heap[pb]?=some (.cells #[.int .i64 200,.int .i64 0,.slice none 0 0] 94 (0,0))∧Below w.heap.size w w':=by
 have hzb:=RQ;have s1:(w.alloc (.cells #[.int .i64 (min (max (200:Int) 0) 200),.int .i64 0,.slice none 0 0] 94)).heap.size=w.heap.size+1:=by simp
 have HP:Hid (((w.alloc (.cells #[.int .i64 (min (max (200:Int) 0) 200),.int .i64 0,.slice none 0 0] 94)).alloc (.cells K7 243)).heap[w.heap.size]?=some (.cells #[.int .i64 200,.int .i64 0,.slice none 0 0] 94 (0,0))):=Aa (by
  rw[Ct _ _ _ (by rw[s1];omega)];have h:=Ai w (.cells #[.int .i64 (min (max (200:Int) 0) 200),.int .i64 0,.slice none 0 0] 94);rw[h,show min (max (200:Int) 0) 200=200 from by decide])
 have HB:Hid (Below w.heap.size w ((w.alloc (.cells #[.int .i64 (min (max (200:Int) 0) 200),.int .i64 0,.slice none 0 0] 94)).alloc (.cells K7 243))):=Aa (((Ad _ w).alloc (Ae _) _).alloc (by rw[s1];omega) _);clear s1;go_enter Tryz.func114,Tryz.ntmps114;go_upto_region 3 with fail;generalize (w.alloc (.cells #[.int .i64 (min (max (200:Int) 0) 200),.int .i64 0,.slice none 0 0] 94)).alloc (.cells K7 243)=W2 at *;generalize hb1:w.heap.size=b1 at *;have PN:=Aa hb1;clear hb1 hzb;obtain⟨k0,k1⟩:W2.cell? ⟨b1,1,none⟩=some (.int .i64 0)∧W2.cell? ⟨b1,0,none⟩=some (.int .i64 200):=⟨Ap HP.out 1,Ap HP.out 0⟩;go_wp2;refine wp_loop_rounds 1 ?_;rw[rounds_succ];go_wp2;refine wp_loop_rounds 1 ?_;rw[rounds_succ];go_wp2;go_ret;exact⟨b1,rfl,by rw[PN.out];exact Ae _,HP.out,by rw[PN.out];exact HB.out⟩
def Gz (n:Nat):List Value:=(List.replicate n [Value.int .i64 0,Value.slice none 0 0]).flatten
theorem EA:∀n,(Gz n).length=n*2
 | 0=>rfl
 | n+1=>by
  unfold Gz;rw[List.replicate_succ,List.flatten_cons,A7];have:=EA n;unfold Gz at this;rw[this];simp;omega
theorem Le:∀(n i:Nat),i<n→(Gz n)[i*2]?=some (.int .i64 0)∧(Gz n)[i*2+1]?=some (.slice none 0 0)
 | 0,i,h=>absurd h (Nat.not_lt_zero _)
 | n+1,0,h=>⟨rfl,rfl⟩
 | n+1,i+1,h=>by
  have:=Le n i (by omega);have e:Gz (n+1)=Value.int .i64 0::Value.slice none 0 0::Gz n:=rfl;rw[e,show(i+1)*2=i*2+1+1 by omega];exact this
def WY:Array Value:=(Gz 201++([.int .i64 200,.int .i64 0,.slice none 0 0,.int .i64 1]:List Value)).toArray
theorem Vv:WY.size=406:=by
 unfold WY;rw[Gq,A7,EA];rfl
theorem dD (W:World):(Instr.build 96 #[(1,.agg #[.int .i64 200,.int .i64 0,.slice none 0 0]),(2,.int .i64 1)]).run Tryz.prog W=.ok (.agg WY) W:=run_build W _ _ _ (by kernel_rfl)
theorem M6 (k:Nat):WY[402+k]?=[Value.int .i64 200,.int .i64 0,.slice none 0 0,.int .i64 1][k]?:=by
 unfold WY;rw[Gp,List.getElem?_append_right (by rw[EA];omega),EA,show 402+k-201*2=k by omega]
theorem Aab:GV WY (fun _=>0) (fun _=>.slice none 0 0) 0 (.slice none 0 0) 1:=by
 refine⟨Vv,fun n hn=>?_,fun n hn=>?_,M6 0,M6 1,M6 2,M6 3⟩
 · unfold WY;rw[Gp,LG (by rw[EA];omega)];exact(Le 201 n (by omega)).1
 · unfold WY;rw[Gp,LG (by rw[EA];omega)];exact(Le 201 n (by omega)).2
def fF:Nat→Int:=upd (fun _=>0) 0 2
def PI (w:World)(e:Ending)(w':World):Prop:=∃b,e=.returned (Ag b)∧w.heap.size≤b∧TM w' b fF (fun _=>[]) (fun _=>.slice none 0 0) 0 (.slice none 0 0) [] 1∧Below w.heap.size w w'
set_option maxHeartbeats 4000000 in
theorem U7 (w:World):Calls Tryz.prog 73 #[] w (PI w):=by
 unfold PI;have cI:=Aaj w;have hbt:=dD;have Qq:=Aa Vv;have Z9:=Aa Aab;generalize WY=T at *;go_enter Tryz.func73,Tryz.ntmps73;go_upto_region 2 with(first
  | (go_at_call 114;refine cI.mono ?_;rintro e w1 ⟨pb,rfl,hpb,hp1,hb1⟩;obtain⟨k0,k1,k2⟩:w1.cell? ⟨pb,0,none⟩=some (.int .i64 200)∧w1.cell? ⟨pb,1,none⟩=some (.int .i64 0)∧w1.cell? ⟨pb,2,none⟩=some (.slice none 0 0):=⟨Ap hp1 0,Ap hp1 1,Ap hp1 2⟩;have HB1:=Aa hb1;clear hb1 hp1)
  | ((with_reducible refine PT 96 _ #[(1,.agg #[.int .i64 200,.int .i64 0,.slice none 0 0]),(2,.int .i64 1)] (.agg T) ?_ ?_ ?_);exact rfl;exact hbt _))
 have HN:Hid ((w1.alloc (.cells T 96)).heap[w1.heap.size]?=some (.cells T 96 (0,0))):=Aa (Ai _ _);have K5:Hid (Below w.heap.size w (w1.alloc (.cells T 96))):=Aa (HB1.out.alloc HB1.out.size _);generalize (w1.alloc (.cells T 96))=W2 at *;have hsz:=HB1.out.size;generalize w1.heap.size=b at *;have c0:W2.cell? ⟨b,0,none⟩=some (.int .i64 0):=by
  rw[AB _ _ _ _ _ _ HN.out];exact Z9.out.kind 0 (by omega)
 have f0:W2.frozen? ⟨b,0,none⟩=false:=BA HN.out _;have HX:Hid (TM (W2.setCell ⟨b,0,none⟩ (.int .i64 2)) b fF (fun _=>[]) (fun _=>.slice none 0 0) 0 (.slice none 0 0) [] 1):=Aa ⟨⟨_,Bn W2 b 0 _ _ _ HN.out,Z9.out.setKind (k:=0) (by omega) 2⟩,fun n hn=>⟨rfl,Or.inl ⟨rfl,rfl⟩⟩,fun i j g _ _ h1 _=>(by cases h1),⟨rfl,Or.inl ⟨rfl,rfl⟩⟩,⟨Nat.zero_le _,Ae _,List.nodup_nil,fun y hy=>(by cases hy),Y5⟩⟩;have JV:Hid (Below w.heap.size w (W2.setCell ⟨b,0,none⟩ (.int .i64 2))):=Aa (K5.out.setCell (p:=⟨b,0,none⟩) hsz _);clear cI;go_wp2;go_ret;exact⟨b,rfl,hsz,HX.out,JV.out⟩
section
variable {w:World}{b:Nat}{K:Nat→Int}{E:Nat→List Br}{R:Nat→Value}{u:Nat}{v:Value}{ys:List Int}{c:Int}
def Eg (K:Nat→Int):Nat→List Int
 | 0=>[]
 | n+1=>Eg K n++(if K n=2 then [(n:Int)] else [])
theorem TW (K:Nat→Int):∀n,(Eg K n).length≤n
 | 0=>Ae _
 | n+1=>by
  have:=TW K n;unfold Eg;split<;>simp<;>omega
def Wl (l:List Int)(w:World)(e:Ending)(w':World):Prop:=∃v,e=.returned v∧Kc w' v l∧(∀g,v.ownBlock=some g→w.heap.size≤g)∧Below w.heap.size w w'
def KX (l:List Int)(w:World)(e:Ending)(w':World):Prop:=∃v,e=.returned v∧w'.ownsRow w.heap.size 3 1 v l.length (l.flatMap GK)∧Below w.heap.size w w'
set_option maxHeartbeats 4000000 in
theorem JZ (h:TM w b K E R u v ys c):Calls Tryz.prog 64 #[Ag b] w (KX (Eg K 201) w):=by
 unfold KX;have HT:=Aa h;obtain⟨X,hX⟩:∃X,Eg K 201=X:=⟨_,rfl⟩;rw[hX];have HX:=Aa hX;clear h hX;go_enter Tryz.func64,Tryz.ntmps64;go_wp2;go_loopw [3,5] (fun ov iv wr=>∃n:Nat,n≤201∧iv=.int .i64 n∧wr.ownsRow w.heap.size 3 1 ov (Eg K n).length ((Eg K n).flatMap GK)∧Below w.heap.size w wr) (fun _ iv _=>201-(intOf iv).toNat)
 case atStart=>exact⟨0,by omega,rfl,FV _ _ _ _,Ad _ _⟩
 case round =>
  obtain⟨n,hn,rfl,hrow,hb⟩:=hrel;have HW:=Aa hrow;have FU:=Aa hb;have hdl:=TW K n;have Nk:Hid (Eg K (n+1)=Eg K n++(if K n=2 then [(n:Int)] else [])):=Aa rfl;have hsz:=hb.size;by_cases hn2:n≤200
  · have hnz:(n:Int)<201:=by omega
    have hn0:(0:Int)≤(n:Int):=by omega
    have c1:=((HT.out.below hb).LH hn2).1;clear hrow hb;by_cases hk:K n=2
    · rw[hk]at c1;have HS2:Hid (Eg K (n+1)=Eg K n++[(n:Int)]):=Aa (by rw[Nk.out,if_pos hk]);clear hk Nk;go_upto_region 6 with fail;clear c1;have NJ:Hid (World.ownsRow (wr.alloc (.cells #[.int .i64 (n:Int)] 3)) w.heap.size 3 1 u3 (Eg K n).length ((Eg K n).flatMap GK)):=Aa (HW.out.alloc _);have uA:Hid (Kc (wr.alloc (.cells #[.int .i64 (n:Int)] 3)) (.slice (some ⟨wr.heap.size,0,none⟩) 1 1) [(n:Int)]):=Aa (AL.block (Dv _) (Ai _ _));have hsa:w.heap.size≤(wr.alloc (.cells #[.int .i64 (n:Int)] 3)).heap.size:=by show _≤(wr.heap.push _).size;simp;omega
      have Qr:=Aa hsa;have K5:Hid (Below w.heap.size w (wr.alloc (.cells #[.int .i64 (n:Int)] 3))):=Aa (FU.out.alloc hsz _);have hlen:(Eg K n).length+[(n:Int)].length≤100000:=by simp;omega
      clear hsa;go_wp2_with (at_builtin;refine AY M8 rfl _ _ rfl w.heap.size _ _ _ rfl NJ.out _ [(n:Int)] (Dv _) (KF _) rfl uA.out hlen Qr.out ?_;intro v8 w8 Fz F6 JS;have uE:=Aa (K5.out.grown F6 Qr.out (fun j hj=>(NJ.out.lt j hj).1));have uo:=Aa Fz;clear Fz F6 JS);go_roundw
      case rel=>exact⟨n+1,by omega,by first|rfl|go_num,by rw[HS2.out,A7,FB];exact uo.out,uE.out⟩
      case measure=>simp[intOf];omega
    · have hkz:(K n==2)=false:=by rw[Ba];exact hk
      have HS2:Hid (Eg K (n+1)=Eg K n):=Aa (by rw[Nk.out,if_neg hk,Cz]);clear hk Nk;go_wp2;go_roundw
      case rel=>exact⟨n+1,by omega,by first|rfl|go_num,by rw[HS2.out];exact HW.out,FU.out⟩
      case measure=>simp[intOf];omega
  · have hnz:¬(n:Int)<201:=by omega
    obtain rfl:n=201:=by omega
    rw[HX.out]at HW;clear hrow hb;go_wp2;go_ret;exact⟨_,rfl,HW.out,FU.out⟩
theorem aG (h:TM w b K E R u v ys c):Calls Tryz.prog 64 #[Ag b] w (Wl (Eg K 201) w):=
 (JZ h).mono fun e w' ⟨v,he,ho,hb⟩=>⟨v,he,AL.own (Dv _) ho rfl,fun g hg=>(ho.lt g hg).1,hb⟩
end
end Go.Proofs.YtdmkhmeaphaapaaGreat
