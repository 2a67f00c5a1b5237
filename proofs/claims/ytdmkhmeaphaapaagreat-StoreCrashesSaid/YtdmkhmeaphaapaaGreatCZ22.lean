/- Kit. -/
import Derived.Test.YtdmkhmeaphaapaaGreatCZ17
import Derived.Test.YtdmkhmeaphaapaaGreatCZ15
import Derived.Test.YtdmkhmeaphaapaaGreatCZ5
import Derived.Laws.MakeOwn
import Derived.Test.YtdmkhmeaphaapaaGreatCZ16
import Derived.Test.YtdmkhmeaphaapaaGreatCZ18
import Derived.Lib.AppendStr
import Derived.Lib.ConvBytes
import Derived.StillTailTactics
import Derived.Test.YtdmkhmeaphaapaaGreatCZ13
import Derived.Test.YtdmkhmeaphaapaaGreatCZ0
set_option maxRecDepth 100000
set_option linter.unusedVariables false
set_option linter.unusedSimpArgs false
namespace Go.Proofs.YtdmkhmeaphaapaaGreat
open Go.RowKit Go.Sort
theorem nD {w:World}{b b':Nat}{l l':List Az}{nx:Int}{S S':Nat→Prop}(h:Bl.Is w b l nx S)(h':Bl.Is w b' l' nx S')(ht:Twin l l'):Calls Tryz.prog 21 #[Ag b',Ag b] w fun e w'=>e=.returned (.bool true)∧Below w.heap.size w w':=by
 obtain⟨R,u,v,ys,hm,ho,hg,_⟩:=h;obtain⟨R',u',v',ys',hm',ho',hg',_⟩:=h';refine(az hm' hm (fun n _=>(ht.Fy (n:Int)).symm) (fun n hn=>Ao (hg'.Nt n) (by omega))).mono ?_;rintro e w' ⟨rfl,q,rfl⟩;exact⟨rfl,Am (Ad _ _) q⟩
end Go.Proofs.YtdmkhmeaphaapaaGreat
namespace Go.Proofs.YtdmkhmeaphaapaaGreat
open Go.RowKit Go.Sort
theorem NZ:(Tryz.prog.info? 5).map (fun i=>(i.zero,i.size,i.bytes))=some (some (.int .u8 0),1,1):=by kernel_rfl
theorem UI (k:Nat)(hk:k≤1000)(W:World):(Instr.makeSlice 121 (.int .i64 k) (.int .i64 k)).run Tryz.prog W=.ok (.slice (some ⟨W.heap.size,0,none⟩) k k) (W.alloc (.cells (Lib.byteCells (List.replicate k 0)).toArray 5)):=by
 obtain⟨i0,hi0,hz0,hz1,hz2⟩:=info_parts NZ;have:=run_make (P:=Tryz.prog) W 121 5 i0 (.int .u8 0) Tryz.underlying121 hi0 hz0 .i64 .i64 k k (by omega) (by omega) (by rw[hz2];omega) (by omega);rw[hz1,DY]at this;refine this.trans ?_;congr 3;apply Array.ext_getElem?;intro i;simp[madeCells,Value.cells,Lib.byteCells];by_cases h:i<k
 · simp[h,Nat.mod_one]
 · simp[h]
def I9 (n k j:Nat):List UInt8:=List.replicate j 0++BB n (k-j)
theorem Vo (n k j:Nat)(h:j≤k):(I9 n k j).length=k:=by
 unfold I9;rw[A7,JX,Ah];omega
theorem jr (n k j:Nat)(h:j<k):(I9 n k (j+1)).set j (UInt8.ofNat (n/256^(k-(j+1))))=I9 n k j:=by
 unfold I9;rw[List.replicate_succ',Ch,List.set_append_right _ _ (by simp),JX,Nat.sub_self];have e:k-j=(k-(j+1))+1:=by omega
 rw[e];rfl
theorem lC (l:List UInt8)(j:Nat)(x:UInt8):(Lib.byteCells l).toArray.setIfInBounds j (.int .u8 x.toNat)=(Lib.byteCells (l.set j x)).toArray:=by
 unfold Lib.byteCells;apply Array.ext';rw[Array.toList_setIfInBounds,Iw,Iw,List.map_set]
def XO (n k:Nat)(w:World)(e:Ending)(w':World):Prop:=
 ∃v,e=.returned v∧w'.ownsRow w.heap.size 5 1 v k (Lib.byteCells (BB n k))∧Below w.heap.size w w'
set_option maxHeartbeats 4000000 in
theorem fO (n k:Nat)(w:World)(hn:n≤9223372036854775807)(hk:k≤8)(hk1:1≤k) :
 Calls Tryz.prog 87 #[.int .i64 (n:Int),.int .i64 (k:Int)] w (XO n k w):=by
 unfold XO;have hm:=UI k (by omega);have HW0:Hid ((w.alloc (.cells (Lib.byteCells (I9 n k k)).toArray 5)).heap[w.heap.size]?=some (.cells (Lib.byteCells (I9 n k k)).toArray 5 (0,0))):=Aa (Ai _ _);have HB0:Hid (Below w.heap.size w (w.alloc (.cells (Lib.byteCells (I9 n k k)).toArray 5))):=Aa ((Ad _ _).alloc (Ae _) _);have hp:I9 n k k=List.replicate k 0:=by
  unfold I9;rw[Nat.sub_self];simp[BB]
 rw[←hp]at hm;clear hp;go_enter Tryz.func87,Tryz.ntmps87;go_wp2;generalize (w.alloc (.cells (Lib.byteCells (I9 n k k)).toArray 5))=W0 at *;obtain⟨q,hq⟩:∃q,w.heap.size=q:=⟨_,rfl⟩;rw[hq]at HW0 HB0 ⊢;have HQ:=Aa hq;clear hm hq;go_loopw [0,6] (fun nv iv wr=>∃(z:Int) (j:Nat) (m:Nat),iv=.int .i64 z∧z+1=j∧j≤k∧nv=.int .i64 m∧m=n/256^(k-j)∧wr.heap[q]?=some (.cells (Lib.byteCells (I9 n k j)).toArray 5 (0,0))∧Below q w wr) (fun _ iv _=>(intOf iv+1).toNat)
 case atStart=>exact⟨(k:Int)-1,k,n,by first|rfl|go_num,by omega,Ae _,rfl,by rw[Nat.sub_self];simp,HW0.out,HB0.out⟩
 case round =>
  obtain⟨z,j,m,rfl,hz,hj,rfl,hm,hw,hb⟩:=hrel;have HW:=Aa hw;have HB:=Aa hb;have HM:=Aa hm;have hmn:m≤9223372036854775807:=by
   rw[hm];exact Ao (Nat.div_le_self _ _) hn
  clear hw hb hm;cases j with
  | zero =>
   obtain rfl:z=-1:=by omega
   clear hz;go_wp2;go_ret;refine⟨_,rfl,⟨by simp[Lib.byteCells,Ah],Or.inr ⟨q,k,_,rfl,Nat.le_of_eq HQ.out,HW.out,Ae _,by unfold maxLen;omega,by simp[Lib.byteCells,Vo],?_⟩⟩,by rw[HQ.out];exact HB.out⟩;have e:I9 n k 0=BB n k:=by unfold I9;simp
   rw[e,Iw];exact CV (by simp[Lib.byteCells,Ah])
  | succ i =>
   obtain rfl:z=(i:Int):=by omega
   have hi0:(0:Int)≤(i:Int):=by omega
   have hik:(i:Int)<(k:Int):=by omega
   have hc:wr.cell? ⟨q,i,none⟩≠none:=by
    rw[Ap HW.out];have hl:i<(Lib.byteCells (I9 n k (i+1))).length:=by simp[Lib.byteCells,Vo _ _ _ hj];omega
    rw[Gp,Co hl];simp
   obtain⟨cv,hcv⟩:=Option.ne_none_iff_exists'.1 hc;have hf:=BA HW.out i;have hx:((m:Int)%256)=((UInt8.ofNat m).toNat:Int):=by rw[Ju];omega
   have hx2:((m:Int)%256%256)=((UInt8.ofNat m).toNat:Int):=by rw[Ju];omega
   have hmod:(m:Int).tmod 256=(m:Int)%256:=Int.tmod_eq_emod_of_nonneg (by omega);have hdiv:(m:Int).tdiv 256=((m/256:Nat):Int):=by rw[Int.tdiv_eq_ediv_of_nonneg (by omega)];omega
   have HW2:Hid ((wr.setCell ⟨q,i,none⟩ (.int .u8 ((UInt8.ofNat m).toNat:Int))).heap[q]?=some (.cells (Lib.byteCells (I9 n k i)).toArray 5 (0,0))):=Aa (by
    rw[Bn _ q i _ _ _ HW.out,lC,HM.out,jr n k i (by omega)])
   have HB2:Hid (Below q w (wr.setCell ⟨q,i,none⟩ (.int .u8 ((UInt8.ofNat m).toNat:Int)))):=Aa (HB.out.setCell (p:=⟨q,i,none⟩) (Ae _) _);have HM2:Hid (m/256=n/256^(k-i)):=Aa (by
    rw[HM.out,Nat.div_div_eq_div_mul,←Nat.pow_succ];congr 2;omega)
   rw[←hx]at HW2 HB2;clear hc hx hx2 hz;go_wp2;go_roundw
   case rel=>exact⟨(i:Int)-1,i,m/256,by first|rfl|go_num,by omega,by omega,by first|rfl|(congr 1),HM2.out,HW2.out,HB2.out⟩
   case measure=>simp[intOf]<;>omega
end Go.Proofs.YtdmkhmeaphaapaaGreat
namespace Go.Proofs.YtdmkhmeaphaapaaGreat
open Go.RowKit Go.Sort
def XP (l:List Az)(d:Int)(w0:World)(e:Ending)(w':World):Prop:=
 ∃v',e=.returned (.tuple #[v',.int .i64 (A9 l d)])∧w'.ownsRow w0.heap.size 112 5 v' (D6 l d).length ((D6 l d).flatMap DU)∧Below w0.heap.size w0 w'
set_option maxHeartbeats 4000000 in
theorem jS (v:Value)(l:List Az)(nx n:Int)(w:World)(hv:MP w v l)(hl:l.length≤1000) :
 Calls Tryz.prog 69 #[Bq v nx,.int .i64 n] w (XP l n w):=by
 unfold XP;obtain⟨i0,hi0,hz0,hz1,hz2⟩:=info_parts Tryz.M9;obtain⟨a,cap,rfl⟩:=hv.len;have cK:=fun w hv=>Ms (.slice a l.length cap) l nx n w hv hl
 obtain⟨m,hm⟩:∃m,l.length=m:=⟨_,rfl⟩;rw[hm]at hl hv ⊢;simp only[hm]at cK;have HT:Hid (DC (w.alloc (.cells #[.slice a m cap,.int .i64 nx] 31)) w.heap.size (.slice a m cap) nx):=Aa (Ai _ _);have HB:Hid (Below w.heap.size w (w.alloc (.cells #[.slice a m cap,.int .i64 nx] 31))):=Aa ((Ad _ _).alloc (Ae _) _);have hv0:=AL.kept hv HB.out;have HM:=Aa hm;clear hv hm;unfold Bq at cK ⊢;go_enter Tryz.func69,Tryz.ntmps69;have hc0:=HT.out.l.1;have hc1:=HT.out.l.2;go_wp2_with fail;generalize w.alloc (.cells #[.slice a m cap,.int .i64 nx] 31)=W0 at *;refine(cK _ hv0).mono ?_;rintro e w1 ⟨rfl,hb1⟩;have HB1:Hid (Below w.heap.size w w1):=Aa (HB.out.trans (hb1.mono HB.out.size));have HV:=Aa (AL.kept hv0 hb1);have HT1:=Aa (HT.out.below hb1);clear hv0 hc0 hc1 hb1;have hc0:=HT1.out.l.1;have hc1:=HT1.out.l.2;rcases J5 l n with hk|hk|hk
 · have HE:Hid (A9 l n=5∧D6 l n=[]):=Aa (by
    have h1:A9 l n=5:=by unfold A9;rw[if_pos hk]
    exact⟨h1,by unfold D6;rw[h1];rfl⟩)
   rw[hk];clear hk;go_wp2;go_ret2;exact⟨_,by rw[HE.out.1];rfl,by rw[HE.out.2];exact FV _ _ _ _,HB1.out⟩
 · have HE:Hid (A9 l n=8∧D6 l n=[]):=Aa (by
    have h1:A9 l n=8:=by unfold A9;rw[if_neg (by rw[hk];decide),if_pos hk]
    exact⟨h1,by unfold D6;rw[h1];rfl⟩)
   rw[hk];clear hk;go_wp2;go_ret2;exact⟨_,by rw[HE.out.1];rfl,by rw[HE.out.2];exact FV _ _ _ _,HB1.out⟩
 · have HE:Hid (A9 l n=0∧D6 l n=Ak l n):=Aa (by
    have h1:A9 l n=0:=by unfold A9;rw[if_neg (by rw[hk];decide),if_neg (by rw[hk];decide)]
    exact⟨h1,by unfold D6;rw[h1];rfl⟩)
   rw[hk];clear hk;go_wp2;go_loopw [7,8] (fun ov iv wr=>∃(i:Nat),i≤m∧iv=.int .i64 i∧wr.ownsRow w1.heap.size 112 5 ov (Ak (l.take i) n).length ((Ak (l.take i) n).flatMap DU)∧Below w1.heap.size w1 wr) (fun _ iv _=>m-(intOf iv).toNat)
   case atStart=>exact⟨0,by omega,rfl,FV _ _ _ _,Ad _ _⟩
   case round =>
    obtain⟨i,hi,rfl,hown,hbel⟩:=hrel;have HO:=Aa hown;have hTr:=HT1.out.below hbel;have hc0:=hTr.l.1;have hc1:=hTr.l.2;clear hown hTr;by_cases him:i<m
    · have hiz:(i:Int)<(m:Int):=by omega
      obtain⟨x,hx⟩:∃x,l[i]?=some x:=⟨_,Co (by rw[HM.out];omega)⟩;have xW:=Aa (AL.kept HV.out hbel);obtain⟨g,off,rfl,hg,hr⟩:=xW.out.at hx;obtain⟨d0,d1,d2,d3,d4,d5⟩:=Qf hr;have HX:=Aa (TQ hx n);have Uo:=Aa (IK (l.take i) n);have dY:Hid ((Ak (l.take i) n).length≤1000):=Aa (by have:=Uo.out;rw[Cc]at this;omega);clear hr hx hg;obtain⟨BD,nm,nd,dr,ck,sh⟩:=x;simp only at d0 d1 d2 d3 d4 d5;by_cases hnd:BD=n
      · subst hnd;have HX2:Hid (Ak (l.take (i+1)) BD=Ak (l.take i) BD++[⟨nm,nd,dr,ck,sh⟩]):=Aa (by rw[HX.out,if_pos rfl]);clear HX;go_wp2_with (at_builtin;refine wpList_append_own _ rfl _ _ 86 rfl w1.heap.size 112 i0 (.agg #[.string ⟨#[]⟩,.int .i64 0,.bool false,.int .i64 0,.int .i64 0]) 5 48 Tryz.underlying86 hi0 hz0 hz1 hz2 rfl (by decide) _ _ _ rfl (HO.out.alloc _) ⟨wr.heap.size,0,none⟩ 1 1 (DU ⟨nm,nd,dr,ck,sh⟩) rfl rfl ?c1 (IL _) ?c3 ?c4 ?c5 ?_)
        case c1 =>
         intro j u hj;rw[Addr.add_mid,AB _ _ _ _ _ _ (Ai _ _),Gh,Gp];exact hj
        case c3=>have:=dY.out;unfold maxLen;omega
        case c4=>have:=dY.out;omega
        case c5=>have h1:=hbel.size;simp;omega
        intro v' w2 hown' hgrow _;have hB2:=(hbel.alloc hbel.size (.cells #[.string nm,.int .i64 nd,.bool dr,.int .i64 ck,.int .i64 sh] 112)).grown hgrow (by have h1:=hbel.size;simp;omega) (fun j hj=>(HO.out.lt j hj).1);have JQ:=Aa hown';have HB2:=Aa hB2;clear hown' hgrow hB2;go_wp2;go_roundw
        case rel=>exact⟨i+1,by omega,by first|rfl|go_num,by rw[HX2.out,FB,A7];exact JQ.out,HB2.out⟩
        case measure=>simp[intOf];omega
      · have HX2:Hid (Ak (l.take (i+1)) n=Ak (l.take i) n):=Aa (by rw[HX.out,if_neg hnd,Cz]);have e1:(BD==n)=false:=by rw[Ba];exact hnd
        clear HX;go_wp2;go_roundw
        case rel=>exact⟨i+1,by omega,by first|rfl|go_num,by rw[HX2.out];exact HO.out,hbel⟩
        case measure=>simp[intOf];omega
    · have hiz:¬(i:Int)<(m:Int):=by omega
      have HA:Hid (l.take i=l):=Aa (CV (by rw[HM.out];omega));go_wp2;go_ret2;exact⟨_,by rw[HE.out.1];rfl,by
       have h:=HO.out;rw[HA.out]at h;rw[HE.out.2];exact Iz h HB1.out.size,HB1.out.trans (hbel.mono HB1.out.size)⟩
def XY (r:List Int)(w0:World)(e:Ending)(w':World):Prop:=∃v',e=.returned v'∧w'.ownsRow w0.heap.size 3 1 v' r.length (r.flatMap GK)∧Below w0.heap.size w0 w'
set_option maxHeartbeats 4000000 in
theorem kT (v:Value)(l:List Az)(nx:Int)(w:World)(hv:Bi w v l)(hl:l.length≤999) :
 Calls Tryz.prog 65 #[Bq v nx] w (XY (AR l) w):=by
 unfold XY;obtain⟨a,cap,rfl⟩:=hv.1.len;have cK:=fun(n:Nat) W (h:Bi W (.slice a l.length cap) l)=>Ms (.slice a l.length cap) l nx n W h.1 (by omega)
 obtain⟨m,hm⟩:∃m,l.length=m:=⟨_,rfl⟩;simp only[hm]at cK;rw[hm]at hv ⊢;have hb0:Below w.heap.size w (w.alloc (.cells #[.slice a m cap,.int .i64 nx] 31)):=(Ad _ w).alloc (Ae _) _;have HT:Hid (DC (w.alloc (.cells #[.slice a m cap,.int .i64 nx] 31)) w.heap.size (.slice a m cap) nx):=Aa (Ai _ _);have HI:=Aa (hv.kept hb0);have HB:=Aa hb0;have HZ:Hid ((w.alloc (.cells #[.slice a m cap,.int .i64 nx] 31)).heap.size=w.heap.size+1):=Aa (by simp);unfold Bq at cK ⊢;clear hv hm hb0;go_enter Tryz.func65,Tryz.ntmps65;go_upto_region 1 with fail;generalize w.alloc (.cells #[.slice a m cap,.int .i64 nx] 31)=W0 at *;generalize Tw:w.heap.size=bT at *;have Wn:=Aa Tw;clear Tw;go_wp2;go_loopw [3,4] (fun ov iv wr=>∃n:Nat,n≤201∧iv=.int .i64 n∧wr.ownsRow W0.heap.size 3 1 ov (Cb l n).length ((Cb l n).flatMap GK)∧Below W0.heap.size W0 wr) (fun _ iv _=>201-(intOf iv).toNat)
 case atStart=>exact⟨0,by omega,rfl,FV _ _ _ _,Ad _ _⟩
 case round =>
  obtain⟨n,hn,rfl,hrow,hb⟩:=hrel;have HW:=Aa hrow;have FU:=Aa hb;have HTr:=Aa (HT.out.below hb);obtain⟨t0,t1⟩:=HTr.out.l;have ic:=cK n wr (HI.out.kept hb);have hdl:=Gn l n;have Nk:=Aa (MG l n);have hsz:=hb.size;clear hrow hb;by_cases hn2:n≤200
  · have hnz:(n:Int)≤200:=by omega
    by_cases hk:AP l (n:Int)=2
    · rw[hk]at ic;have HS2:Hid (Cb l (n+1)=Cb l n++[(n:Int)]):=Aa (by rw[Nk.out,if_pos hk]);clear hk Nk;go_upto_region 6 with(go_at_call 107;refine ic.mono ?_;rintro e w5 ⟨rfl,hb5⟩;have I4:=Aa (FU.out.trans (hb5.mono hsz));have X5:Hid (World.ownsRow w5 W0.heap.size 3 1 u3 (Cb l n).length ((Cb l n).flatMap GK)):=Aa (HW.out.kept (row:=none) ⟨hb5.os,hb5.tape,hb5.output,hb5.size,fun k hk _=>hb5.block k hk⟩ (by cases h:u3.ownBlock with|none=>exact Or.inl rfl|some x=>exact Or.inr (by simp)));have hs5:W0.heap.size≤w5.heap.size:=I4.out.size;clear hb5);have NJ:Hid (World.ownsRow (w5.alloc (.cells #[.int .i64 (n:Int)] 3)) W0.heap.size 3 1 u3 (Cb l n).length ((Cb l n).flatMap GK)):=Aa (X5.out.alloc _);have uA:Hid (Kc (w5.alloc (.cells #[.int .i64 (n:Int)] 3)) (.slice (some ⟨w5.heap.size,0,none⟩) 1 1) [(n:Int)]):=Aa (AL.block (Dv _) (Ai _ _));have hsa:W0.heap.size≤(w5.alloc (.cells #[.int .i64 (n:Int)] 3)).heap.size:=by show _≤(w5.heap.push _).size;simp;omega
      have Qr:=Aa hsa;have K5:Hid (Below W0.heap.size W0 (w5.alloc (.cells #[.int .i64 (n:Int)] 3))):=Aa (I4.out.alloc hs5 _);have hlen:(Cb l n).length+[(n:Int)].length≤100000:=by simp;omega
      clear hsa;go_wp2_with (at_builtin;refine AY M8 rfl _ _ rfl W0.heap.size _ _ _ rfl NJ.out _ [(n:Int)] (Dv _) (KF _) rfl uA.out hlen Qr.out ?_;intro v8 w8 Fz F6 JS;have uE:=Aa (K5.out.grown F6 Qr.out (fun j hj=>(NJ.out.lt j hj).1));have uo:=Aa Fz;clear Fz F6 JS);go_roundw
      case rel=>exact⟨n+1,by omega,by first|rfl|go_num,by rw[HS2.out,A7,FB];exact uo.out,uE.out⟩
      case measure=>simp[intOf];omega
    · have hkz:(AP l (n:Int)==2)=false:=by rw[Ba];exact hk
      have HS2:Hid (Cb l (n+1)=Cb l n):=Aa (by rw[Nk.out,if_neg hk,Cz]);clear hk Nk;go_wp2_with (go_at_call 107;refine ic.mono ?_;rintro e w5 ⟨rfl,hb5⟩;have I4:=Aa (FU.out.trans (hb5.mono hsz));have X5:Hid (World.ownsRow w5 W0.heap.size 3 1 u3 (Cb l n).length ((Cb l n).flatMap GK)):=Aa (HW.out.kept (row:=none) ⟨hb5.os,hb5.tape,hb5.output,hb5.size,fun k hk _=>hb5.block k hk⟩ (by cases h:u3.ownBlock with|none=>exact Or.inl rfl|some x=>exact Or.inr (by simp)));clear hb5);go_roundw
      case rel=>exact⟨n+1,by omega,by first|rfl|go_num,by rw[HS2.out];exact X5.out,I4.out⟩
      case measure=>simp[intOf];omega
  · have hnz:¬(n:Int)≤200:=by omega
    obtain rfl:n=201:=by omega
    have HE:Hid (wr.ownsRow bT 3 1 u3 (AR l).length ((AR l).flatMap GK)):=Aa (Iz HW.out (by have:=HZ.out;omega));have GN:Hid (Below bT w wr):=Aa (HB.out.trans (FU.out.mono (by have:=HZ.out;omega)));clear ic;go_wp2;go_ret;exact⟨_,rfl,by rw[Wn.out];exact HE.out,by rw[Wn.out];exact GN.out⟩
end Go.Proofs.YtdmkhmeaphaapaaGreat
namespace Go.Proofs.YtdmkhmeaphaapaaGreat
open Go.RowKit Go.Sort
def Uf (x:UInt8):List Value:=[.int .u8 x.toNat]
theorem Ei (l:List UInt8):∀x∈l,(Uf x).length=1:=fun _ _=>rfl
theorem E5 (l:List UInt8):∀x∈l,∀u∈Uf x,u.oneCell'=true:=fun x _ u hu=>by
 unfold Uf at hu;rw[Cn]at hu;subst hu;rfl
theorem Ue (l:List UInt8):l.flatMap Uf=Lib.byteCells l:=by
 unfold Lib.byteCells Uf
 induction l with
 | nil=>rfl
 | cons x l ih=>rw[List.flatMap_cons,ih];rfl
theorem MK:MS Tryz.prog 121 5 1:=
 ⟨Tryz.underlying121,by
  obtain⟨i0,h1,h2,h3,h4⟩:=info_parts NZ;exact⟨i0,_,1,h1,h2,h3,h4,rfl,by decide⟩,by decide⟩
abbrev iF:=@AL UInt8 Uf 1
theorem fE {w w':World}{B B' c n m:Nat}{T0:TypeId}{v v0:Value}{xs ys:List Value}(h:w.ownsRow B' T0 c v0 m ys)(ho:w.ownsRow B 5 1 v n xs)(hg:w.grownBy w' v.ownBlock)(hT:T0≠5):w'.ownsRow B' T0 c v0 m ys:=
 AV h fun g hg'=>hg.block g (h.lt g hg').2 fun e=>by
  obtain⟨cur,h1⟩:=CJ h hg';obtain⟨AcI,h2⟩:=CJ ho e.symm;rw[h1]at h2;injection h2 with h2;injection h2 with _ h3 _;exact hT h3
theorem P6 {w w':World}{B c n:Nat}{T0:TypeId}{v:Value}{xs:List Value}(h:w.ownsRow B T0 c v n xs)(hb:Below w.heap.size w w'):w'.ownsRow B T0 c v n xs:=AV h fun g hg=>hb.block g (h.lt g hg).2
structure Hw (w:World)(bO:Nat)(rv:Value)(nx:Int)(dv:Value)(ds:List Int)(ev:Value)(es:List Br)(u:List UInt8)(v:Value)(W:World):Prop where
 d:W.heap[bO]?=some (.cells #[rv,.int .i64 nx] 31 (0,0))
 ds:W.ownsRow bO 3 1 dv ds.length (ds.flatMap GK)
 es:W.ownsRow bO 112 5 ev es.length (es.flatMap DU)
 own:W.ownsRow (bO+1) 5 1 v u.length (Lib.byteCells u)
 b:Below bO w W
 lt:bO+1≤W.heap.size
section
variable {w W W':World}{bO:Nat}{rv:Value}{nx:Int}{dv:Value}{ds:List Int}{ev:Value}{es:List Br}{u:List UInt8}{v:Value}
theorem Hw.below (h:Hw w bO rv nx dv ds ev es u v W)(hb:Below W.heap.size W W'):Hw w bO rv nx dv ds ev es u v W':=
 ⟨(hb.block _ (by have:=h.lt;omega)).trans h.d,P6 h.ds hb,P6 h.es hb,P6 h.own hb,h.b.trans (hb.mono (by have:=h.lt;omega)),Ao h.lt hb.size⟩
theorem Hw.app (h:Hw w bO rv nx dv ds ev es u v W){v':Value}{n:Nat}{cs:List Value}(l:List UInt8)(ho:W'.ownsRow (bO+1) 5 1 v' n cs)(hg:W.grownBy W' v.ownBlock)(hn:n=(u++l).length)(hc:cs=Lib.byteCells (u++l)):Hw w bO rv nx dv ds ev es (u++l) v' W':=by
 subst hn;subst hc;have hlt:=h.lt;refine⟨(hg.block _ (by omega) (fun e=>by have:=(h.own.lt bO e.symm).1;omega)).trans h.d,fE h.ds h.own hg (by decide),fE h.es h.own hg (by decide),ho,h.b.grown hg (by omega) (fun k hk=>by have:=(h.own.lt k hk).1;omega),Ao h.lt hg.size⟩
theorem Hw.pQ (h:Hw w bO rv nx dv ds ev es u v W){v':Value}{l:List UInt8}(ho:W'.ownsRow (bO+1) 5 1 v' (u.length+l.length) (Lib.byteCells u++l.flatMap Uf))(hg:W.grownBy W' v.ownBlock):Hw w bO rv nx dv ds ev es (u++l) v' W':=
 h.app l ho hg List.length_append.symm (by rw[Ue];simp[Lib.byteCells])
theorem Hw.num (h:Hw w bO rv nx dv ds ev es u v W)(z kk:Int)(k:Nat)(hk:kk=(k:Int))(xh:k≤8)(hk1:1≤k)(hz:0≤z∧z≤9223372036854775807) :
 Calls Tryz.prog 87 #[.int .i64 z,.int .i64 kk] W fun e w'=>∃v2,e=.returned v2∧iF w' v2 (BB z.toNat k)∧Hw w bO rv nx dv ds ev es u v w':=by
 subst hk;have h9:=fO z.toNat k W (by omega) xh hk1;rw[show((z.toNat:Nat):Int)=z by omega]at h9;refine h9.mono ?_;rintro e w' ⟨v2,rfl,ho,hb⟩;rw[←Ue]at ho;exact⟨v2,rfl,AL.own (Ei _) ho (Ah _ _).symm,h.below hb⟩
theorem Hw.al (h:Hw w bO rv nx dv ds ev es u v W)(o:Obj):Hw w bO rv nx dv ds ev es u v (W.alloc o):=h.below ((Ad _ _).alloc (Ae _) _)
theorem Hw.cells (h:Hw w bO rv nx dv ds ev es u v W):W.cell? ⟨bO,0,none⟩=some rv∧W.cell? ⟨bO,1,none⟩=some (.int .i64 nx):=⟨Ap h.d 0,Ap h.d 1⟩
end
theorem one_byte (W:World)(x:UInt8)(z:Int)(hz:z=(x.toNat:Int)):iF (W.alloc (.cells #[.int .u8 z] 5)) (.slice (some ⟨W.heap.size,0,none⟩) 1 1) [x]:=by
 subst hz;exact AL.block (Ei _) (Ai _ _)
theorem XH (n:Nat):BB n 1=[UInt8.ofNat n]:=by simp[BB]
theorem lU (g off j:Nat):(⟨g,off,none⟩:Addr).add j=⟨g,off+j,none⟩:=by
 simp[Addr.add]
theorem jB {B g n cap:Nat}{w:World}{xs:List UInt8}(h:w.ownsRow B 5 1 (.slice (some ⟨g,0,none⟩) n cap) xs.length (Lib.byteCells xs)){j:Nat}(hj:j<xs.length):w.cell? ⟨g,j,none⟩=some (.int .u8 ((xs.getD j 0).toNat:Int)):=by
 rcases h.2 with⟨hv,_⟩|⟨g',cap',cur,hv,hg,hb,h1,h2,h3,h4⟩
 · cases hv
 · injection hv with hv _ _;injection hv with hv;injection hv with hv _ _;subst hv;rw[Ap hb,←Array.getElem?_toList];have:=Gu (·[j]?) h4;simp only[Nat.mul_one,List.getElem?_take,if_pos hj]at this;rw[this];simp[Lib.byteCells,List.getElem?_eq_getElem hj,List.getD_eq_getElem?_getD]
theorem jy {B g n cap:Nat}{w:World}{xs:List UInt8}(h:w.ownsRow B 5 1 (.slice (some ⟨g,0,none⟩) n cap) xs.length (Lib.byteCells xs))(hn:xs.length=n):(convert 121 9 (.slice (some ⟨g,0,none⟩) n cap)).run Tryz.prog w=.ok (.string ⟨xs.toArray⟩) w:=by
 subst hn;refine run_convert_bytes_back (P:=Tryz.prog) w 121 9 5 ⟨g,0,none⟩ cap xs Tryz.underlying121 Tryz.underlying5 Tryz.underlying9 (fun j hj=>?_);rw[lU,Gh,jB h hj];simp[List.getD_eq_getElem?_getD,List.getElem?_eq_getElem hj]
theorem jA {B:Nat}{w:World}{v:Value}{l:List UInt8}(h:w.ownsRow B 5 1 v l.length (Lib.byteCells l))(hn:l≠[]):∃g cap,v=.slice (some ⟨g,0,none⟩) l.length cap:=by
 rcases h.2 with⟨_,h0⟩|⟨g,cap,cur,hv,_⟩
 · exact absurd (Kw h0) hn
 · exact⟨g,cap,hv⟩
abbrev bg:Value:=.slice none 0 0
set_option maxHeartbeats 8000000 in
theorem jZ (rv:Value)(l:List Az)(nx:Int)(w:World)(hv:Bi w rv l)(hg:Aq l nx)(hx:nx≤9223372036854775807) :
 Calls Tryz.prog 41 #[Bq rv nx] w fun e w'=>e=.returned (.string ⟨(BG l nx).toArray⟩)∧Below w.heap.size w w':=by
 obtain⟨i0,gi0,gz0,gz1,gz2⟩:=info_parts NZ;have hll:=hg.len;have hnx:=hg.Ml;have hshort:=Jm hg;obtain⟨ar,cr,rfl⟩:=hv.1.len;obtain⟨L,hL⟩:∃L,BG l nx=L:=⟨_,rfl⟩;have Ny:Hid (∀d∈AU l,Oy d):=Aa fun d hd=>WU hg hx hd
 have zo:Hid (∀q∈AR l,AP l q=2):=Aa fun q hq=>(Jo.1 hq).2
 have HRG:Hid (∀q∈AR l,0≤q∧q≤200):=Aa fun q hq=>J7 hq
 rw[hL]at hshort ⊢;unfold BG N8 at hL;have hdl:(AU l).length=(AR l).length:=by unfold AU;rw[DW]
 rw[hdl]at hL;obtain⟨n,hn⟩:∃n,(AR l).length=n:=⟨_,rfl⟩;have hn1:n≤201:=by rw[←hn];exact Gn l 201
 rw[hn]at hL;have hlen:=Gu List.length hL;simp only[List.length_append,Ah]at hlen;have HL:=Aa hL;have HN:=Aa hn;have HLEN:Hid (((AU l).flatMap CB).length≤60000):=Aa (by omega);obtain⟨nl,hnl⟩:∃nl,l.length=nl:=⟨_,rfl⟩;have HNL:=Aa hnl;rw[hnl]at hv hll ⊢;have cD:=fun W (h:Bi W (.slice ar nl cr) l)=>kT (.slice ar nl cr) l nx W h (by omega)
 have cL:=fun q W (h:Bi W (.slice ar nl cr) l)=>jS (.slice ar nl cr) l nx q W h.1 (by omega)
 unfold XY Bq at cD;unfold XP Bq at cL;simp only[hn]at cD;have HIT:Hid (∀W,Below w.heap.size w W→Bi W (.slice ar nl cr) l):=Aa fun W hW=>hv.kept (Below.mono hW (Ae _))
 have HB0:Hid (Below w.heap.size w (w.alloc (.cells #[.slice ar nl cr,.int .i64 nx] 31))):=Aa ((Ad _ _).alloc (Ae _) _);have HD0:Hid ((w.alloc (.cells #[.slice ar nl cr,.int .i64 nx] 31)).heap[w.heap.size]?=some (.cells #[.slice ar nl cr,.int .i64 nx] 31 (0,0))):=Aa (Ai _ _);have XR:Hid ((w.alloc (.cells #[.slice ar nl cr,.int .i64 nx] 31)).heap.size=w.heap.size+1):=Aa (by simp);have hss:∀s:ByteArray,s.data.toList.length=s.size:=fun s=>BQ
 unfold Bq;clear hv hg hshort hL hdl hlen hn hnl;go_enter Tryz.func41,Tryz.ntmps41;go_upto_region 1 with fail;generalize (w.alloc (.cells #[.slice ar nl cr,.int .i64 nx] 31))=W0 at *;generalize NF:w.heap.size=bO at *;have HBO:=Aa NF;clear NF;obtain⟨⟨t0,t1⟩,_⟩:=BN HD0.out;have cN0:=fO nx.toNat 8 W0 (by omega) (by omega) (by omega);rw[show((nx.toNat:Nat):Int)=nx by omega]at cN0;unfold XO at cN0;obtain⟨U0,hU0⟩:∃U0,BB nx.toNat 8=U0:=⟨_,rfl⟩;have hl0:U0.length≤8:=by rw[←hU0,Ah];exact Ae _
 have zm:Hid (U0.length=8):=Aa (by rw[←hU0,Ah]);rw[hU0]at cN0;have HU0:=Aa hU0;clear hU0;go_upto_region 2 with(go_at_call 87;refine cN0.mono ?_;rintro e w1 ⟨v1,rfl,ho0,hb1⟩;have ho1:w1.ownsRow W0.heap.size 5 1 v1 U0.length (Lib.byteCells U0):=(by rw[zm.out];exact ho0);clear ho0;obtain⟨a1,c1,hv1⟩:=Av ho1;subst hv1);have HI:Hid (Hw w bO (.slice ar nl cr) nx bg [] bg [] U0 (.slice a1 U0.length c1) w1):=Aa
  ⟨(hb1.block bO (Ab HD0.out)).trans HD0.out,FV _ _ _ _,FV _ _ _ _,Iz ho1 (by rw[XR.out];exact Ae _),HB0.out.trans (hb1.mono (by rw[XR.out];omega)),by have:=hb1.size;have:=XR.out;omega⟩
 clear ho1 hb1 cN0 t0 t1 HD0 HB0 XR;obtain⟨t0,t1⟩:=HI.out.cells;go_upto_region 3 with(go_at_call 65;refine(cD _ (HIT.out _ HI.out.b)).mono ?_;rintro e w2 ⟨v2,rfl,ho2,hb2⟩;obtain⟨a2,c2,hv2⟩:=Av ho2;subst hv2);have HI:Hid (Hw w bO (.slice ar nl cr) nx (.slice a2 n c2) (AR l) bg [] U0 (.slice a1 U0.length c1) w2):=Aa (by
  have h9:=HI.out.below hb2;exact⟨h9.d,by rw[HN.out];exact Iz ho2 (by have:=HI.out.lt;omega),h9.es,h9.own,h9.b,h9.lt⟩)
 clear ho2 hb2 cD t0 t1;go_upto_region 4 with(first
  | (go_at_call 87;(with_reducible refine(HI.out.num ((n:Int)) 2 2 rfl (by omega) (by omega) (by omega)).mono ?_);rintro e w9 ⟨v9,rfl,LW,hi9⟩;obtain⟨a9,c9,FQ⟩:=LW.len;have HI:=Aa hi9;have HS:=Aa LW;clear hi9 LW;subst FQ)
  | (at_builtin;refine AY MK rfl _ _ rfl (bO+1) _ _ _ rfl HI.out.own _ (BB (Int.toNat (n:Int)) 2) (Ei _) (E5 _) rfl HS.out (by simp only[List.length_append,Ah,List.length_singleton,List.length_nil,hss];omega) HI.out.lt ?_;intro v9 W9 H7 Jn _;have hi9:=HI.out.pQ H7 Jn;obtain⟨U1,hU1⟩:∃U,U0++(BB (Int.toNat (n:Int)) 2)=U:=⟨_,rfl⟩;rw[hU1]at hi9;have Adp:U1.length≤U0.length+2:=Nat.le_of_eq (by(rw[←hU1];simp only[List.length_append,Ah,List.length_singleton,List.length_nil,hss]));obtain⟨a9,c9,FQ⟩:=Av hi9.own;have HI:=Aa hi9;have AcN:=Aa hU1;subst FQ;clear H7 Jn hi9 hU1))
 have AcP:Hid (U1=BB nx.toNat 8++BB n 2):=Aa (by rw[←AcN.out,←HU0.out,DY]);have HDC:Hid (∀(W:World) (i:Nat) (q:Int) (u:List UInt8) (ev v:Value) (es:List Br),Hw w bO (.slice ar nl cr) nx (.slice a2 n c2) (AR l) ev es u v W→(AR l)[i]?=some q→∃g off,a2=some ⟨g,off,none⟩∧W.cell? ⟨g,off+i,none⟩=some (.int .i64 q)):=Aa fun W i q u ev v es h hq=>by
  have hds:=h.ds;rw[HN.out]at hds;obtain⟨g,off,e1,_,hr⟩:=AL.at (AL.own (Dv _) hds HN.out.symm) hq;have h9:=Ta hr;rw[Nat.mul_one]at h9;exact⟨g,off,e1,h9⟩
 go_wp2_with fail;go_loopw [3,5] (fun ov iv wr=>∃i:Nat,i≤n∧iv=.int .i64 i∧Hw w bO (.slice ar nl cr) nx (.slice a2 n c2) (AR l) bg [] (BB nx.toNat 8++BB n 2++((AU l).take i).flatMap CB) ov wr) (fun _ iv _=>n-(intOf iv).toNat)
 case atStart=>exact⟨0,by omega,rfl,by rw[←AcP.out,List.take_zero,List.flatMap_nil,Cz];exact HI.out⟩
 case round =>
  clear HI;obtain⟨i,hi,rfl,Ns⟩:=hrel;obtain⟨P,hP⟩:∃P,BB nx.toNat 8++BB n 2++((AU l).take i).flatMap CB=P:=⟨_,rfl⟩;rw[hP]at Ns;obtain⟨a3,c3,hv3⟩:=Av Ns.own;subst hv3;have HI:=Aa Ns;clear Ns;by_cases him:i<n
  · have hiz:(i:Int)<(n:Int):=by omega
    have hi0:(0:Int)≤(i:Int):=by omega
    obtain⟨q,hq⟩:∃q,(AR l)[i]?=some q:=⟨_,Co (by rw[HN.out];omega)⟩;have hqm:=CU hq;have hqr:=HRG.out q hqm;have hle:A9 l q=0:=by unfold A9;rw[if_neg (by rw[zo.out q hqm];decide),if_neg (by rw[zo.out q hqm];decide)]
    have hli:D6 l q=Ak l q:=by unfold D6;rw[if_pos hle]
    have cLq:=cL q;rw[hle,hli]at cLq;have hd:(AU l)[i]?=some (q,Ak l q):=by
     unfold AU;rw[GZ,hq];rfl
    have LQ:=Aa (Ny.out _ (CU hd));have UT:=Aa (JI (f:=CB) hd);have hle2:=GA CB (AU l) (i+1);rw[UT.out,A7]at hle2;have mE:Hid (P.length+(CB (q,Ak l q)).length≤60010):=Aa (by
     have:=HLEN.out;rw[←hP];simp only[List.length_append,Ah];omega)
    have HDB:Hid (P++(BB q.toNat 2++(BB (Ak l q).length 2++(Ak l q).flatMap GD))=BB nx.toNat 8++BB n 2++((AU l).take (i+1)).flatMap CB):=Aa (by
     rw[UT.out,←hP];unfold CB;simp only[List.append_assoc])
    have hPl:P.length+4+((Ak l q).flatMap GD).length≤60010:=by
     have h9:=mE.out;unfold CB at h9;simp only[List.length_append,Ah]at h9;omega
    have Ab2:=Aa hPl;have AdA:P.length≤60006:=by omega
    obtain⟨g,off,e2,_⟩:=HDC.out _ i q _ _ _ _ HI.out hq;subst e2;have HQC:Hid (∀(W:World) (u:List UInt8) (ev v:Value) (es:List Br),Hw w bO (.slice ar nl cr) nx (.slice (some ⟨g,off,none⟩) n c2) (AR l) ev es u v W→W.cell? ⟨g,off+i,none⟩=some (.int .i64 q)):=Aa fun W u ev v es h=>by
     obtain⟨g',off',e1,h9⟩:=HDC.out W i q u ev v es h hq;injection e1 with e1;injection e1 with e1 e2 _;subst e1;subst e2;exact h9
    obtain⟨es,hes⟩:∃es,Ak l q=es:=⟨_,rfl⟩;rw[hes]at cLq LQ HDB Ab2 hPl;obtain⟨m,hm⟩:∃m,es.length=m:=⟨_,rfl⟩;have HM:=Aa hm;have hm4:m≤200:=by
     have:=IK l q;rw[hes]at this;have:=HNL.out;omega
    simp only[hm]at cLq;rw[hm]at HDB;clear hP hd hle hli hle2 hq hqm hes hm hPl UT mE;have Nj:Hid (∀W,Below wr.heap.size wr W→W.cell? ⟨bO,0,none⟩=some (.slice ar nl cr)∧W.cell? ⟨bO,1,none⟩=some (.int .i64 nx)∧W.cell? ⟨g,off+i,none⟩=some (.int .i64 q)):=Aa fun W hW=>by
     have h9:=HI.out.below hW;exact⟨h9.cells.1,h9.cells.2,HQC.out _ _ _ _ _ h9⟩
    go_upto_region 7 with fail;go_cut [6,7] from 25 to 34 (fun v6 v7 wx=>∃a4 c4,v6=.slice a4 m c4∧Hw w bO (.slice ar nl cr) nx (.slice (some ⟨g,off,none⟩) n c2) (AR l) (.slice a4 m c4) es P (.slice a3 P.length c3) wx)
    case first =>
     have hs0:=Nj.out wr.drew (Ad _ _).drew;go_region_held3 (fun W=>W.cell? ⟨bO,0,none⟩=some (.slice ar nl cr)∧W.cell? ⟨bO,1,none⟩=some (.int .i64 nx)∧W.cell? ⟨g,off+i,none⟩=some (.int .i64 q)) (first|assumption|exact⟨hi4.cells.1,hi4.cells.2,HQC.out _ _ _ _ _ hi4⟩|(refine Nj.out _ ?_;first|assumption|exact(Ad _ _).drew)) (first|(go_at_call 69;refine(cLq wr.drew (HIT.out _ (HI.out.below (Ad _ _).drew).b)).mono ?_;rintro e w4 ⟨v4,rfl,ho4,hb4⟩;obtain⟨a4,c4,hv4⟩:=Av ho4;subst hv4;have hi4:Hw w bO (.slice ar nl cr) nx (.slice (some ⟨g,off,none⟩) n c2) (AR l) (.slice a4 m c4) es P (.slice a3 P.length c3) w4:=(by have h9:=(HI.out.below (Ad _ _).drew).below hb4;exact⟨h9.d,h9.ds,by rw[HM.out];exact Iz ho4 (by have:=(HI.out.below (Ad _ _).drew).lt;omega),h9.own,h9.b,h9.lt⟩)))
     all_goals
      go_wp2;go_meet;exact⟨_,_,rfl,hi4⟩
    case rest =>
    obtain⟨a4,c4,h6,Ns⟩:=hcut;subst h6;have HI:=Aa Ns;clear Ns cLq Nj;have HEC:Hid (∀(W:World) (k:Nat) (x:Br) (u:List UInt8) (v:Value),Hw w bO (.slice ar nl cr) nx (.slice (some ⟨g,off,none⟩) n c2) (AR l) (.slice a4 m c4) es u v W→es[k]?=some x→∃g off,a4=some ⟨g,off,none⟩∧W.rangeAt g (off+k*5) (DU x)):=Aa fun W k x u v h hx=>by
     have hds:=h.es;rw[HM.out]at hds;obtain⟨g,off,e1,_,hr⟩:=AL.at (AL.own (Eb _) hds HM.out.symm) hx;exact⟨g,off,e1,hr⟩
    have d0:=HQC.out _ _ _ _ _ HI.out;go_upto_region 9 with(first
     | (go_at_call 87;(with_reducible refine(HI.out.num (q) 2 2 rfl (by omega) (by omega) (by omega)).mono ?_);rintro e w9 ⟨v9,rfl,LW,hi9⟩;obtain⟨a9,c9,FQ⟩:=LW.len;have HI:=Aa hi9;have HS:=Aa LW;clear hi9 LW;subst FQ)
     | (at_builtin;refine AY MK rfl _ _ rfl (bO+1) _ _ _ rfl HI.out.own _ (BB q.toNat 2) (Ei _) (E5 _) rfl HS.out (by simp only[List.length_append,Ah,List.length_singleton,List.length_nil,hss];omega) HI.out.lt ?_;intro v9 W9 H7 Jn _;have hi9:=HI.out.pQ H7 Jn;obtain⟨Uq,hUq⟩:∃U,P++(BB q.toNat 2)=U:=⟨_,rfl⟩;rw[hUq]at hi9;have Ado:Uq.length≤P.length+2:=Nat.le_of_eq (by(rw[←hUq];simp only[List.length_append,Ah,List.length_singleton,List.length_nil,hss]));obtain⟨a9,c9,FQ⟩:=Av hi9.own;have HI:=Aa hi9;have AcM:=Aa hUq;subst FQ;clear H7 Jn hi9 hUq))
    go_upto_region 10 with(first
     | (go_at_call 87;(with_reducible refine(HI.out.num ((m:Int)) 2 2 rfl (by omega) (by omega) (by omega)).mono ?_);rintro e w9 ⟨v9,rfl,LW,hi9⟩;obtain⟨a9,c9,FQ⟩:=LW.len;have HI:=Aa hi9;have HS:=Aa LW;clear hi9 LW;subst FQ)
     | (at_builtin;refine AY MK rfl _ _ rfl (bO+1) _ _ _ rfl HI.out.own _ (BB (Int.toNat (m:Int)) 2) (Ei _) (E5 _) rfl HS.out (by simp only[List.length_append,Ah,List.length_singleton,List.length_nil,hss];omega) HI.out.lt ?_;intro v9 W9 H7 Jn _;have hi9:=HI.out.pQ H7 Jn;obtain⟨P2,hP2⟩:∃U,Uq++(BB (Int.toNat (m:Int)) 2)=U:=⟨_,rfl⟩;rw[hP2]at hi9;have Adt:P2.length≤Uq.length+2:=Nat.le_of_eq (by(rw[←hP2];simp only[List.length_append,Ah,List.length_singleton,List.length_nil,hss]));obtain⟨a9,c9,FQ⟩:=Av hi9.own;have HI:=Aa hi9;have AcO:=Aa hP2;subst FQ;clear H7 Jn hi9 hP2))
    have XT:Hid (P++BB q.toNat 2++BB m 2=P2):=Aa (by rw[←AcO.out,←AcM.out,DY]);have AcT:Hid (P2.length+(es.flatMap GD).length≤60010):=Aa (by
     have:=Ab2.out;rw[←XT.out];simp only[List.length_append,Ah];omega)
    go_wp2_with fail;go_loopw [3,8] (fun ov kv wk=>∃k:Nat,k≤m∧kv=.int .i64 k∧Hw w bO (.slice ar nl cr) nx (.slice (some ⟨g,off,none⟩) n c2) (AR l) (.slice a4 m c4) es (P2++(es.take k).flatMap GD) ov wk) (fun _ kv _=>m-(intOf kv).toNat)
    case atStart=>exact⟨0,by omega,rfl,by rw[List.take_zero,List.flatMap_nil,Cz];exact HI.out⟩
    case round =>
     clear HI;obtain⟨k,hk,rfl,Ns⟩:=hrel;obtain⟨R,hR⟩:∃R,P2++(es.take k).flatMap GD=R:=⟨_,rfl⟩;rw[hR]at Ns;obtain⟨a5,c5,hv5⟩:=Av Ns.own;subst hv5;have HI:=Aa Ns;clear Ns;by_cases hkm:k<m
     · have hkz:(k:Int)<(m:Int):=by omega
       have hk0:(0:Int)≤(k:Int):=by omega
       obtain⟨x,hx⟩:∃x,es[k]?=some x:=⟨_,Co (by rw[HM.out];omega)⟩;obtain⟨⟨f1,⟨f2,f3⟩,⟨f4,f5⟩,⟨f6,f7⟩⟩,f8⟩:=LQ.out.ent (CU hx);have UT:=Aa (JI (f:=GD) hx);have hle2:=GA GD es (k+1);rw[UT.out,A7]at hle2;have hRl:R.length≤60010:=by
        have:=AcT.out;rw[←hR,A7];omega
       obtain⟨T9,hT9⟩:∃T9,P2++(es.take (k+1)).flatMap GD=T9:=⟨_,rfl⟩;have X6:=Aa hT9;have HEY:Hid (R++GD x=T9):=Aa (by rw[←hT9,UT.out,←hR,Ch]);obtain⟨g6,jE,e6,_⟩:=HEC.out _ k x _ _ HI.out hx;subst e6;have xV:Hid (∀(W:World) (u:List UInt8) (v:Value),Hw w bO (.slice ar nl cr) nx (.slice (some ⟨g,off,none⟩) n c2) (AR l) (.slice (some ⟨g6,jE,none⟩) m c4) es u v W→W.cell? ⟨g6,jE+k*5,none⟩=some (.string x.name)∧W.cell? ⟨g6,jE+k*5+1,none⟩=some (.int .i64 x.node)∧W.cell? ⟨g6,jE+k*5+2,none⟩=some (.bool x.dir)∧W.cell? ⟨g6,jE+k*5+3,none⟩=some (.int .i64 x.Al)∧W.cell? ⟨g6,jE+k*5+4,none⟩=some (.int .i64 x.short)):=Aa fun W u v h=>by
        obtain⟨g',off',e1,h9⟩:=HEC.out W k x u v h hx;injection e1 with e1;injection e1 with e1 e2 _;subst e1;subst e2;exact Ii h9
       obtain⟨s,nd,dr,ck,sh⟩:=x;simp only at f1 f2 f3 f4 f5 f6 f7 f8 xV;unfold GD EU at HEY;simp only at HEY;rw[XH]at HEY;have HSB:Hid ((s.size:Int)=((UInt8.ofNat s.size).toNat:Int)):=Aa (by rw[Ju];omega);clear hR hle2 hx UT hT9;obtain⟨x0,x1,x2,x3,x4⟩:=xV.out _ _ _ HI.out;go_upto_region 14 with(at_builtin;refine AY MK rfl _ _ rfl (bO+1) _ _ _ rfl (HI.out.al _).own _ ([UInt8.ofNat s.size]) (Ei _) (E5 _) rfl (one_byte _ _ _ HSB.out) (by simp only[List.length_append,Ah,List.length_singleton,List.length_nil,hss];omega) (HI.out.al _).lt ?_;intro v9 W9 H7 Jn _;have hi9:=(HI.out.al _).pQ H7 Jn;obtain⟨R1,hR1⟩:∃U,R++([UInt8.ofNat s.size])=U:=⟨_,rfl⟩;rw[hR1]at hi9;have Ads:R1.length≤R.length+1:=Nat.le_of_eq (by(rw[←hR1];simp only[List.length_append,Ah,List.length_singleton,List.length_nil,hss]));obtain⟨a9,c9,FQ⟩:=Av hi9.own;have HI:=Aa hi9;have AbW:=Aa hR1;subst FQ;clear H7 Jn hi9 hR1);clear x0 x1 x2 x3 x4;obtain⟨x0,x1,x2,x3,x4⟩:=xV.out _ _ _ HI.out;go_upto_region 15 with(at_builtin;refine Lib.wpList_append_own_string _ rfl _ _ 121 9 rfl (bO+1) 5 i0 Tryz.underlying121 Tryz.underlying9 gi0 gz0 gz1 gz2 _ _ _ rfl HI.out.own s rfl (by unfold maxLen;omega) (by omega) HI.out.lt ?_;intro v9 W9 H7 Jn _;have hi9:=HI.out.app s.data.toList H7 Jn (by rw[A7,hss]) (by simp[Lib.byteCells,Lib.strCells]);obtain⟨R2,hR2⟩:∃U,R1++(s.data.toList)=U:=⟨_,rfl⟩;rw[hR2]at hi9;have Adr:R2.length≤R1.length+s.size:=Nat.le_of_eq (by(rw[←hR2];simp only[List.length_append,Ah,List.length_singleton,List.length_nil,hss]));obtain⟨a9,c9,FQ⟩:=Av hi9.own;have HI:=Aa hi9;have AbV:=Aa hR2;subst FQ;clear H7 Jn hi9 hR2);clear x0 x1 x2 x3 x4;obtain⟨x0,x1,x2,x3,x4⟩:=xV.out _ _ _ HI.out;go_upto_region 16 with(first
        | (go_at_call 87;(with_reducible refine(HI.out.num (nd) 2 2 rfl (by omega) (by omega) (by omega)).mono ?_);rintro e w9 ⟨v9,rfl,LW,hi9⟩;obtain⟨a9,c9,FQ⟩:=LW.len;have HI:=Aa hi9;have HS:=Aa LW;clear hi9 LW;subst FQ)
        | (at_builtin;refine AY MK rfl _ _ rfl (bO+1) _ _ _ rfl HI.out.own _ (BB nd.toNat 2) (Ei _) (E5 _) rfl HS.out (by simp only[List.length_append,Ah,List.length_singleton,List.length_nil,hss];omega) HI.out.lt ?_;intro v9 W9 H7 Jn _;have hi9:=HI.out.pQ H7 Jn;obtain⟨R3,hR3⟩:∃U,R2++(BB nd.toNat 2)=U:=⟨_,rfl⟩;rw[hR3]at hi9;have Adq:R3.length≤R2.length+2:=Nat.le_of_eq (by(rw[←hR3];simp only[List.length_append,Ah,List.length_singleton,List.length_nil,hss]));obtain⟨a9,c9,FQ⟩:=Av hi9.own;have HI:=Aa hi9;have AbU:=Aa hR3;subst FQ;clear H7 Jn hi9 hR3))
       clear x0 x1 x2 x3 x4;obtain⟨x0,x1,x2,x3,x4⟩:=xV.out _ _ _ HI.out;cases dr with
       | true =>
        have HFB:Hid (((1:Int))=((UInt8.ofNat (DI true)).toNat:Int)):=Aa (by decide);rw[XH]at HEY;go_upto_region 19 with(at_builtin;refine AY MK rfl _ _ rfl (bO+1) _ _ _ rfl (HI.out.al _).own _ ([UInt8.ofNat (DI true)]) (Ei _) (E5 _) rfl (one_byte _ _ _ HFB.out) (by simp only[List.length_append,Ah,List.length_singleton,List.length_nil,hss];omega) (HI.out.al _).lt ?_;intro v9 W9 H7 Jn _;have hi9:=(HI.out.al _).pQ H7 Jn;obtain⟨R4,xz⟩:∃U,R3++([UInt8.ofNat (DI true)])=U:=⟨_,rfl⟩;rw[xz]at hi9;have Acw:R4.length≤R3.length+1:=Nat.le_of_eq (by(rw[←xz];simp only[List.length_append,Ah,List.length_singleton,List.length_nil,hss]));obtain⟨a9,c9,FQ⟩:=Av hi9.own;have HI:=Aa hi9;have AaT:=Aa xz;subst FQ;clear H7 Jn hi9 xz);clear x0 x1 x2 x3 x4;obtain⟨x0,x1,x2,x3,x4⟩:=xV.out _ _ _ HI.out;go_upto_region 20 with(first
         | (go_at_call 87;(with_reducible refine(HI.out.num (ck) 8 8 rfl (by omega) (by omega) (by omega)).mono ?_);rintro e w9 ⟨v9,rfl,LW,hi9⟩;obtain⟨a9,c9,FQ⟩:=LW.len;have HI:=Aa hi9;have HS:=Aa LW;clear hi9 LW;subst FQ)
         | (at_builtin;refine AY MK rfl _ _ rfl (bO+1) _ _ _ rfl HI.out.own _ (BB ck.toNat 8) (Ei _) (E5 _) rfl HS.out (by simp only[List.length_append,Ah,List.length_singleton,List.length_nil,hss];omega) HI.out.lt ?_;intro v9 W9 H7 Jn _;have hi9:=HI.out.pQ H7 Jn;obtain⟨R5,xy⟩:∃U,R4++(BB ck.toNat 8)=U:=⟨_,rfl⟩;rw[xy]at hi9;have Acv:R5.length≤R4.length+8:=Nat.le_of_eq (by(rw[←xy];simp only[List.length_append,Ah,List.length_singleton,List.length_nil,hss]));obtain⟨a9,c9,FQ⟩:=Av hi9.own;have HI:=Aa hi9;have AaS:=Aa xy;subst FQ;clear H7 Jn hi9 xy))
        clear x0 x1 x2 x3 x4;obtain⟨x0,x1,x2,x3,x4⟩:=xV.out _ _ _ HI.out;go_wp2_with (first
         | (go_at_call 87;(with_reducible refine(HI.out.num (sh) 4 4 rfl (by omega) (by omega) (by omega)).mono ?_);rintro e w9 ⟨v9,rfl,LW,hi9⟩;obtain⟨a9,c9,FQ⟩:=LW.len;have HI:=Aa hi9;have HS:=Aa LW;clear hi9 LW;subst FQ)
         | (at_builtin;refine AY MK rfl _ _ rfl (bO+1) _ _ _ rfl HI.out.own _ (BB sh.toNat 4) (Ei _) (E5 _) rfl HS.out (by simp only[List.length_append,Ah,List.length_singleton,List.length_nil,hss];omega) HI.out.lt ?_;intro v9 W9 H7 Jn _;have hi9:=HI.out.pQ H7 Jn;obtain⟨R6,xx⟩:∃U,R5++(BB sh.toNat 4)=U:=⟨_,rfl⟩;rw[xx]at hi9;have Acu:R6.length≤R5.length+4:=Nat.le_of_eq (by(rw[←xx];simp only[List.length_append,Ah,List.length_singleton,List.length_nil,hss]));obtain⟨a9,c9,FQ⟩:=Av hi9.own;have HI:=Aa hi9;have AaR:=Aa xx;subst FQ;clear H7 Jn hi9 xx))
        have HR6:Hid (R6=P2++(es.take (k+1)).flatMap GD):=Aa (by rw[X6.out,←HEY.out,←AaR.out,←AaS.out,←AaT.out,←AbU.out,←AbV.out,←AbW.out];simp only[List.append_assoc]);go_roundw
        case rel=>exact⟨k+1,by omega,by first|rfl|go_num,by rw[←HR6.out];exact HI.out⟩
        case measure=>simp[intOf];omega
       | false =>
        have HFB:Hid (((0:Int))=((UInt8.ofNat (DI false)).toNat:Int)):=Aa (by decide);rw[XH]at HEY;go_upto_region 19 with(at_builtin;refine AY MK rfl _ _ rfl (bO+1) _ _ _ rfl (HI.out.al _).own _ ([UInt8.ofNat (DI false)]) (Ei _) (E5 _) rfl (one_byte _ _ _ HFB.out) (by simp only[List.length_append,Ah,List.length_singleton,List.length_nil,hss];omega) (HI.out.al _).lt ?_;intro v9 W9 H7 Jn _;have hi9:=(HI.out.al _).pQ H7 Jn;obtain⟨R4,xz⟩:∃U,R3++([UInt8.ofNat (DI false)])=U:=⟨_,rfl⟩;rw[xz]at hi9;have Acw:R4.length≤R3.length+1:=Nat.le_of_eq (by(rw[←xz];simp only[List.length_append,Ah,List.length_singleton,List.length_nil,hss]));obtain⟨a9,c9,FQ⟩:=Av hi9.own;have HI:=Aa hi9;have AaT:=Aa xz;subst FQ;clear H7 Jn hi9 xz);clear x0 x1 x2 x3 x4;obtain⟨x0,x1,x2,x3,x4⟩:=xV.out _ _ _ HI.out;go_upto_region 20 with(first
         | (go_at_call 87;(with_reducible refine(HI.out.num (ck) 8 8 rfl (by omega) (by omega) (by omega)).mono ?_);rintro e w9 ⟨v9,rfl,LW,hi9⟩;obtain⟨a9,c9,FQ⟩:=LW.len;have HI:=Aa hi9;have HS:=Aa LW;clear hi9 LW;subst FQ)
         | (at_builtin;refine AY MK rfl _ _ rfl (bO+1) _ _ _ rfl HI.out.own _ (BB ck.toNat 8) (Ei _) (E5 _) rfl HS.out (by simp only[List.length_append,Ah,List.length_singleton,List.length_nil,hss];omega) HI.out.lt ?_;intro v9 W9 H7 Jn _;have hi9:=HI.out.pQ H7 Jn;obtain⟨R5,xy⟩:∃U,R4++(BB ck.toNat 8)=U:=⟨_,rfl⟩;rw[xy]at hi9;have Acv:R5.length≤R4.length+8:=Nat.le_of_eq (by(rw[←xy];simp only[List.length_append,Ah,List.length_singleton,List.length_nil,hss]));obtain⟨a9,c9,FQ⟩:=Av hi9.own;have HI:=Aa hi9;have AaS:=Aa xy;subst FQ;clear H7 Jn hi9 xy))
        clear x0 x1 x2 x3 x4;obtain⟨x0,x1,x2,x3,x4⟩:=xV.out _ _ _ HI.out;go_wp2_with (first
         | (go_at_call 87;(with_reducible refine(HI.out.num (sh) 4 4 rfl (by omega) (by omega) (by omega)).mono ?_);rintro e w9 ⟨v9,rfl,LW,hi9⟩;obtain⟨a9,c9,FQ⟩:=LW.len;have HI:=Aa hi9;have HS:=Aa LW;clear hi9 LW;subst FQ)
         | (at_builtin;refine AY MK rfl _ _ rfl (bO+1) _ _ _ rfl HI.out.own _ (BB sh.toNat 4) (Ei _) (E5 _) rfl HS.out (by simp only[List.length_append,Ah,List.length_singleton,List.length_nil,hss];omega) HI.out.lt ?_;intro v9 W9 H7 Jn _;have hi9:=HI.out.pQ H7 Jn;obtain⟨R6,xx⟩:∃U,R5++(BB sh.toNat 4)=U:=⟨_,rfl⟩;rw[xx]at hi9;have Acu:R6.length≤R5.length+4:=Nat.le_of_eq (by(rw[←xx];simp only[List.length_append,Ah,List.length_singleton,List.length_nil,hss]));obtain⟨a9,c9,FQ⟩:=Av hi9.own;have HI:=Aa hi9;have AaR:=Aa xx;subst FQ;clear H7 Jn hi9 xx))
        have HR6:Hid (R6=P2++(es.take (k+1)).flatMap GD):=Aa (by rw[X6.out,←HEY.out,←AaR.out,←AaS.out,←AaT.out,←AbU.out,←AbV.out,←AbW.out];simp only[List.append_assoc]);go_roundw
        case rel=>exact⟨k+1,by omega,by first|rfl|go_num,by rw[←HR6.out];exact HI.out⟩
        case measure=>simp[intOf];omega
     · have hkz:¬(k:Int)<(m:Int):=by omega
       have HA:Hid (es.take k=es):=Aa (CV (by rw[HM.out];omega));have hRD:R=BB nx.toNat 8++BB n 2++((AU l).take (i+1)).flatMap CB:=by
        rw[←hR,HA.out,←XT.out,Ch,Ch,HDB.out]
       have HIN:Hid (Hw w bO (.slice ar nl cr) nx (.slice (some ⟨g,off,none⟩) n c2) (AR l) bg [] (BB nx.toNat 8++BB n 2++((AU l).take (i+1)).flatMap CB) (.slice a5 R.length c5) wr):=Aa (by
        rw[←hRD];exact⟨HI.out.d,HI.out.ds,FV _ _ _ _,HI.out.own,HI.out.b,HI.out.lt⟩)
       clear hRD;go_wp2;go_roundw
       case rel=>exact⟨i+1,by omega,by first|rfl|go_num,HIN.out⟩
       case measure=>simp[intOf];omega
  · have hiz:¬(i:Int)<(n:Int):=by omega
    have HA:Hid ((AU l).take i=AU l):=Aa (CV (by unfold AU;rw[DW,HN.out];omega));have hfin:P=L:=by
     rw[←hP,HA.out,←HL.out];simp only[List.append_assoc]
    subst hfin;have hL0:P≠[]:=by
     intro e;have:=Gu List.length HL.out;rw[e]at this;simp only[List.length_append,Ah,List.length_nil]at this;omega
    obtain⟨g9,Je,FQ⟩:=jA HI.out.own hL0;injection FQ with FQ _ Acf;subst FQ;subst Acf;have hcv:=jy HI.out.own rfl;clear hL0;generalize P.length=n9 at *;go_wp2;go_ret;exact⟨rfl,by first|exact HI.out.b|(rw[HBO.out];exact HI.out.b)⟩
end Go.Proofs.YtdmkhmeaphaapaaGreat
namespace Go.Proofs.YtdmkhmeaphaapaaGreat
open Go.RowKit Go.Sort
end Go.Proofs.YtdmkhmeaphaapaaGreat
