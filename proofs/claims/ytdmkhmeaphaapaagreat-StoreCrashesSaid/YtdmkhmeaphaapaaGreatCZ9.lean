/- Kit. -/
import Derived.Test.YtdmkhmeaphaapaaGreatCZ3
import Derived.Deep.MidRow
import Derived.Test.YtdmkhmeaphaapaaGreatCZ0
import Derived.Test.YtdmkhmeaphaapaaGreatCZ7
set_option maxRecDepth 100000
set_option linter.unusedVariables false
set_option linter.unusedSimpArgs false
namespace Go.Proofs.YtdmkhmeaphaapaaGreat
open Go.RowKit Go.Sort
def yA (m:Nat)(M:List Bool)(x:Int):List Bool:=if 1≤x∧x≤(m:Int) then M.set x.toNat true else M
def FP (m:Nat)(l:List Int):List Bool:=l.foldl (yA m) (List.replicate 201 false)
theorem bA (m:Nat)(l:List Int)(x:Int):FP m (l++[x])=if 1≤x∧x≤(m:Int) then(FP m l).set x.toNat true else FP m l:=by
 unfold FP;rw[List.foldl_append];rfl
theorem fV (m:Nat)(M:List Bool)(x:Int):(yA m M x).length=M.length:=by
 unfold yA;split
 · rw[List.length_set]
 · rfl
theorem YJ (m:Nat):∀(l:List Int) (M:List Bool),(l.foldl (yA m) M).length=M.length
 | [],M=>rfl
 | x::l,M=>(YJ m l (yA m M x)).trans (fV m M x)
theorem Qa (m:Nat)(l:List Int):(FP m l).length=201:=by
 unfold FP;rw[YJ,JX]
def Mm (x:Int):Nat:=(min (max x 0) 200).toNat
theorem bz (x:Int):(x≤0∧Mm x=0)∨(200≤x∧Mm x=200)∨(0<x∧x<200∧(Mm x:Int)=x):=by
 unfold Mm;omega
theorem pJ (x:Int):Mm x≤200:=by
 unfold Mm;omega
theorem iT {l:List Int}{k:Nat}(h:k<l.length):l.take (k+1)=l.take k++[l.getD k 0]:=by
 rw[List.take_add_one];simp[List.getD_eq_getElem?_getD,List.getElem?_eq_getElem h]
structure XK (m:Nat)(row:List Bool)(u:Nat):Prop where
 le:u≤m
 out:∀n:Nat,row[n]?=some true→1≤n∧n≤u
 top:u=0∨row[u]?=some true
theorem XK.nil (m:Nat):XK m (FP m []) 0:=by
 refine⟨by omega,fun n h=>?_,Or.inl rfl⟩;have:(List.replicate 201 false)[n]?=some true:=h;rw[List.getElem?_replicate]at this;split at this
 · cases this
 · cases this
theorem XK.step {m u i:Nat}{row:List Bool}(h:XK m row u)(h1:1≤i)(h2:i≤m)(hl:row.length=201)(hm:m≤200):XK m (row.set i true) (max u i):=by
 refine⟨?_,fun n hn=>?_,?_⟩
 · have:=h.le;omega
 · by_cases e:i=n
   · subst e;omega
   · rw[Jr e]at hn;have:=h.out n hn;omega
 · by_cases e:u≤i
   · rw[Nat.max_eq_right e,List.getElem?_set_self (by omega)];exact Or.inr rfl
   · rw[Nat.max_eq_left (by omega),Jr (by omega)];exact h.top
structure KV (row:List Bool)(n:Nat)(ys:List Int):Prop where
 nd:ys.Nodup
 mem:∀y:Int,y∈ys↔(1≤y∧y<(n:Int)∧row[y.toNat]?=some false)
 heap:Ed ys.length ys
theorem KV.nil (row:List Bool):KV row 1 []:=⟨List.nodup_nil,fun y=>⟨fun h=>(by cases h),fun h=>absurd h.2.1 (by omega)⟩,Y5⟩
theorem KV.skip {row:List Bool}{n:Nat}{ys:List Int}(h:KV row n ys)(hn:row[n]?=some true):KV row (n+1) ys:=by
 refine⟨h.nd,fun y=>?_,h.heap⟩;rw[h.mem y];constructor
 · rintro⟨a,b,c⟩;exact⟨a,by omega,c⟩
 · rintro⟨a,b,c⟩;refine⟨a,?_,c⟩;by_cases e:y=n
   · subst e;rw[DY,hn]at c;cases c
   · omega
theorem KV.add {row:List Bool}{n:Nat}{ys zs:List Int}(h:KV row n ys)(h1:1≤n)(hn:row[n]?=some false)(hp:zs.Perm ((n:Int)::ys))(hz:Ed zs.length zs):KV row (n+1) zs:=by
 refine⟨hp.nodup_iff.2 (List.nodup_cons.2 ⟨fun hm=>absurd ((h.mem _).1 hm).2.1 (by omega),h.nd⟩),fun y=>?_,hz⟩;rw[hp.mem_iff,Em,h.mem y];constructor
 · rintro(rfl|⟨a,b,c⟩)
   · exact⟨by omega,by omega,by rw[DY];exact hn⟩
   · exact⟨a,by omega,c⟩
 · rintro⟨a,b,c⟩;by_cases e:y=n
   · exact Or.inl e
   · exact Or.inr ⟨a,by omega,c⟩
theorem KV.len {row:List Bool}{n:Nat}{ys:List Int}(h:KV row n ys)(hn:n≤201):ys.length≤200:=by
 have:=Ql (m:=200) (u:=200) (Ae _) (Ae _) ys h.nd (fun y hy=>by
  have:=(h.mem y).1 hy;omega)
 omega
theorem jO {m u n:Nat}{row:List Bool}{ys:List Int}(ht:XK m row u)(hw:KV row n ys)(hm:m≤200)(hl:row.length=201)(h1:1≤n)(h2:n≤u∨n=1)(h3:u≤n):Fv m u ys∧row=Bc u ys:=by
 refine⟨⟨ht.le,hm,hw.nd,fun y hy=>?_,hw.heap⟩,?_⟩
 · have:=(hw.mem y).1 hy;omega
 · apply List.ext_getElem?;intro k;by_cases hk:k≤200
   · rw[Ia _ _ hk];obtain⟨x,hx⟩:∃x,row[k]?=some x:=⟨_,Co (by omega)⟩;rw[hx];congr 1;unfold Gx;cases x with
     | true =>
      have:=ht.out k hx;symm;rw[LU];refine⟨by omega,by omega,fun hm=>?_⟩;have:=((hw.mem _).1 hm).2.2;rw[DY,hx]at this;cases this
     | false =>
      symm;rw[decide_eq_false_iff_not];rintro⟨a,b,c⟩;apply c;rw[hw.mem];refine⟨by omega,?_,by rw[DY];exact hx⟩;by_cases e:k=u
      · subst e;rcases ht.top with h|h
        · omega
        · rw[hx]at h;cases h
      · omega
   · rw[List.getElem?_eq_none (by omega),List.getElem?_eq_none (by rw[Gw];omega)]
def K7:Array Value:=boolRow (List.replicate 201 false)
theorem RQ (W:World):(zeroValue 243).run Tryz.prog W=.ok (.agg K7) W:=(zero_of_info (P:=Tryz.prog) (t:=243) (v:=.agg K7) (n:=201) (by kernel_rfl)).1 W
def Ke (m:Nat)(l:List Bool)(w:World)(e:Ending)(w':World):Prop:=∃b v,e=.returned (.pointer (some ⟨b,0,none⟩))∧w.heap.size≤b∧Dr w none m b w' v l
set_option maxHeartbeats 4000000 in
theorem fT (most:Int)(v:Value)(l:List Int)(w:World)(hv:CQ w v l)(hl:l.length≤300) :
 Calls Tryz.prog 114 #[.int .i64 most,v] w (Ke (Mm most) (FP (Mm most) l) w):=by
 unfold Ke;have hzb:=RQ;have HMC:Hid (min (max most 0) 200=(Mm most:Int)):=Aa (by rcases bz most with h|h|h<;>omega);have hmn:=pJ most;obtain⟨M,hM⟩:∃M,Mm most=M:=⟨_,rfl⟩;rw[hM]at hmn HMC ⊢;obtain⟨a,cap,rfl⟩:=hv.len;have HV:=Aa hv;obtain⟨n,hn⟩:∃n,l.length=n:=⟨_,rfl⟩;have HN:=Aa hn;rw[hn]at hl ⊢;have s1:(w.alloc (.cells #[.int .i64 (min (max most 0) 200),.int .i64 0,.slice none 0 0] 94)).heap.size=w.heap.size+1:=by simp
 have HP:Hid (((w.alloc (.cells #[.int .i64 (min (max most 0) 200),.int .i64 0,.slice none 0 0] 94)).alloc (.cells K7 243)).heap[w.heap.size]?=some (.cells (O0 M 0 (.slice none 0 0)) 94 (0,0))):=Aa (by
  rw[Ct _ _ _ (by rw[s1];omega),HMC.out];exact Ai _ _)
 have HQ:Hid (((w.alloc (.cells #[.int .i64 (min (max most 0) 200),.int .i64 0,.slice none 0 0] 94)).alloc (.cells K7 243)).heap[w.heap.size+1]?=some (.cells (boolRow (FP M [])) 243 (0,0))):=Aa (by
  rw[←s1];exact Ai _ _)
 have HB:Hid (Below w.heap.size w ((w.alloc (.cells #[.int .i64 (min (max most 0) 200),.int .i64 0,.slice none 0 0] 94)).alloc (.cells K7 243))):=Aa (((Ad _ w).alloc (Ae _) _).alloc (by rw[s1];omega) _);clear hv hn hM s1;go_enter Tryz.func114,Tryz.ntmps114;go_upto_region 3 with fail;generalize (w.alloc (.cells #[.int .i64 (min (max most 0) 200),.int .i64 0,.slice none 0 0] 94)).alloc (.cells K7 243)=W2 at *;generalize hb1:w.heap.size=b1 at *;have PN:=Aa hb1;clear hb1 hzb;go_wp2;go_loopw [17] (fun iv wr=>∃k u:Nat,k≤n∧iv=.int .i64 k∧XK M (FP M (l.take k)) u∧wr.heap[b1]?=some (.cells (O0 M u (.slice none 0 0)) 94 (0,0))∧wr.heap[b1+1]?=some (.cells (boolRow (FP M (l.take k))) 243 (0,0))∧Below b1 w wr) (fun iv _=>n-(intOf iv).toNat)
 case atStart=>exact⟨0,0,by omega,rfl,XK.nil M,HP.out,HQ.out,HB.out⟩
 case round =>
  obtain⟨k,u,hk,rfl,ht,hp,hq,hb⟩:=hrel;clear HP HQ HB;have HP:=Aa hp;have HQ:=Aa hq;have HB:=Aa hb;have HT:=Aa ht;have hML:=Qa M (l.take k);have uw:=Aa hML;have Ac4:u≤200:=by have:=ht.le;omega
  clear hp hq hb ht;by_cases hkn:k<n
  · have hkz:(k:Int)<(n:Int):=by omega
    obtain⟨g,off,rfl,hg,hc1⟩:=HV.out.at (j:=k) (by rw[HN.out];exact hkn);have c1:wr.cell? ⟨g,off+k,none⟩=some (.int .i64 (l.getD k 0)):=by rw[HB.out.cell (p:=⟨g,off+k,none⟩) (by rw[←PN.out];exact hg)];exact hc1
    have c2:wr.cell? ⟨b1,0,none⟩=some (.int .i64 (M:Int)):=Ap HP.out 0;have UT:Hid (l.take (k+1)=l.take k++[l.getD k 0]):=Aa (iT (by rw[HN.out];exact hkn));have HS:=Aa (bA M (l.take k) (l.getD k 0));clear hc1;generalize l.getD k 0=x at *;by_cases hx1:1≤x
    · by_cases hx2:x≤(M:Int)
      · obtain⟨i,rfl⟩:∃i:Nat,x=i:=⟨x.toNat,by omega⟩;have HM:Hid (FP M (l.take (k+1))=(FP M (l.take k)).set i true):=Aa (by rw[UT.out,HS.out,if_pos ⟨hx1,hx2⟩];rfl);obtain⟨t,ht⟩:∃t,(FP M (l.take k))[i]?=some t:=⟨_,Co (by omega)⟩;have c3:wr.cell? ⟨b1+1,i,none⟩=some (.bool t):=by rw[AB _ _ _ _ _ _ HQ.out];exact Kb ht
        have f3:wr.frozen? ⟨b1+1,i,none⟩=false:=BA HQ.out _;have Ac7:(i:Int)<201:=by omega
        have hi0:0≤(i:Int):=by omega
        have HMX:Hid (max (u:Int) (i:Int)=((max u i:Nat):Int)):=Aa (by omega);have c4:(wr.setCell ⟨b1+1,i,none⟩ (.bool true)).cell? ⟨b1,1,none⟩=some (.int .i64 (u:Int)):=by
         rw[Fj (w:=wr) (Bw _ _ _ _ (by show b1≠b1+1;omega))];exact Ap HP.out 1
        have hPs:(wr.setCell ⟨b1+1,i,none⟩ (.bool true)).heap[b1]?=some (.cells (O0 M u (.slice none 0 0)) 94 (0,0)):=by
         rw[Bw _ _ _ _ (by show b1≠b1+1;omega)];exact HP.out
        have f4:(wr.setCell ⟨b1+1,i,none⟩ (.bool true)).frozen? ⟨b1,1,none⟩=false:=BA hPs 1;have XT:Hid (((wr.setCell ⟨b1+1,i,none⟩ (.bool true)).setCell ⟨b1,1,none⟩ (.int .i64 (max (u:Int) (i:Int)))).heap[b1]?=some (.cells (O0 M (max u i) (.slice none 0 0)) 94 (0,0))):=Aa (by
         rw[HMX.out,Bn _ b1 1 _ _ _ hPs];rfl)
        have Kh:Hid (((wr.setCell ⟨b1+1,i,none⟩ (.bool true)).setCell ⟨b1,1,none⟩ (.int .i64 (max (u:Int) (i:Int)))).heap[b1+1]?=some (.cells (boolRow (FP M (l.take (k+1)))) 243 (0,0))):=Aa (by
         rw[Bw _ _ _ _ (by show b1+1≠b1;omega),Bn _ (b1+1) i _ _ _ HQ.out,QY,HM.out])
        have HB2:Hid (Below b1 w ((wr.setCell ⟨b1+1,i,none⟩ (.bool true)).setCell ⟨b1,1,none⟩ (.int .i64 (max (u:Int) (i:Int))))):=Aa ((HB.out.setCell (p:=⟨b1+1,i,none⟩) (by show b1≤b1+1;omega) _).setCell (p:=⟨b1,1,none⟩) (Ae _) _);have HT2:Hid (XK M (FP M (l.take (k+1))) (max u i)):=Aa (by rw[HM.out];exact HT.out.step (by omega) (by omega) uw.out (by omega));clear ht hML hPs;go_wp2;go_roundw
        case rel=>exact⟨k+1,max u i,by omega,by first|rfl|go_num,HT2.out,XT.out,Kh.out,HB2.out⟩
        case measure=>simp[intOf];omega
      · have HM:Hid (FP M (l.take (k+1))=FP M (l.take k)):=Aa (by rw[UT.out,HS.out,if_neg (by omega)]);clear hML;go_wp2;go_roundw
        case rel=>exact⟨k+1,u,by omega,by first|rfl|go_num,by rw[HM.out];exact HT.out,HP.out,by rw[HM.out];exact HQ.out,HB.out⟩
        case measure=>simp[intOf];omega
    · have HM:Hid (FP M (l.take (k+1))=FP M (l.take k)):=Aa (by rw[UT.out,HS.out,if_neg (by omega)]);clear hML;go_wp2;go_roundw
      case rel=>exact⟨k+1,u,by omega,by first|rfl|go_num,by rw[HM.out];exact HT.out,HP.out,by rw[HM.out];exact HQ.out,HB.out⟩
      case measure=>simp[intOf];omega
  · have hge:¬((k:Int)<(n:Int)):=by omega
    have dY:Hid (l.take k=l):=Aa (CV (by rw[HN.out];omega));rw[dY.out]at HT HQ uw;clear hML;generalize hR:FP M l=row at *;have HR:=Aa hR;clear hR;go_wp2;generalize hW3:wr=W3 at *;clear hW3;go_loopw [9] (fun iv wr=>∃(q:Nat) (v:Value) (ys:List Int),iv=.int .i64 q∧1≤q∧(q≤u∨q=1)∧KV row q ys∧EE W3 none M u b1 wr v ys) (fun iv _=>u+1-(intOf iv).toNat)
    case atStart=>exact⟨1,_,[],rfl,by omega,Or.inr rfl,KV.nil row,⟨HP.out,⟨rfl,Or.inl ⟨rfl,rfl⟩⟩,fun k hk=>(by cases hk),GX.refl _ _ _⟩⟩
    case round =>
     obtain⟨q,vq,ys,rfl,hq1,hq2,hw,hbx⟩:=hrel;have HW:=Aa hw;have JV:=Aa hbx;obtain⟨c1,f1⟩:=hbx.cell1;by_cases hqu:q<u
     · have hqz:(q:Int)<(u:Int):=by omega
       have Ac5:(q:Int)<201:=by omega
       obtain⟨t,ht⟩:∃t,row[q]?=some t:=⟨_,Co (by rw[uw.out];omega)⟩;have Z7:=Aa ht;have wX:wr.heap[b1+1]?=some (.cells (boolRow row) 243 (0,0)):=by
        rw[hbx.keep.block (b1+1) (Ab HQ.out) (by omega) (by simp)];exact HQ.out
       have c3:wr.cell? ⟨b1+1,q,none⟩=some (.bool t):=by rw[AB _ _ _ _ _ _ wX];exact Kb ht
       have cA:=tH W3 none M u b1 vq ys q wr hbx hw.heap (by have:=hw.len (by omega);omega);unfold PS at cA;clear ht wX hw hbx;cases t with
       | true =>
        clear cA;go_wp2;go_roundw
        case rel=>exact⟨q+1,vq,ys,by first|rfl|go_num,by omega,Or.inl (by omega),HW.out.skip Z7.out,JV.out⟩
        case measure=>simp[intOf];omega
       | false =>
        go_wp2_with fail;refine cA.mono ?_;rintro e w5 ⟨rfl,v5,ys5,yH,hh5,hb5⟩;have X5:=Aa (HW.out.add hq1 Z7.out yH hh5);have I4:=Aa hb5;clear cA yH hh5 hb5;go_wp2;go_roundw
        case rel=>exact⟨q+1,v5,ys5,by first|rfl|go_num,by omega,Or.inl (by omega),X5.out,I4.out⟩
        case measure=>simp[intOf];omega
     · have hqz:¬((q:Int)<(u:Int)):=by omega
       have HE:Hid (Dr w none M b1 wr vq row):=Aa (by
        obtain⟨h1,h2⟩:=jO HT.out hw (by omega) uw.out hq1 hq2 (by omega);exact Dr.since (w0:=W3) ⟨u,ys,hbx,h1,h2⟩ (by rw[PN.out];exact HB.out) (by rw[PN.out];exact Ae _) (fun k hk=>(by cases hk)))
       clear hw hbx;go_wp2;go_ret;exact⟨b1,rfl,by rw[PN.out];exact Ae _,vq,by rw[HR.out];exact HE.out⟩
def loopGo (l:List Az)(x:Int):Nat→Int→Bool
 | 0,_=>false
 | k+1,n=>if n<0 then false else if n=x then true else loopGo l x k (EH l n)
def D5 (l:List Az)(nx d:Int)(s:ByteArray)(dt:Int)(ns:ByteArray)(sh:Int):(List Az×Int)×Int:=
 if(BK l d s).2≠0 then((l,nx),(BK l d s).2)
 else if A9 l dt≠0 then((l,nx),A9 l dt)
 else if Ec ns sh≠0 then((l,nx),Ec ns sh)
 else if loopGo l (BK l d s).1.node 300 dt=true then((l,nx),10)
 else if(BK l dt ns).2=0 then((l,nx),6)
 else((Dq (Bu l d s) nx dt ⟨ns,(BK l d s).1.node,(BK l d s).1.dir,0,sh⟩,nx+1),0)
set_option maxHeartbeats 8000000 in
theorem pI (v:Value)(l:List Az)(nx d:Int)(s:ByteArray)(dt:Int)(ns:ByteArray)(sh:Int)(w:World)(hv:Bi w v l)(hl:l.length≤999)(hs:ns.size≤9223372036854775807)(hnx:nx+1≤9223372036854775807)(Xo:0≤nx) :
 Calls Tryz.prog 86 #[Bq v nx,.int .i64 d,.string s,.int .i64 dt,.string ns,.int .i64 sh] w (Qo (D5 l nx d s dt ns sh) w):=by
 unfold Qo;obtain⟨R,hR⟩:∃R,D5 l nx d s dt ns sh=R:=⟨_,rfl⟩;rw[hR];unfold D5 at hR;have HRR:=Aa hR;obtain⟨a,cap,rfl⟩:=hv.1.len;have cF:=fun W (h:Bi W (.slice a l.length cap) l)=>Pm (.slice a l.length cap) l nx d s W h.1 (by omega)
 have yQ:=fun W (h:Bi W (.slice a l.length cap) l)=>Pm (.slice a l.length cap) l nx dt ns W h.1 (by omega)
 have cL:=fun W (h:Bi W (.slice a l.length cap) l)=>O9 (.slice a l.length cap) l nx dt W h.1 (by omega)
 have cU:=fun n W (h:Bi W (.slice a l.length cap) l)=>lV (.slice a l.length cap) l nx n W h.1 (by omega)
 have cD:=fun W (h:Bi W (.slice a l.length cap) l)=>Zt (.slice a l.length cap) l nx d s W h.1 (by omega)
 have cB:=fun W=>il ns hs sh W
 have HDL:Hid ((Bu l d s).length≤1000):=Aa (by have:=Zr l d s;omega);obtain⟨m,hm⟩:∃m,l.length=m:=⟨_,rfl⟩;have HM:=Aa hm;simp only[hm]at cF yQ cL cU cD;rw[hm]at hv hl ⊢;have ZZ:=Aa (cZ w _ nx l hv);unfold Bq at cF yQ cL cU cD ⊢;clear hv hm hR;go_enter Tryz.func86,Tryz.ntmps86;go_upto_region 1 with fail;generalize (w.alloc (.cells #[.slice a m cap,.int .i64 nx] 31)).alloc (.cells #[.slice none 0 0,.int .i64 0] 31)=W0 at *;generalize Tw:w.heap.size=bT at *;have Wn:=Aa Tw;clear Tw;have lH:=cF W0 ZZ.out.i;unfold K6 Di at lH;obtain⟨t0,t1,r0,r1,f0,f1⟩:=ZZ.out.cells;generalize hFI:BK l d s=F at *;clear hFI;obtain⟨⟨nm,nd,dr,ck,sk⟩,FE⟩:=F;simp only at lH HRR;go_upto_region 2 with(go_at_call 123;refine lH.mono ?_;rintro e w1 ⟨rfl,hb1⟩;have UD:=Aa (ZZ.out.below hb1);clear hb1);clear cF lH ZZ t0 t1 r0 r1 f0 f1;have LQ:Hid (Fr w bT (.slice a m cap) nx l (w1.alloc (.cells #[.string nm,.int .i64 nd,.bool dr,.int .i64 ck,.int .i64 sk] 112))):=Aa (UD.out.below ((Ad _ w1).alloc (Ae _) _));have HEB:Hid ((w1.alloc (.cells #[.string nm,.int .i64 nd,.bool dr,.int .i64 ck,.int .i64 sk] 112)).heap[w1.heap.size]?=some (.cells #[.string nm,.int .i64 nd,.bool dr,.int .i64 ck,.int .i64 sk] 112 (0,0))):=Aa (Ai _ _);generalize w1.alloc (.cells #[.string nm,.int .i64 nd,.bool dr,.int .i64 ck,.int .i64 sk] 112)=W2 at *;generalize w1.heap.size=bX at *;clear UD;have HXB:Hid (bX≠bT+1):=Aa (fun e=>by subst e;exact Ci HEB.out LQ.out.r (by decide) rfl);obtain⟨t0,t1,r0,r1,f0,f1⟩:=LQ.out.cells;obtain⟨⟨x0,x1,x2,x3,x4⟩,_⟩:=Aj HEB.out;have HEX:Hid (∀W:World,Below W2.heap.size W2 W→(W.cell? ⟨bX,1,none⟩=some (.int .i64 nd)∧W.cell? ⟨bX,2,none⟩=some (.bool dr))):=Aa (fun W hW=>by
  have h:=(hW.block _ (Ab HEB.out)).trans HEB.out;exact⟨(Aj h).1.2.1,(Aj h).1.2.2.1⟩)
 by_cases Xt:FE=0
 · have HR1:Hid ((if A9 l dt≠0 then((l,nx),A9 l dt) else if Ec ns sh≠0 then((l,nx),Ec ns sh) else if loopGo l nd 300 dt=true then((l,nx),10) else if(BK l dt ns).2=0 then((l,nx),6) else((Dq (Bu l d s) nx dt ⟨ns,nd,dr,0,sh⟩,nx+1),0))=R):=Aa (by rw[←HRR.out,if_neg (show ¬FE≠0 by rw[Xt];simp)]);subst Xt;clear HRR;have ZB:=cL W2 LQ.out.i;unfold PL at ZB;go_upto_region 5 with(go_at_call 69;refine ZB.mono ?_;rintro e w3 ⟨lv,rfl,hlv,hb3⟩;have Ex:=Aa (LQ.out.below hb3);have UW:=Aa hb3;clear hlv hb3);clear cL ZB LQ t0 t1 r0 r1 f0 f1 x0 x1 x2 x3 x4;obtain⟨t0,t1,r0,r1,f0,f1⟩:=Ex.out.cells;obtain⟨x1,x2⟩:=HEX.out _ UW.out;have Xq:A9 l dt=0∨A9 l dt≠0:=Decidable.em _;rcases Xq with Xq|Xq
   · have HR2:Hid ((if Ec ns sh≠0 then((l,nx),Ec ns sh) else if loopGo l nd 300 dt=true then((l,nx),10) else if(BK l dt ns).2=0 then((l,nx),6) else((Dq (Bu l d s) nx dt ⟨ns,nd,dr,0,sh⟩,nx+1),0))=R):=Aa (by rw[←HR1.out,if_neg (show ¬A9 l dt≠0 by rw[Xq];simp)]);clear HR1;rw[Xq];have cB1:=cB w3;have TB:Ec ns sh=0∨Ec ns sh≠0:=Decidable.em _;rcases TB with TB|TB
     · have HR3:Hid ((if loopGo l nd 300 dt=true then((l,nx),(10:Int)) else if(BK l dt ns).2=0 then((l,nx),6) else((Dq (Bu l d s) nx dt ⟨ns,nd,dr,0,sh⟩,nx+1),0))=R):=Aa (by rw[←HR2.out,if_neg (show ¬Ec ns sh≠0 by rw[TB];simp)]);rw[TB]at cB1;clear HR2 TB Xq;go_upto_region 9 with(go_at_call 122;refine cB1.mono ?_;rintro e w4 ⟨rfl,rfl⟩);clear cB1;go_wp2;go_loopw [16,17] (fun nv iv wr=>∃(n:Int) (i:Nat),i≤300∧nv=.int .i64 n∧iv=.int .i64 i∧loopGo l nd (300-i) n=loopGo l nd 300 dt∧Fr w bT (.slice a m cap) nx l wr∧Below W2.heap.size W2 wr) (fun _ iv _=>300-(intOf iv).toNat)
       case atStart=>exact⟨dt,0,by omega,rfl,rfl,rfl,Ex.out,UW.out⟩
       case round =>
        obtain⟨n,i,hi,rfl,rfl,hgo,hfr,hbw⟩:=hrel;clear Ex UW t0 t1 r0 r1 f0 f1 x1 x2;have Ht:=Aa hgo;have Ex:=Aa hfr;have UW:=Aa hbw;obtain⟨t0,t1,r0,r1,f0,f1⟩:=Ex.out.cells;obtain⟨x1,x2⟩:=HEX.out _ UW.out;clear hgo hfr hbw;by_cases hcont:0≤n∧i<300
        · obtain⟨hn0,hi3⟩:=hcont;have hiz:(i:Int)<300:=by omega
          have Adl:decide (0≤n)=true:=A8 hn0;have Adu:decide ((i:Int)<300)=true:=A8 hiz;have HST:Hid (loopGo l nd 300 dt=if n=nd then true else loopGo l nd (300-(i+1)) (EH l n)):=Aa (by
           rw[←Ht.out,show 300-i=(300-(i+1))+1 by omega];show(if n<0 then false else if n=nd then true else loopGo l nd (300-(i+1)) (EH l n))=_
           rw[if_neg (by omega)])
          by_cases hnn:n=nd
          · have KZ:Hid (R=((l,nx),10)):=Aa (by rw[←HR3.out,if_pos (by rw[HST.out,if_pos hnn])]);subst hnn;clear cU cD cB yQ;obtain⟨hz,hi,hb⟩:=Ex.out.done (nx8:=nx) Ex.out.i Ex.out.own;have HZ:=Aa hz;have HI:=Aa hi;have GN:=Aa hb;clear hz hi hb;go_wp2;refine Bv (v:=.tuple #[Bq (.slice a m cap) (nx),.int .i64 (10)]) ?_ rfl ?_
            · rw[CZ rfl];go_simp;rfl
            · rw[KZ.out];exact⟨_,rfl,HI.out,GN.out⟩
          · have e1:(n==nd)=false:=by rw[Ba];exact hnn
            have HGN:Hid (loopGo l nd (300-(i+1)) (EH l n)=loopGo l nd 300 dt):=Aa (by rw[HST.out,if_neg hnn]);have cU1:=cU n wr Ex.out.i;go_wp2_with (go_at_call 126;refine cU1.mono ?_;rintro e w5 ⟨rfl,hb5⟩;have l7:=Aa (Ex.out.below hb5);have Ac1:=Aa (UW.out.trans (hb5.mono UW.out.size));clear hb5);go_roundw
            case rel=>exact⟨EH l n,i+1,by omega,rfl,by first|rfl|go_num,HGN.out,l7.out,Ac1.out⟩
            case measure=>simp[intOf];omega
        · have HNL:Hid (loopGo l nd 300 dt=false):=Aa (by
           rw[←Ht.out];by_cases hi3:i=300
           · subst hi3;rfl
           · rw[show 300-i=(299-i)+1 by omega];show(if n<0 then false else if n=nd then true else loopGo l nd (299-i) (EH l n))=_
             rw[if_pos (by omega)])
          have HR4:Hid ((if(BK l dt ns).2=0 then((l,nx),(6:Int)) else((Dq (Bu l d s) nx dt ⟨ns,nd,dr,0,sh⟩,nx+1),0))=R):=Aa (by rw[←HR3.out,if_neg (show ¬loopGo l nd 300 dt=true by rw[HNL.out];simp)]);clear HR3;have lH:=yQ wr Ex.out.i;unfold K6 at lH;have hguard:(decide (0≤n)=true∧decide ((i:Int)<300)=false)∨decide (0≤n)=false:=by
           by_cases h:0≤n
           · exact Or.inl ⟨A8 h,Bb (by omega)⟩
           · exact Or.inr (Bb h)
          have hng:(0≤n∧¬(i:Int)<300)∨¬0≤n:=by
           by_cases h:0≤n
           · exact Or.inl ⟨h,by omega⟩
           · exact Or.inr h
          clear hcont Ht;rcases hng with⟨hg1,hg2⟩|hg1
          all_goals
           (try have hg3:=A8 hg1)
           (try have hg4:=Bb hg2)
           (try have hg5:=Bb hg1)
           clear hguard;go_upto_region 16 with(go_at_call 123;refine lH.mono ?_;rintro e w6 ⟨rfl,hb6⟩;have HF6:=Aa (Ex.out.below hb6);have Ac0:=Aa (UW.out.trans (hb6.mono UW.out.size));clear hb6);clear Ex UW t0 t1 r0 r1 f0 f1 x1 x2 lH yQ cU cB;obtain⟨t0,t1,r0,r1,f0,f1⟩:=HF6.out.cells;obtain⟨x1,x2⟩:=HEX.out _ Ac0.out;have hF2:(BK l dt ns).2=0∨(BK l dt ns).2≠0:=Decidable.em _;rcases hF2 with hF2|hF2
           · have KZ:Hid (R=((l,nx),6)):=Aa (by rw[←HR4.out,if_pos hF2]);rw[hF2];clear cD hF2;obtain⟨hz,hi,hb⟩:=HF6.out.done (nx8:=nx) HF6.out.i HF6.out.own;have HZ:=Aa hz;have HI:=Aa hi;have GN:=Aa hb;clear hz hi hb;go_wp2;refine Bv (v:=.tuple #[Bq (.slice a m cap) (nx),.int .i64 (6)]) ?_ rfl ?_
             · rw[CZ rfl];go_simp;rfl
             · rw[KZ.out];exact⟨_,rfl,HI.out,GN.out⟩
           · have KZ:Hid (R=((Dq (Bu l d s) nx dt ⟨ns,nd,dr,0,sh⟩,nx+1),0)):=Aa (by rw[←HR4.out,if_neg hF2]);have hz:((BK l dt ns).2==0)=false:=by rw[Ba];exact hF2
             generalize (BK l dt ns).2=FE2 at *;clear hF2;go_upto_region 18 with fail;have HK:Hid (∀(W:World) (x y:Value),(W.cell? ⟨bT,0,none⟩=some (.slice a m cap)∧W.cell? ⟨bT,1,none⟩=some (.int .i64 nx)∧W.cell? ⟨bX,1,none⟩=some (.int .i64 nd)∧W.cell? ⟨bX,2,none⟩=some (.bool dr))→(((W.setCell ⟨bT+1,0,none⟩ x).setCell ⟨bT+1,1,none⟩ y).cell? ⟨bT,0,none⟩=some (.slice a m cap)∧((W.setCell ⟨bT+1,0,none⟩ x).setCell ⟨bT+1,1,none⟩ y).cell? ⟨bT,1,none⟩=some (.int .i64 nx)∧((W.setCell ⟨bT+1,0,none⟩ x).setCell ⟨bT+1,1,none⟩ y).cell? ⟨bX,1,none⟩=some (.int .i64 nd)∧((W.setCell ⟨bT+1,0,none⟩ x).setCell ⟨bT+1,1,none⟩ y).cell? ⟨bX,2,none⟩=some (.bool dr))):=Aa (fun W x y h=>by
              have e:∀k,k≠bT+1→((W.setCell ⟨bT+1,0,none⟩ x).setCell ⟨bT+1,1,none⟩ y).heap[k]?=W.heap[k]?:=fun k hk=>by rw[Bw _ _ _ _ hk,Bw _ _ _ _ hk]
              exact⟨by rw[Fj (w:=W) (a:=⟨bT,0,none⟩) (e bT (by omega))];exact h.1,by rw[Fj (w:=W) (a:=⟨bT,1,none⟩) (e bT (by omega))];exact h.2.1,by rw[Fj (w:=W) (a:=⟨bX,1,none⟩) (e bX HXB.out)];exact h.2.2.1,by rw[Fj (w:=W) (a:=⟨bX,2,none⟩) (e bX HXB.out)];exact h.2.2.2⟩)
             have uV:Hid (Fr w bT (.slice a m cap) nx l w6.drew):=Aa (HF6.out.below (Ad _ _).drew);have u0:w6.drew.cell? ⟨bT,0,none⟩=some (.slice a m cap):=t0;have u1:w6.drew.cell? ⟨bT,1,none⟩=some (.int .i64 nx):=t1;have u2:w6.drew.cell? ⟨bX,1,none⟩=some (.int .i64 nd):=x1;have u3:w6.drew.cell? ⟨bX,2,none⟩=some (.bool dr):=x2;have v0:w6.drew.cell? ⟨bT+1,0,none⟩=some (.slice none 0 0):=r0;have v1:w6.drew.cell? ⟨bT+1,1,none⟩=some (.int .i64 0):=r1;have g0:w6.drew.frozen? ⟨bT+1,0,none⟩=false:=f0;have g1:w6.drew.frozen? ⟨bT+1,1,none⟩=false:=f1;have cD1:=cD w6.drew uV.out.i;unfold IU Bq at cD1;have HX6:Hid (bX<w6.drew.heap.size):=Aa (World.block_lt_of_cell? w6.drew ⟨bX,1,none⟩ u2);go_region_held3 (fun W=>W.cell? ⟨bT,0,none⟩=some (.slice a m cap)∧W.cell? ⟨bT,1,none⟩=some (.int .i64 nx)∧W.cell? ⟨bX,1,none⟩=some (.int .i64 nd)∧W.cell? ⟨bX,2,none⟩=some (.bool dr)) (first|exact⟨‹_›,‹_›,‹_›,‹_›⟩|exact HK.out _ _ _ ⟨‹_›,‹_›,‹_›,‹_›⟩|assumption|(refine⟨?_,?_,?_,?_⟩<;>assumption)) (first
              | (go_at_call 125;refine cD1.mono ?_;rintro e w8 ⟨v8,rfl,Oz,kr,EK⟩;have uW:=Aa (uV.out.below EK);have k2:w8.cell? ⟨bX,1,none⟩=some (.int .i64 nd):=(EK.cell (p:=⟨bX,1,none⟩) HX6.out).trans u2;have k3:w8.cell? ⟨bX,2,none⟩=some (.bool dr):=(EK.cell (p:=⟨bX,2,none⟩) HX6.out).trans u3;have k0:=uW.out.cells.1;have k1:=uW.out.cells.2.1;have HX8:Hid (bX<w8.heap.size):=Aa (by have:=EK.size;have:=HX6.out;omega);have cP1:=fJ v8 (Bu l d s) nx dt ⟨ns,nd,dr,0,sh⟩ w8 Oz.1 HDL.out hnx Xo;unfold IU Bq Di at cP1;obtain⟨a8,c8,N9⟩:=Oz.1.len;generalize (Bu l d s).length=L8 at N9;subst N9)
              | (go_at_call 124;refine cP1.mono ?_;rintro e w9 ⟨v9,rfl,hi9,AcB,EY⟩;have iy:=Aa (uW.out.below EY);have j2:w9.cell? ⟨bX,1,none⟩=some (.int .i64 nd):=(EY.cell (p:=⟨bX,1,none⟩) HX8.out).trans k2;have j3:w9.cell? ⟨bX,2,none⟩=some (.bool dr):=(EY.cell (p:=⟨bX,2,none⟩) HX8.out).trans k3;obtain⟨j0,j1,l0,l1,o0,o1⟩:=iy.out.cells;obtain⟨hz9,AbA,AbF⟩:=iy.out.done (nx8:=nx+1) hi9 (fun e=>by have h1:=AcB _ e;have h2:=Ab uW.out.r;omega);have HZ:=Aa hz9;have HI:=Aa AbA;have GN:=Aa AbF;obtain⟨a9,c9,FQ⟩:=hi9.1.len;generalize (Dq (Bu l d s) nx dt ⟨ns,nd,dr,0,sh⟩).length=L9 at FQ;subst FQ;clear hz9 AbA AbF))
             all_goals
              go_wp2;refine Bv (v:=.tuple #[Bq (.slice a9 L9 c9) (nx+1),.int .i64 0]) ?_ rfl ?_
              · rw[CZ rfl];go_simp;rfl
              · rw[KZ.out];exact⟨_,rfl,HI.out,GN.out⟩
     · have hz:(Ec ns sh==0)=false:=by rw[Ba];exact TB
       have hz2:(Ec ns sh !=0)=true:=by rw[bne,hz];rfl
       have KZ:Hid (R=((l,nx),Ec ns sh)):=Aa (by rw[←HR2.out,if_pos TB]);generalize Ec ns sh=BE at *;clear Xq TB yQ cU cD;go_upto_region 8 with(go_at_call 122;refine cB1.mono ?_;rintro e w4 ⟨rfl,rfl⟩);have HK:Hid (∀(W:World) (x y:Value),(W.cell? ⟨bT,0,none⟩=some (.slice a m cap)∧W.cell? ⟨bT,1,none⟩=some (.int .i64 nx)∧W.cell? ⟨bX,1,none⟩=some (.int .i64 nd)∧W.cell? ⟨bX,2,none⟩=some (.bool dr))→(((W.setCell ⟨bT+1,0,none⟩ x).setCell ⟨bT+1,1,none⟩ y).cell? ⟨bT,0,none⟩=some (.slice a m cap)∧((W.setCell ⟨bT+1,0,none⟩ x).setCell ⟨bT+1,1,none⟩ y).cell? ⟨bT,1,none⟩=some (.int .i64 nx)∧((W.setCell ⟨bT+1,0,none⟩ x).setCell ⟨bT+1,1,none⟩ y).cell? ⟨bX,1,none⟩=some (.int .i64 nd)∧((W.setCell ⟨bT+1,0,none⟩ x).setCell ⟨bT+1,1,none⟩ y).cell? ⟨bX,2,none⟩=some (.bool dr))):=Aa (fun W x y h=>by
        have e:∀k,k≠bT+1→((W.setCell ⟨bT+1,0,none⟩ x).setCell ⟨bT+1,1,none⟩ y).heap[k]?=W.heap[k]?:=fun k hk=>by rw[Bw _ _ _ _ hk,Bw _ _ _ _ hk]
        exact⟨by rw[Fj (w:=W) (a:=⟨bT,0,none⟩) (e bT (by omega))];exact h.1,by rw[Fj (w:=W) (a:=⟨bT,1,none⟩) (e bT (by omega))];exact h.2.1,by rw[Fj (w:=W) (a:=⟨bX,1,none⟩) (e bX HXB.out)];exact h.2.2.1,by rw[Fj (w:=W) (a:=⟨bX,2,none⟩) (e bX HXB.out)];exact h.2.2.2⟩)
       have uV:Hid (Fr w bT (.slice a m cap) nx l w4.drew):=Aa (Ex.out.below (Ad _ _).drew);have u0:w4.drew.cell? ⟨bT,0,none⟩=some (.slice a m cap):=t0;have u1:w4.drew.cell? ⟨bT,1,none⟩=some (.int .i64 nx):=t1;have u2:w4.drew.cell? ⟨bX,1,none⟩=some (.int .i64 nd):=x1;have u3:w4.drew.cell? ⟨bX,2,none⟩=some (.bool dr):=x2;have v0:w4.drew.cell? ⟨bT+1,0,none⟩=some (.slice none 0 0):=r0;have v1:w4.drew.cell? ⟨bT+1,1,none⟩=some (.int .i64 0):=r1;have g0:w4.drew.frozen? ⟨bT+1,0,none⟩=false:=f0;have g1:w4.drew.frozen? ⟨bT+1,1,none⟩=false:=f1;go_region_held3 (fun W=>W.cell? ⟨bT,0,none⟩=some (.slice a m cap)∧W.cell? ⟨bT,1,none⟩=some (.int .i64 nx)∧W.cell? ⟨bX,1,none⟩=some (.int .i64 nd)∧W.cell? ⟨bX,2,none⟩=some (.bool dr)) (first|exact⟨‹_›,‹_›,‹_›,‹_›⟩|exact HK.out _ _ _ ⟨‹_›,‹_›,‹_›,‹_›⟩|assumption|(refine⟨?_,?_,?_,?_⟩<;>assumption)) ((go_at_call 122;refine(cB _).mono ?_;rintro e w9 ⟨rfl,rfl⟩))
       all_goals
        obtain⟨hz,hi,hb⟩:=uV.out.done (nx8:=nx) uV.out.i uV.out.own;have HZ:=Aa hz;have HI:=Aa hi;have GN:=Aa hb;clear hz hi hb;go_wp2;refine Bv (v:=.tuple #[Bq (.slice a m cap) (nx),.int .i64 (BE)]) ?_ rfl ?_
        · rw[CZ rfl];go_simp;rfl
        · rw[KZ.out];exact⟨_,rfl,HI.out,GN.out⟩
   · have hz:(A9 l dt==0)=false:=by rw[Ba];exact Xq
     have hz2:(A9 l dt !=0)=true:=by rw[bne,hz];rfl
     have KZ:Hid (R=((l,nx),A9 l dt)):=Aa (by rw[←HR1.out,if_pos Xq]);clear yQ cU cD cB;obtain⟨hz,hi,hb⟩:=Ex.out.done (nx8:=nx) Ex.out.i Ex.out.own;have HZ:=Aa hz;have HI:=Aa hi;have GN:=Aa hb;clear hz hi hb;go_wp2;refine Bv (v:=.tuple #[Bq (.slice a m cap) (nx),.int .i64 (A9 l dt)]) ?_ rfl ?_
     · rw[CZ rfl];go_simp;rfl
     · rw[KZ.out];exact⟨_,rfl,HI.out,GN.out⟩
 · have KZ:Hid (R=((l,nx),FE)):=Aa (by rw[←HRR.out,if_pos Xt]);have hz:(FE==0)=false:=by rw[Ba];exact Xt
   have hz2:(FE !=0)=true:=by rw[bne,hz];rfl
   clear yQ cL cU cD cB;obtain⟨hz,hi,hb⟩:=LQ.out.done (nx8:=nx) LQ.out.i LQ.out.own;have HZ:=Aa hz;have HI:=Aa hi;have GN:=Aa hb;clear hz hi hb;go_wp2;refine Bv (v:=.tuple #[Bq (.slice a m cap) (nx),.int .i64 (FE)]) ?_ rfl ?_
   · rw[CZ rfl];go_simp;rfl
   · rw[KZ.out];exact⟨_,rfl,HI.out,GN.out⟩
end Go.Proofs.YtdmkhmeaphaapaaGreat
