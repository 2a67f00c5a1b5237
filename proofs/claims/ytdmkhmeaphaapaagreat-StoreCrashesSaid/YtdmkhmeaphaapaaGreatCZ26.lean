/- Kit. -/
import Derived.Test.YtdmkhmeaphaapaaGreatCZ23
import Derived.Test.YtdmkhmeaphaapaaGreatCZ1
import Derived.Test.YtdmkhmeaphaapaaGreatCZ0
set_option maxRecDepth 100000
set_option linter.unusedVariables false
set_option linter.unusedSimpArgs false
namespace Go.Proofs.YtdmkhmeaphaapaaGreat.V
open Go.RowKit Go.Sort
def Mr (count:Nat)(M:List Bool)(x:Int):List Bool:=if 0≤x∧x<(count:Int) then M.set x.toNat true else M
def marks (count:Nat)(l:List Int):List Bool:=l.foldl (Mr count) (List.replicate count false)
theorem bB (count:Nat)(l:List Int)(x:Int):marks count (l++[x])=if 0≤x∧x<(count:Int) then(marks count l).set x.toNat true else marks count l:=by
 unfold marks;rw[List.foldl_append];rfl
theorem Vy (count:Nat)(M:List Bool)(x:Int):(Mr count M x).length=M.length:=by
 unfold Mr;split
 · rw[List.length_set]
 · rfl
theorem Td (count:Nat):∀(l:List Int) (M:List Bool),(l.foldl (Mr count) M).length=M.length
 | [],M=>rfl
 | x::l,M=>(Td count l (Mr count M x)).trans (Vy count M x)
theorem jM (count:Nat)(l:List Int):(marks count l).length=count:=by
 unfold marks;rw[Td,JX]
theorem Lf (count i:Nat)(hi:i<count):∀(l:List Int) (M:List Bool) (u:Bool),M.length=count→M[i]?=some u→(l.foldl (Mr count) M)[i]?=some (u||decide ((i:Int)∈l))
 | [],M,u,_,hu=>by simpa using hu
 | x::l,M,u,hM,hu=>by
  have hF:=Vy count M x;show(l.foldl (Mr count) (Mr count M x))[i]?=_
  by_cases h:0≤x∧x<(count:Int)
  · by_cases e:x.toNat=i
    · have he:(i:Int)=x:=by omega
      rw[Lf count i hi l _ true (hF.trans hM) (by unfold Mr;rw[if_pos h,e,List.getElem?_set_self (by omega)])];simp[he]
    · have he:¬((i:Int)=x):=by omega
      rw[Lf count i hi l _ u (hF.trans hM) (by unfold Mr;rw[if_pos h,Jr e];exact hu)];simp[he]
  · have he:¬((i:Int)=x):=by omega
    rw[Lf count i hi l _ u (hF.trans hM) (by unfold Mr;rw[if_neg h];exact hu)];simp[he]
theorem jN (count:Nat)(l:List Int)(i:Nat)(hi:i<count):(marks count l)[i]?=some (decide ((i:Int)∈l)):=by
 have:=Lf count i hi l (List.replicate count false) false (by simp) (by simp[hi]);simpa[marks]using this
theorem Tryz.jX:(Tryz.prog.info? 4).map (fun i=>(i.zero,i.size,i.bytes))=some (some (.bool false),1,1):=by kernel_rfl
theorem UJ (n:Nat)(hn:n≤1000000)(W:World):(Instr.makeSlice 162 (.int .i64 n) (.int .i64 n)).run Tryz.prog W=.ok (.slice (some ⟨W.heap.size,0,none⟩) n n) (W.alloc (.cells (boolRow (marks n [])) 4)):=by
 obtain⟨i0,hi0,hz0,hz1,hz2⟩:=info_parts Tryz.jX;have:=run_make (P:=Tryz.prog) W 162 4 i0 (.bool false) Tryz.underlying162 hi0 hz0 .i64 .i64 n n (by omega) (by omega) (by rw[hz2];omega) (by omega);rw[hz1,DY]at this;refine this.trans ?_;congr 3;unfold boolRow marks;apply Array.ext_getElem?;intro i;simp[madeCells,Value.cells];by_cases h:i<n
 · simp[h,Nat.mod_one]
 · simp[h]
theorem take_one {l:List Int}{k:Nat}(h:k<l.length):l.take (k+1)=l.take k++[l.getD k 0]:=by
 rw[List.take_add_one];simp[List.getD_eq_getElem?_getD,List.getElem?_eq_getElem h]
set_option maxHeartbeats 2000000 in
theorem pO (count:Nat)(hc:count≤1000000)(v:Value)(l:List Int)(w:World)(hv:CQ w v l)(hl:l.length≤9223372036854775807) :
 Calls Tryz.prog 88 #[.int .i64 count,v] w fun e w'=>e=.returned (.slice (some ⟨w.heap.size,0,none⟩) count count)∧w'=w.alloc (.cells (boolRow (marks count l)) 4):=by
 have hm:=UJ count hc;obtain⟨a,cap,rfl⟩:=hv.len;obtain⟨n,hn⟩:∃n,l.length=n:=⟨_,rfl⟩;have HV:=Aa hv;have HN:=Aa hn;rw[hn]at hl ⊢;clear hv hn;go_enter Tryz.func88,Tryz.ntmps88;go_wp2;go_loopw [12] (fun iv wr=>∃k:Nat,k≤n∧iv=.int .i64 k∧wr=w.alloc (.cells (boolRow (marks count (l.take k))) 4)) (fun iv _=>n-(intOf iv).toNat)
 case atStart=>exact⟨0,by omega,rfl,rfl⟩
 case round =>
  obtain⟨k,hk,rfl,rfl⟩:=hrel;by_cases hkn:k<n
  · have hkz:(k:Int)<(n:Int):=by omega
    obtain⟨g,off,rfl,hg,hc1⟩:=HV.out.at (j:=k) (by rw[HN.out];exact hkn);have c1:(w.alloc (.cells (boolRow (marks count (l.take k))) 4)).cell? ⟨g,off+k,none⟩=some (.int .i64 (l.getD k 0)):=by
     rw[World.cell?_alloc_lt _ _ _ hg];exact hc1
    have HT:Hid (l.take (k+1)=l.take k++[l.getD k 0]):=Aa (take_one (by rw[HN.out];exact hkn));have HS:=Aa (bB count (l.take k) (l.getD k 0));clear hc1;generalize l.getD k 0=x at *;by_cases hx0:0≤x
    · by_cases hx1:x<(count:Int)
      · obtain⟨i,rfl⟩:∃i:Nat,x=i:=⟨x.toNat,by omega⟩;have hi:i<count:=by omega
        have HM:Hid (boolRow (marks count (l.take (k+1)))=(boolRow (marks count (l.take k))).setIfInBounds i (.bool true)):=Aa (by rw[HT.out,HS.out,if_pos ⟨hx0,hx1⟩,QY];rfl);obtain⟨u,hu⟩:∃u,(marks count (l.take k))[i]?=some u:=⟨_,jN count _ i hi⟩;have c2:(w.alloc (.cells (boolRow (marks count (l.take k))) 4)).cell? ⟨w.heap.size,i,none⟩=some (.bool u):=by
         rw[AB _ _ _ _ _ _ (Ai _ _)];exact Kb hu
        clear hu hi;go_wp2;go_roundw
        case rel=>exact⟨k+1,by omega,by first|rfl|go_num,by rw[HM.out]<;>try simp⟩
        case measure=>simp[intOf];omega
      · have HM:Hid (marks count (l.take (k+1))=marks count (l.take k)):=Aa (by rw[HT.out,HS.out,if_neg (by omega)]);go_wp2;go_roundw
        case rel=>exact⟨k+1,by omega,by first|rfl|go_num,by rw[HM.out]⟩
        case measure=>simp[intOf];omega
    · have HM:Hid (marks count (l.take (k+1))=marks count (l.take k)):=Aa (by rw[HT.out,HS.out,if_neg (by omega)]);go_wp2;go_roundw
      case rel=>exact⟨k+1,by omega,by first|rfl|go_num,by rw[HM.out]⟩
      case measure=>simp[intOf];omega
  · have hge:¬((k:Int)<(n:Int)):=by omega
    have HL:Hid (l.take k=l):=Aa (CV (by rw[HN.out];omega));go_wp2;go_ret;exact⟨rfl,by rw[HL.out]⟩
def KL (M:List Bool)(l:List ByteArray)(x:(Nat×ByteArray)×Nat):List ByteArray:=if M.getD x.2 false=true then l.set x.1.1 x.1.2 else l
def Bz (M:List Bool)(ps:List (Nat×ByteArray))(l:List ByteArray):List ByteArray:=ps.zipIdx.foldl (KL M) l
theorem MN (M:List Bool)(ps:List (Nat×ByteArray))(p:Nat×ByteArray)(l:List ByteArray):Bz M (ps++[p]) l=if M.getD ps.length false=true then(Bz M ps l).set p.1 p.2 else Bz M ps l:=by
 unfold Bz;rw[List.zipIdx_append,List.foldl_append];simp[KL]
theorem jU (M:List Bool)(l:List ByteArray)(x):(KL M l x).length=l.length:=by
 unfold KL;split
 · rw[List.length_set]
 · rfl
theorem Tq (M:List Bool):∀(xs:List ((Nat×ByteArray)×Nat)) (l:List ByteArray),(xs.foldl (KL M) l).length=l.length
 | [],l=>rfl
 | x::xs,l=>(Tq M xs (KL M l x)).trans (jU M l x)
theorem Iq (M:List Bool)(ps:List (Nat×ByteArray))(l:List ByteArray):(Bz M ps l).length=l.length:=Tq M _ _
theorem QL (M:List Bool):∀(xs:List ((Nat×ByteArray)×Nat)) (l:List ByteArray),(∀x∈xs,x.1.2.size=64)→(∀s∈l,s.size=64)→∀s∈xs.foldl (KL M) l,s.size=64
 | [],l,_,h=>h
 | x::xs,l,hx,h=>QL M xs (KL M l x) (fun y hy=>hx y (by simp[hy])) (fun s hs=>by
  unfold KL at hs;split at hs
  · rcases List.mem_or_eq_of_mem_set hs with h1|h1
    · exact h s h1
    · rw[h1];exact hx x (by simp)
  · exact h s hs)
theorem Mo {α:Type}{l:List α}{x:α×Nat}(h:x∈l.zipIdx):x.1∈l:=by
 have:=List.fst_mem_of_mem_zipIdx h;exact this
theorem JM {M:List Bool}{ps:List (Nat×ByteArray)}{l:List ByteArray}(h1:∀p∈ps,p.2.size=64)(h2:∀s∈l,s.size=64):∀s∈Bz M ps l,s.size=64:=
 QL M _ _ (fun x hx=>h1 _ (Mo hx)) h2
theorem Ph (M:List Bool)(i:Nat):∀(xs:List ((Nat×ByteArray)×Nat)) (l:List ByteArray),(∀x∈xs,x.1.1≠i)→(xs.foldl (KL M) l)[i]?=l[i]?
 | [],l,_=>rfl
 | x::xs,l,h=>by
  show(xs.foldl (KL M) (KL M l x))[i]?=_
  rw[Ph M i xs _ (fun y hy=>h y (by simp[hy]))];unfold KL;split
  · rw[Jr (h x (by simp))]
  · rfl
theorem Rj {M:List Bool}{ps:List (Nat×ByteArray)}{l:List ByteArray}{i:Nat}(h:∀p∈ps,p.1≠i):(Bz M ps l)[i]?=l[i]?:=
 Ph M i _ _ (fun x hx=>h _ (Mo hx))
def Dm (st:St)(l:List Int):St:=⟨Bz (marks st.pend.length l) st.pend st.safe,Bz (marks st.pend.length l) st.pend st.safe,[],false,0⟩
set_option maxHeartbeats 8000000 in
theorem Vj (B b:Nat)(st:St)(v:Value)(l:List Int)(w:World)(h:Dev B w b st)(hg:Good st)(hp:st.pend.length≤1000000)(hv:CQ w v l)(hl:l.length≤9223372036854775807)(hB:B≤w.heap.size) :
 Calls Tryz.prog 42 #[.pointer (some ⟨b,0,none⟩),v] w (fun e w'=>e=.returned (.tuple #[])∧Dev B w' b (Dm st l)∧Below B w w'∧Off AZ w w'):=by
 unfold Dm;obtain⟨gn,gs,vp,h⟩:=h;obtain⟨c0,c1,c2,c3,c4⟩:=h.cells;have HD:=Aa h;have HG:=Aa hg;obtain⟨n,hn⟩:∃n,st.now.length=n:=⟨_,rfl⟩;have HN:=Aa hn;obtain⟨m,hm⟩:∃m,st.pend.length=m:=⟨_,rfl⟩;have HM:=Aa hm;obtain⟨ap,cap,hvp⟩:=h.vp;rw[hm]at hvp hp ⊢;subst hvp;have cM:=pO m hp v l w hv hl;obtain⟨M,hMd⟩:∃M,marks m l=M:=⟨_,rfl⟩;have uw:Hid (M.length=m):=Aa (by rw[←hMd,jM]);rw[hMd]at cM ⊢;have HDA:Hid (BU B (w.alloc (.cells (boolRow M) 4)) b gn gs (.slice ap m cap) st):=Aa (h.alloc _);have K5:Hid (Below B w (w.alloc (.cells (boolRow M) 4))):=Aa ((Ad _ w).alloc hB _);have NJ:Hid (Off AZ w (w.alloc (.cells (boolRow M) 4))):=Aa ((Off.refl _ w).alloc _);have ZT:Hid ((w.alloc (.cells (boolRow M) 4)).heap[w.heap.size]?=some (.cells (boolRow M) 4 (0,0))):=Aa (Ai _ _);have hzw:=Wq;have Abp:=Tryz.underlying165;clear h hg hn hm c0 c1 c3 c4 hMd hv;go_enter Tryz.func42,Tryz.ntmps42;go_wp2_with fail;refine cM.mono ?_;rintro e w2 ⟨rfl,hw2⟩;clear cM c2;generalize w.alloc (.cells (boolRow M) 4)=WA at *;subst hw2;generalize w.heap.size=gm at ZT ⊢;obtain⟨c0,c1,c2,c3,c4⟩:=HDA.out.cells;clear c0 c1 c3 c4;go_wp2_with fail;clear c2;go_loopw [21] (fun iv wr=>∃j:Nat,j≤m∧iv=.int .i64 j∧BU B wr b gn gs (.slice ap m cap) { st with safe:=Bz M (st.pend.take j) st.safe }∧wr.heap[gm]?=some (.cells (boolRow M) 4 (0,0))∧Below B w wr∧Off AZ w wr) (fun iv _=>m-(intOf iv).toNat)
 case atStart=>exact⟨0,by omega,rfl,HDA.out,ZT.out,K5.out,NJ.out⟩
 case round =>
  obtain⟨j,hj,rfl,hd,ht,hb,ho⟩:=hrel;have mH:=Aa hd;have zF:=Aa hb;have HOj:=Aa ho;have HTj:=Aa ht;clear hd hb ho ht HDA ZT K5 NJ;by_cases hjm:j<m
  · have hjz:(j:Int)<(m:Int):=by omega
    obtain⟨p,bM⟩:∃p,st.pend[j]?=some p:=⟨_,Co (by have:=HM.out;omega)⟩;have hpm:=CU bM;rcases p with⟨k,s⟩;obtain⟨hpk,hps⟩:=HG.out.IY _ hpm;simp only at hpk hps;obtain⟨gp,cp,hv,hld⟩:=Xa mH.out.pd (fun q hq=>(HG.out.IY q hq).2) bM;have hv2:ap=some ⟨gp,0,none⟩:=by injection hv
    subst hv2;have mF:=Aa hld;have hst:=Sk wr (k,s) hps;have HPJ:=Aa bM;have hwl:(EL (k,s)).length=65:=FX (p:=(k,s)) hps;obtain⟨u,hu⟩:∃u,M[j]?=some u:=⟨_,Co (by have:=uw.out;omega)⟩;have HU:Hid (M.getD (st.pend.take j).length false=u):=Aa (by rw[Cc,Nat.min_eq_left (by have:=HM.out;omega),Gi,hu];rfl);have HD1:Hid (BU B (wr.alloc (.cells (EL (k,s)).toArray 167)) b gn gs (.slice (some ⟨gp,0,none⟩) m cap) { st with safe:=Bz M (st.pend.take j) st.safe }):=Aa (mH.out.alloc _);have HB1:Hid (Below B w (wr.alloc (.cells (EL (k,s)).toArray 167))):=Aa (zF.out.alloc (Ao hB zF.out.size) _);have ZY:Hid (Off AZ w (wr.alloc (.cells (EL (k,s)).toArray 167))):=Aa (HOj.out.alloc _);have HT1:Hid ((wr.alloc (.cells (EL (k,s)).toArray 167)).heap[wr.heap.size]?=some (.cells (EL (k,s)).toArray 167 (0,0))):=Aa (Ai _ _);have Nw:Hid ((wr.alloc (.cells (EL (k,s)).toArray 167)).heap[gm]?=some (.cells (boolRow M) 4 (0,0))):=Aa (by rw[Ct wr _ _ (Ab HTj.out)];exact HTj.out);have hmk:(wr.alloc (.cells (EL (k,s)).toArray 167)).cell? ⟨gm,j,none⟩=some (.bool u):=by rw[AB _ gm j _ _ _ Nw.out];exact Kb hu
    have hsl:(sec s).length=64:=by rw[Da,hps]
    have Aav:(Tryz.prog.info? 165).map (·.size)=some (sec s).length:=by rw[hsl];exact Tryz.Mx
    have hone:∀v∈sec s,v.oneCell'=true:=OO s;have HXS:=Aa hps;have hpk':k<n:=by have:=HN.out;omega
    have hkz:(k:Int)<(n:Int):=by omega
    have HSN:Hid (Bz M (st.pend.take (j+1)) st.safe=if u=true then(Bz M (st.pend.take j) st.safe).set k s else Bz M (st.pend.take j) st.safe):=Aa (by rw[GQ bM,MN,HU.out]);clear hv hld bM hpm hpk hps hu;cases u with
    | true =>
     go_upto_region 5 with(first|((with_reducible refine Jt 167 _ (.pointer (some ⟨gp,j*65,none⟩)) (.agg (EL (k,s)).toArray) ?_ ?_ ?_);exact rfl;exact mF.out));clear hst mF hmk;generalize wr.heap.size=t at *;generalize wr.alloc (.cells (EL (k,s)).toArray 167)=W1 at *;have hct:W1.cell? ⟨t,0,none⟩=some (.int .i64 k):=by rw[AB W1 t _ _ _ _ HT1.out];rfl
     obtain⟨c0,c1,c2,c3,c4⟩:=HD1.out.cells;simp only at c0 c1;rw[HN.out]at c0 c1;have Qq:Hid (∀x∈Bz M (st.pend.take j) st.safe,x.size=64):=Aa (JM (fun q hq=>(HG.out.IY q (List.mem_of_mem_take hq)).2) HG.out.szs);have uz:Hid ((Bz M (st.pend.take j) st.safe).length=n):=Aa (by rw[Iq,HG.out.same,HN.out]);have r1:W1.rangeAt t 1 (sec s):=fun i v hv=>by
      rw[AB W1 t _ _ _ _ HT1.out,Gp,EL,Nat.add_comm,List.getElem?_cons_succ];exact hv
     have t1:=NS HD1.out.sf Qq.out (k:=k) (by rw[uz.out];exact hpk');have hbg:b≠gs:=Ci HD1.out.hd HD1.out.sf (by decide);have wW:t≠gs:=Ci HT1.out HD1.out.sf (by decide);have hmg:gm≠gs:=Ci Nw.out HD1.out.sf (by decide);have HK:Hid (∀W:World,(W.cell? ⟨b,1,none⟩=some (.slice (some ⟨gs,0,none⟩) n n)∧W.cell? ⟨t,0,none⟩=some (.int .i64 k)∧W.rangeAt t 1 (sec s)∧W.there gs (k*64) 64)→((W.setCells gs (k*64) (sec s)).cell? ⟨b,1,none⟩=some (.slice (some ⟨gs,0,none⟩) n n)∧(W.setCells gs (k*64) (sec s)).cell? ⟨t,0,none⟩=some (.int .i64 k)∧(W.setCells gs (k*64) (sec s)).rangeAt t 1 (sec s)∧(W.setCells gs (k*64) (sec s)).there gs (k*64) 64)):=Aa (fun W hW =>
      ⟨by rw[World.cell?_setCells_out gs _ _ _ _ (fun e=>absurd e hbg)];exact hW.1,by rw[World.cell?_setCells_out gs _ _ _ _ (fun e=>absurd e wW)];exact hW.2.1,World.rangeAt_setCells_apart hW.2.2.1 _ _ _ (Or.inl wW),World.there_setCells hW.2.2.2 _ _ _⟩)
     have GM:Hid (BU B (W1.drew.setCells gs (k*64) (sec s)) b gn gs (.slice (some ⟨gp,0,none⟩) m cap) { st with safe:=Bz M (st.pend.take (j+1)) st.safe }):=Aa (by
      rw[HSN.out,if_pos rfl];exact HD1.out.drew.yu Qq.out (by rw[uz.out];exact hpk') HXS.out)
     have GN:Hid (Below B w (W1.drew.setCells gs (k*64) (sec s))):=Aa (Below.setCells HB1.out.drew HD1.out.hgs _ _);have X7:Hid (Off AZ w (W1.drew.setCells gs (k*64) (sec s))):=Aa (Off.setCells ZY.out.drew (b:=gs) (C:=(flat (Bz M (st.pend.take j) st.safe)).toArray) HD1.out.sf (by simp) _);have HGE:Hid ((W1.drew.setCells gs (k*64) (sec s)).heap[gm]?=some (.cells (boolRow M) 4 (0,0))):=Aa (by rw[Cq gs _ _ _ _ hmg];exact Nw.out);clear c0 c2 c3 c4;go_region_held3 (fun w'=>w'.cell? ⟨b,1,none⟩=some (.slice (some ⟨gs,0,none⟩) n n)∧w'.cell? ⟨t,0,none⟩=some (.int .i64 k)∧w'.rangeAt t 1 (sec s)∧w'.there gs (k*64) 64) (first|assumption|exact HK.out _ (by assumption)|exact⟨c1,hct,r1,t1⟩) (fail);rename_i hHeld;clear hHeld HK c1 hct r1 t1;go_wp2;go_roundw
     case rel=>exact⟨j+1,by omega,by first|rfl|go_num,GM.out,HGE.out,GN.out,X7.out⟩
     case measure=>simp[intOf];omega
    | false =>
     have GM:Hid (BU B (wr.alloc (.cells (EL (k,s)).toArray 167)) b gn gs (.slice (some ⟨gp,0,none⟩) m cap) { st with safe:=Bz M (st.pend.take (j+1)) st.safe }):=Aa (by
      rw[HSN.out,if_neg (by decide)];exact HD1.out)
     go_wp2_with (first|((with_reducible refine Jt 167 _ (.pointer (some ⟨gp,j*65,none⟩)) (.agg (EL (k,s)).toArray) ?_ ?_ ?_);exact rfl;exact mF.out));go_roundw
     case rel=>exact⟨j+1,by omega,by first|rfl|go_num,GM.out,Nw.out,HB1.out,ZY.out⟩
     case measure=>simp[intOf];omega
  · have hge:¬((j:Int)<(m:Int)):=by omega
    have Aat:j=m:=by omega
    subst Aat;have HDS:Hid (BU B wr b gn gs (.slice ap j cap) { st with safe:=Bz M st.pend st.safe }):=Aa (by
     have h9:=mH.out;rw[CV (by have:=HM.out;omega)]at h9;exact h9)
    obtain⟨SF,hSF⟩:∃SF,Bz M st.pend st.safe=SF:=⟨_,rfl⟩;have HSS:Hid (∀x∈SF,x.size=64):=Aa (by rw[←hSF];exact JM (fun q hq=>(HG.out.IY q hq).2) HG.out.szs);have ui:Hid (SF.length=n):=Aa (by rw[←hSF,Iq,HG.out.same,HN.out]);have HSO:Hid (∀i,(∀p∈st.pend,p.1≠i)→SF[i]?=st.now[i]?):=Aa (fun i hi=>by rw[←hSF,Rj hi];exact(HG.out.off i hi).symm);rw[hSF]at HDS;have HSE:=Aa hSF;clear mH HTj hSF;obtain⟨c0,c1,c2,c3,c4⟩:=HDS.out.cells;clear c0 c1 c3 c4;go_wp2_with fail;clear c2;go_loopw [45] (fun iv wr=>∃i:Nat,i≤j∧iv=.int .i64 i∧BU B wr b gn gs (.slice ap j cap) { st with now:=setFrom SF (st.pend.take i) st.now,safe:=SF }∧Below B w wr∧Off AZ w wr) (fun iv _=>j-(intOf iv).toNat)
    case atStart=>exact⟨0,by omega,rfl,HDS.out,zF.out,HOj.out⟩
    case round =>
     obtain⟨i,hi,rfl,hd,hb,ho⟩:=hrel;have uC:=Aa hd;have HBi:=Aa hb;have HOi:=Aa ho;clear hd hb ho HDS zF HOj hge hj hjm;by_cases him:i<j
     · have hjz:(i:Int)<(j:Int):=by omega
       obtain⟨p,bM⟩:∃p,st.pend[i]?=some p:=⟨_,Co (by have:=HM.out;omega)⟩;have hpm:=CU bM;rcases p with⟨k,s⟩;obtain⟨hpk,hps⟩:=HG.out.IY _ hpm;simp only at hpk hps;obtain⟨gp,cp,hv,hld⟩:=Xa uC.out.pd (fun q hq=>(HG.out.IY q hq).2) bM;have hv2:ap=some ⟨gp,0,none⟩:=by injection hv
       subst hv2;have mF:=Aa hld;have hst:=Sk wr (k,s) hps;have HPJ:=Aa bM;have hwl:(EL (k,s)).length=65:=FX (p:=(k,s)) hps;have HD1:Hid (BU B (wr.alloc (.cells (EL (k,s)).toArray 167)) b gn gs (.slice (some ⟨gp,0,none⟩) j cap) { st with now:=setFrom SF (st.pend.take i) st.now,safe:=SF }):=Aa (uC.out.alloc _);have HB1:Hid (Below B w (wr.alloc (.cells (EL (k,s)).toArray 167))):=Aa (HBi.out.alloc (Ao hB HBi.out.size) _);have ZY:Hid (Off AZ w (wr.alloc (.cells (EL (k,s)).toArray 167))):=Aa (HOi.out.alloc _);have HT1:Hid ((wr.alloc (.cells (EL (k,s)).toArray 167)).heap[wr.heap.size]?=some (.cells (EL (k,s)).toArray 167 (0,0))):=Aa (Ai _ _);have hpk':k<n:=by have:=HN.out;omega
       obtain⟨x,hx⟩:∃x,SF[k]?=some x:=⟨_,Co (by have:=ui.out;omega)⟩;have hxs:=HSS.out x (CU hx);have hsl:(sec x).length=64:=by rw[Da,hxs]
       have Aav:(Tryz.prog.info? 165).map (·.size)=some (sec x).length:=by rw[hsl];exact Tryz.Mx
       have hone:∀v∈sec x,v.oneCell'=true:=OO x;have HX:=Aa hx;have HXS:=Aa hxs;have hkz:(k:Int)<(n:Int):=by omega
       clear hv hld bM hpm hpk hx hxs;go_upto_region 10 with(first|((with_reducible refine Jt 167 _ (.pointer (some ⟨gp,i*65,none⟩)) (.agg (EL (k,s)).toArray) ?_ ?_ ?_);exact rfl;exact mF.out));clear hst mF;generalize wr.heap.size=t at *;generalize wr.alloc (.cells (EL (k,s)).toArray 167)=W1 at *;have hct:W1.cell? ⟨t,0,none⟩=some (.int .i64 k):=by rw[AB W1 t _ _ _ _ HT1.out];rfl
       have Qq:Hid (∀x∈setFrom SF (st.pend.take i) st.now,x.size=64):=Aa (OM (fun q hq=>by rw[ui.out,←HN.out];exact(HG.out.IY q (List.mem_of_mem_take hq)).1) HSS.out HG.out.fq);have uz:Hid ((setFrom SF (st.pend.take i) st.now).length=n):=Aa (by rw[Mf,HN.out]);obtain⟨c0,c1,c2,c3,c4⟩:=HD1.out.cells;simp only at c0 c1;rw[uz.out]at c0 c1;have r1:=HD1.out.jq HSS.out HX.out;have t1:=NS HD1.out.nw Qq.out (k:=k) (by rw[uz.out];exact hpk');have hbg:b≠gn:=Ci HD1.out.hd HD1.out.nw (by decide);have wW:t≠gn:=Ci HT1.out HD1.out.nw (by decide);have hgg:gs≠gn:=Ne.symm HD1.out.ne;have HK:Hid (∀W:World,(W.cell? ⟨b,0,none⟩=some (.slice (some ⟨gn,0,none⟩) n n)∧W.cell? ⟨b,1,none⟩=some (.slice (some ⟨gs,0,none⟩) n n)∧W.cell? ⟨t,0,none⟩=some (.int .i64 k)∧W.rangeAt gs (k*64) (sec x)∧W.there gn (k*64) 64)→((W.setCells gn (k*64) (sec x)).cell? ⟨b,0,none⟩=some (.slice (some ⟨gn,0,none⟩) n n)∧(W.setCells gn (k*64) (sec x)).cell? ⟨b,1,none⟩=some (.slice (some ⟨gs,0,none⟩) n n)∧(W.setCells gn (k*64) (sec x)).cell? ⟨t,0,none⟩=some (.int .i64 k)∧(W.setCells gn (k*64) (sec x)).rangeAt gs (k*64) (sec x)∧(W.setCells gn (k*64) (sec x)).there gn (k*64) 64)):=Aa (fun W hW =>
        ⟨by rw[World.cell?_setCells_out gn _ _ _ _ (fun e=>absurd e hbg)];exact hW.1,by rw[World.cell?_setCells_out gn _ _ _ _ (fun e=>absurd e hbg)];exact hW.2.1,by rw[World.cell?_setCells_out gn _ _ _ _ (fun e=>absurd e wW)];exact hW.2.2.1,World.rangeAt_setCells_apart hW.2.2.2.1 _ _ _ (Or.inl hgg),World.there_setCells hW.2.2.2.2 _ _ _⟩)
       have GM:Hid (BU B (W1.drew.setCells gn (k*64) (sec x)) b gn gs (.slice (some ⟨gp,0,none⟩) j cap) { st with now:=setFrom SF (st.pend.take (i+1)) st.now,safe:=SF }):=Aa (by
        rw[GQ HPJ.out,OL,show SF.getD k ⟨#[]⟩=x by rw[Gi,HX.out];rfl];exact HD1.out.drew.Aa9 Qq.out (by rw[uz.out];exact hpk') HXS.out)
       have GN:Hid (Below B w (W1.drew.setCells gn (k*64) (sec x))):=Aa (Below.setCells HB1.out.drew HD1.out.hgn _ _);have X7:Hid (Off AZ w (W1.drew.setCells gn (k*64) (sec x))):=Aa (Off.setCells ZY.out.drew (b:=gn) (C:=(flat (setFrom SF (st.pend.take i) st.now)).toArray) HD1.out.nw (by simp) _);clear c2 c3 c4;go_region_held3 (fun w'=>w'.cell? ⟨b,0,none⟩=some (.slice (some ⟨gn,0,none⟩) n n)∧w'.cell? ⟨b,1,none⟩=some (.slice (some ⟨gs,0,none⟩) n n)∧w'.cell? ⟨t,0,none⟩=some (.int .i64 k)∧w'.rangeAt gs (k*64) (sec x)∧w'.there gn (k*64) 64) (first|assumption|exact HK.out _ (by assumption)|exact⟨c0,c1,hct,r1,t1⟩) (fail);rename_i hHeld;clear hHeld HK c0 c1 hct r1 t1;go_wp2;go_roundw
       case rel=>exact⟨i+1,by omega,by first|rfl|go_num,GM.out,GN.out,X7.out⟩
       case measure=>simp[intOf];omega
     · have hge:¬((i:Int)<(j:Int)):=by omega
       have hij:i=j:=by omega
       subst hij;obtain⟨c0,c1,c2,c3,c4⟩:=uC.out.cells;have f2:=uC.out.frozen 2;have f3:=uC.out.frozen 3;have f4:=uC.out.frozen 4;have GM:Hid (BU B (wr.setCell ⟨b,2,none⟩ (.slice none 0 0)) b gn gs (.slice none 0 0) { st with now:=SF,safe:=SF,pend:=[] }):=Aa (by
        have h9:=uC.out.pq;rw[CV (by have:=HM.out;omega),QB (fun q hq=>by rw[ui.out,←HN.out];exact(HG.out.IY q hq).1) (by rw[ui.out,HN.out]) HSO.out]at h9;exact h9)
       have e1:=Bn _ b 3 _ _ (.bool false) GM.out.hd;have e2:=Bn _ b 4 _ _ (.int .i64 0) e1;have HDF:Hid (Dev B (((wr.setCell ⟨b,2,none⟩ (.slice none 0 0)).setCell ⟨b,3,none⟩ (.bool false)).setCell ⟨b,4,none⟩ (.int .i64 0)) b ⟨SF,SF,[],false,0⟩):=Aa ⟨gn,gs,_,GM.out.mR false 0 e2 (fun q hq=>by rw[heap_setCell_other _ _ _ _ hq,heap_setCell_other _ _ _ _ hq])⟩;have GN:Hid (Below B w (((wr.setCell ⟨b,2,none⟩ (.slice none 0 0)).setCell ⟨b,3,none⟩ (.bool false)).setCell ⟨b,4,none⟩ (.int .i64 0))):=Aa (((HBi.out.setCell (p:=⟨b,2,none⟩) uC.out.hb _).setCell (p:=⟨b,3,none⟩) uC.out.hb _).setCell (p:=⟨b,4,none⟩) uC.out.hb _);have X7:Hid (Off AZ w (((wr.setCell ⟨b,2,none⟩ (.slice none 0 0)).setCell ⟨b,3,none⟩ (.bool false)).setCell ⟨b,4,none⟩ (.int .i64 0))):=Aa (((HOi.out.setCell uC.out.hd (by simp) _).setCell GM.out.hd (by simp) _).setCell e1 (by simp) _);clear c0 c1 e1 e2;go_wp2;go_end0;rw[HSE.out];exact⟨rfl,HDF.out,GN.out,X7.out⟩
theorem IG {st:St}{k:Nat}{s:ByteArray}(hg:Good st)(ha:Fa st.now.length st.lim st.left k=0)(hs:s.size=64):Good (BV st k s):=by
 obtain⟨k',hk',hk⟩:=PD ha;obtain rfl:k=k':=by omega
 have hl:st.lim=true→0<st.left:=fun e=>by
  rcases Int.lt_or_eq_of_le (hg.p9 e) with h3|h3
  · exact h3
  · unfold Fa at ha;rw[e,←h3]at ha;simp at ha
 unfold BV;refine⟨by simp[hg.same],?_,hg.szs,?_,by simp[hg.few],?_,?_,?_⟩
 · intro x hx;rcases List.mem_or_eq_of_mem_set hx with h|h
   · exact hg.fq x h
   · rw[h];exact hs
 · intro p hp;simp only[List.length_set];rcases EI.1 hp with h|h
   · exact hg.IY p h
   · rw[Cn.1 h];exact⟨hk,hs⟩
 · intro e;simp only at e ⊢;rw[if_pos e];have:=hl e;omega
 · simp only;have:=hg.p8;split
   · rename_i e;have:=hl e;omega
   · exact this
 · intro i hi;simp only at hi ⊢;rw[Jr (fun e=>hi (k,s) (by simp) e)];exact hg.off i (fun p hp=>hi p (by simp[hp]))
theorem Zf {st:St}{n:Int}(hg:Good st)(h1:-9223372036854775808≤n)(h2:n≤9223372036854775807):Good (JK st n):=by
 unfold JK;split
 · exact hg
 · exact⟨hg.same,hg.fq,hg.szs,hg.IY,hg.few,fun e=>by simpa using e,⟨h1,h2⟩,hg.off⟩
theorem GL {st:St}(hg:Good st):Good (Dt st):=
 ⟨rfl,hg.fq,hg.fq,(fun p hp=>by cases hp),hg.few,hg.p9,hg.p8,fun i _=>rfl⟩
theorem Xu {st:St}(hg:Good st)(l:List Int):Good (Dm st l):=by
 have hs:∀x∈Bz (marks st.pend.length l) st.pend st.safe,x.size=64:=JM (fun q hq=>(hg.IY q hq).2) hg.szs;exact⟨rfl,hs,hs,(fun p hp=>by cases hp),by simp[Dm,Iq,hg.same,hg.few],(fun e=>by cases e),by simp[Dm],fun i _=>rfl⟩
theorem SE (st:St)(hg:Good st)(l:List Int):(Dm st l).now.length=st.now.length:=by simp[Dm,Iq,hg.same]
theorem Off.Ar {w w':World}(h:Below w.heap.size w w')(ex:List TypeId):Off ex w w':=fun T hT k cs fr hk=>by
 rw[h.block k (Ab hk)];exact hk
theorem Dev.below {B:Nat}{w w':World}{b:Nat}{st:St}(h:Dev B w b st)(hb:Below w.heap.size w w'):Dev B w' b st:=h.off (Off.Ar hb []) (by simp) (by simp) (by simp)
theorem Dev.Rw {B:Nat}{w:World}{b:Nat}{st:St}(h:Dev B w b st):∃a cap,w.cell? ⟨b,0,none⟩=some (.slice a st.now.length cap):=by
 obtain⟨gn,gs,vp,h⟩:=h;exact⟨_,_,h.cells.1⟩
end Go.Proofs.YtdmkhmeaphaapaaGreat.V
