/- Kit. -/
import Derived.Test.YtdmkhmeaphaapaaGreatFW1
set_option maxRecDepth 100000
namespace Go.Proofs.YtdmkhmeaphaapaaGreat.V
open Go.RowKit Go.Sort
set_option linter.unusedVariables false
def NumsIs (w:World)(v:Value)(l:List Int):Prop:=
  (l=[]∧∃a cap,v=.slice a 0 cap) ∨
  (∃g off cap,g<w.heap.size∧v=.slice (some ⟨g,off,none⟩) l.length cap∧∀j,j<l.length→w.cell? ⟨g,off+j,none⟩=some (.int .i64 (l.getD j 0)))
theorem NumsIs.kept {w w':World}{v:Value}{l:List Int}(h:NumsIs w v l)(hb:Below w.heap.size w w'):NumsIs w' v l:=by
  rcases h with h|⟨g,off,cap,hg,hv,hc⟩
  · exact Or.inl h
  · exact Or.inr ⟨g,off,cap,by have:=hb.size;omega,hv,fun j hj=>by rw[hb.cell (p:=⟨g,off+j,none⟩) hg];exact hc j hj⟩
theorem NumsIs.len {w:World}{v:Value}{l:List Int}(h:NumsIs w v l):∃a cap,v=.slice a l.length cap:=by
  rcases h with⟨rfl,a,cap,hv⟩|⟨g,off,cap,hg,hv,hc⟩
  · exact⟨a,cap,hv⟩
  · exact⟨_,cap,hv⟩
theorem NumsIs.at {w:World}{a:Option Addr}{n cap:Nat}{l:List Int}(h:NumsIs w (.slice a n cap) l){j:Nat}(hj:j<l.length):∃g off,a=some ⟨g,off,none⟩∧g<w.heap.size∧w.cell? ⟨g,off+j,none⟩=some (.int .i64 (l.getD j 0)):=by
  rcases h with⟨rfl,_⟩|⟨g,off,cap',hg,hv,hc⟩
  · exact absurd hj (by simp)
  · injection hv with h1 h2 h3;exact⟨g,off,h1,hg,hc j hj⟩
def markF (count:Nat)(M:List Bool)(x:Int):List Bool:=if 0≤x∧x<(count:Int) then M.set x.toNat true else M
def marks (count:Nat)(l:List Int):List Bool:=l.foldl (markF count) (List.replicate count false)
theorem marks_snoc (count:Nat)(l:List Int)(x:Int):marks count (l++[x])=if 0≤x∧x<(count:Int) then(marks count l).set x.toNat true else marks count l:=by
  unfold marks;rw[List.foldl_append];rfl
theorem markF_len (count:Nat)(M:List Bool)(x:Int):(markF count M x).length=M.length:=by
  unfold markF;split
  · rw[List.length_set]
  · rfl
theorem marksF_len (count:Nat):∀(l:List Int) (M:List Bool),(l.foldl (markF count) M).length=M.length
  | [],M=>rfl
  | x::l,M=>(marksF_len count l (markF count M x)).trans (markF_len count M x)
theorem marks_len (count:Nat)(l:List Int):(marks count l).length=count:=by
  unfold marks;rw[marksF_len,List.length_replicate]
theorem marksF_get (count i:Nat)(hi:i<count):∀(l:List Int) (M:List Bool) (u:Bool),M.length=count→M[i]?=some u→(l.foldl (markF count) M)[i]?=some (u||decide ((i:Int)∈l))
  | [],M,u,_,hu=>by simpa using hu
  | x::l,M,u,hM,hu=>by
    have hF:=markF_len count M x;show(l.foldl (markF count) (markF count M x))[i]?=_
    by_cases h:0≤x∧x<(count:Int)
    · by_cases e:x.toNat=i
      · have he:(i:Int)=x:=by omega
        rw[marksF_get count i hi l _ true (hF.trans hM) (by unfold markF;rw[if_pos h,e,List.getElem?_set_self (by omega)])];simp[he]
      · have he:¬((i:Int)=x):=by omega
        rw[marksF_get count i hi l _ u (hF.trans hM) (by unfold markF;rw[if_pos h,List.getElem?_set_ne e];exact hu)];simp[he]
    · have he:¬((i:Int)=x):=by omega
      rw[marksF_get count i hi l _ u (hF.trans hM) (by unfold markF;rw[if_neg h];exact hu)];simp[he]
theorem marks_get (count:Nat)(l:List Int)(i:Nat)(hi:i<count):(marks count l)[i]?=some (decide ((i:Int)∈l)):=by
  have:=marksF_get count i hi l (List.replicate count false) false (by simp) (by simp[hi]);simpa[marks]using this
def boolRow (M:List Bool):Array Value:=(M.map Value.bool).toArray
theorem boolRow_set (M:List Bool)(i:Nat)(x:Bool):(boolRow M).setIfInBounds i (.bool x)=boolRow (M.set i x):=by
  unfold boolRow;apply Array.ext';rw[Array.toList_setIfInBounds,List.toList_toArray,List.toList_toArray,List.map_set]
theorem boolRow_get {M:List Bool}{i:Nat}{x:Bool}(h:M[i]?=some x):(boolRow M)[i]?=some (.bool x):=by
  unfold boolRow;rw[List.getElem?_toArray,List.getElem?_map,h];rfl
theorem Tryz.infoBoolZ:(Tryz.prog.info? 4).map (fun i=>(i.zero,i.size,i.bytes))=some (some (.bool false),1,1):=by kernel_rfl
theorem run_new_bools (n:Nat)(hn:n≤1000000)(W:World):(Instr.makeSlice 162 (.int .i64 n) (.int .i64 n)).run Tryz.prog W=.ok (.slice (some ⟨W.heap.size,0,none⟩) n n) (W.alloc (.cells (boolRow (marks n [])) 4)):=by
  obtain⟨i0,hi0,hz0,hz1,hz2⟩:=info_parts Tryz.infoBoolZ;have:=run_make (P:=Tryz.prog) W 162 4 i0 (.bool false) Tryz.underlying162 hi0 hz0 .i64 .i64 n n (by omega) (by omega) (by rw[hz2];omega) (by omega);rw[hz1,Int.toNat_natCast]at this;refine this.trans ?_;congr 3;unfold boolRow marks;apply Array.ext_getElem?;intro i;simp[madeCells,Value.cells];by_cases h:i<n
  · simp[h,Nat.mod_one]
  · simp[h]
theorem take_one {l:List Int}{k:Nat}(h:k<l.length):l.take (k+1)=l.take k++[l.getD k 0]:=by
  rw[List.take_add_one];simp[List.getD_eq_getElem?_getD,List.getElem?_eq_getElem h]
set_option maxHeartbeats 2000000 in
theorem marked_c (count:Nat)(hc:count≤1000000)(v:Value)(l:List Int)(w:World)(hv:NumsIs w v l)(hl:l.length≤9223372036854775807) :
    Calls Tryz.prog 88 #[.int .i64 count,v] w fun e w'=>e=.returned (.slice (some ⟨w.heap.size,0,none⟩) count count)∧w'=w.alloc (.cells (boolRow (marks count l)) 4):=by
  have hm:=run_new_bools count hc;obtain⟨a,cap,rfl⟩:=hv.len;obtain⟨n,hn⟩:∃n,l.length=n:=⟨_,rfl⟩;have HV:=Lib.hid hv;have HN:=Lib.hid hn;rw[hn]at hl ⊢;clear hv hn;go_enter Tryz.func88,Tryz.ntmps88;go_wp2;go_loopw [12] (fun iv wr=>∃k:Nat,k≤n∧iv=.int .i64 k∧wr=w.alloc (.cells (boolRow (marks count (l.take k))) 4)) (fun iv _=>n-(intOf iv).toNat)
  case atStart=>exact⟨0,by omega,rfl,rfl⟩
  case round =>
    obtain⟨k,hk,rfl,rfl⟩:=hrel;by_cases hkn:k<n
    · have hkz:(k:Int)<(n:Int):=by omega
      obtain⟨g,off,rfl,hg,hc1⟩:=HV.out.at (j:=k) (by rw[HN.out];exact hkn);have c1:(w.alloc (.cells (boolRow (marks count (l.take k))) 4)).cell? ⟨g,off+k,none⟩=some (.int .i64 (l.getD k 0)):=by
        rw[World.cell?_alloc_lt _ _ _ hg];exact hc1
      have HT:Hid (l.take (k+1)=l.take k++[l.getD k 0]):=Lib.hid (take_one (by rw[HN.out];exact hkn));have HS:=Lib.hid (marks_snoc count (l.take k) (l.getD k 0));clear hc1;generalize l.getD k 0=x at *;by_cases hx0:0≤x
      · by_cases hx1:x<(count:Int)
        · obtain⟨i,rfl⟩:∃i:Nat,x=i:=⟨x.toNat,by omega⟩;have hi:i<count:=by omega
          have HM:Hid (boolRow (marks count (l.take (k+1)))=(boolRow (marks count (l.take k))).setIfInBounds i (.bool true)):=Lib.hid (by rw[HT.out,HS.out,if_pos ⟨hx0,hx1⟩,boolRow_set];rfl);obtain⟨u,hu⟩:∃u,(marks count (l.take k))[i]?=some u:=⟨_,marks_get count _ i hi⟩;have c2:(w.alloc (.cells (boolRow (marks count (l.take k))) 4)).cell? ⟨w.heap.size,i,none⟩=some (.bool u):=by
            rw[cell_of_row _ _ _ _ _ _ (heap_alloc_new _ _)];exact boolRow_get hu
          clear hu hi;go_wp2;go_roundw
          case rel=>exact⟨k+1,by omega,by first|rfl|go_num,by rw[HM.out]<;>try simp⟩
          case measure=>simp[intOf];omega
        · have HM:Hid (marks count (l.take (k+1))=marks count (l.take k)):=Lib.hid (by rw[HT.out,HS.out,if_neg (by omega)]);go_wp2;go_roundw
          case rel=>exact⟨k+1,by omega,by first|rfl|go_num,by rw[HM.out]⟩
          case measure=>simp[intOf];omega
      · have HM:Hid (marks count (l.take (k+1))=marks count (l.take k)):=Lib.hid (by rw[HT.out,HS.out,if_neg (by omega)]);go_wp2;go_roundw
        case rel=>exact⟨k+1,by omega,by first|rfl|go_num,by rw[HM.out]⟩
        case measure=>simp[intOf];omega
    · have hge:¬((k:Int)<(n:Int)):=by omega
      have HL:Hid (l.take k=l):=Lib.hid (List.take_of_length_le (by rw[HN.out];omega));go_wp2;go_ret;exact⟨rfl,by rw[HL.out]⟩
end Go.Proofs.YtdmkhmeaphaapaaGreat.V
namespace Go.Proofs.YtdmkhmeaphaapaaGreat.V
open Go.RowKit Go.Sort
set_option linter.unusedVariables false
def keepF (M:List Bool)(l:List ByteArray)(x:(Nat×ByteArray)×Nat):List ByteArray:=if M.getD x.2 false=true then l.set x.1.1 x.1.2 else l
def applyKept (M:List Bool)(ps:List (Nat×ByteArray))(l:List ByteArray):List ByteArray:=ps.zipIdx.foldl (keepF M) l
theorem applyKept_snoc (M:List Bool)(ps:List (Nat×ByteArray))(p:Nat×ByteArray)(l:List ByteArray):applyKept M (ps++[p]) l=if M.getD ps.length false=true then(applyKept M ps l).set p.1 p.2 else applyKept M ps l:=by
  unfold applyKept;rw[List.zipIdx_append,List.foldl_append];simp[keepF]
theorem keepF_len (M:List Bool)(l:List ByteArray)(x):(keepF M l x).length=l.length:=by
  unfold keepF;split
  · rw[List.length_set]
  · rfl
theorem keepsF_len (M:List Bool):∀(xs:List ((Nat×ByteArray)×Nat)) (l:List ByteArray),(xs.foldl (keepF M) l).length=l.length
  | [],l=>rfl
  | x::xs,l=>(keepsF_len M xs (keepF M l x)).trans (keepF_len M l x)
theorem applyKept_len (M:List Bool)(ps:List (Nat×ByteArray))(l:List ByteArray):(applyKept M ps l).length=l.length:=keepsF_len M _ _
theorem keepsF_size (M:List Bool):∀(xs:List ((Nat×ByteArray)×Nat)) (l:List ByteArray),(∀x∈xs,x.1.2.size=64)→(∀s∈l,s.size=64)→∀s∈xs.foldl (keepF M) l,s.size=64
  | [],l,_,h=>h
  | x::xs,l,hx,h=>keepsF_size M xs (keepF M l x) (fun y hy=>hx y (by simp[hy])) (fun s hs=>by
    unfold keepF at hs;split at hs
    · rcases List.mem_or_eq_of_mem_set hs with h1|h1
      · exact h s h1
      · rw[h1];exact hx x (by simp)
    · exact h s hs)
theorem mem_zipIdx_fst {α:Type}{l:List α}{x:α×Nat}(h:x∈l.zipIdx):x.1∈l:=by
  have:=List.fst_mem_of_mem_zipIdx h;exact this
theorem applyKept_size {M:List Bool}{ps:List (Nat×ByteArray)}{l:List ByteArray}(h1:∀p∈ps,p.2.size=64)(h2:∀s∈l,s.size=64):∀s∈applyKept M ps l,s.size=64:=
  keepsF_size M _ _ (fun x hx=>h1 _ (mem_zipIdx_fst hx)) h2
theorem keepsF_other (M:List Bool)(i:Nat):∀(xs:List ((Nat×ByteArray)×Nat)) (l:List ByteArray),(∀x∈xs,x.1.1≠i)→(xs.foldl (keepF M) l)[i]?=l[i]?
  | [],l,_=>rfl
  | x::xs,l,h=>by
    show(xs.foldl (keepF M) (keepF M l x))[i]?=_
    rw[keepsF_other M i xs _ (fun y hy=>h y (by simp[hy]))];unfold keepF;split
    · rw[List.getElem?_set_ne (h x (by simp))]
    · rfl
theorem applyKept_other {M:List Bool}{ps:List (Nat×ByteArray)}{l:List ByteArray}{i:Nat}(h:∀p∈ps,p.1≠i):(applyKept M ps l)[i]?=l[i]?:=
  keepsF_other M i _ _ (fun x hx=>h _ (mem_zipIdx_fst hx))
def restartSt (st:St)(l:List Int):St:=⟨applyKept (marks st.pend.length l) st.pend st.safe,applyKept (marks st.pend.length l) st.pend st.safe,[],false,0⟩
set_option maxHeartbeats 8000000 in
theorem restart_c (B b:Nat)(st:St)(v:Value)(l:List Int)(w:World)(h:Dev B w b st)(hg:Good st)(hp:st.pend.length≤1000000)(hv:NumsIs w v l)(hl:l.length≤9223372036854775807)(hB:B≤w.heap.size) :
    Calls Tryz.prog 42 #[.pointer (some ⟨b,0,none⟩),v] w (fun e w'=>e=.returned (.tuple #[])∧Dev B w' b (restartSt st l)∧Below B w w'∧Off devTs w w'):=by
  unfold restartSt;obtain⟨gn,gs,vp,h⟩:=h;obtain⟨c0,c1,c2,c3,c4⟩:=h.cells;have HD:=Lib.hid h;have HG:=Lib.hid hg;obtain⟨n,hn⟩:∃n,st.now.length=n:=⟨_,rfl⟩;have HN:=Lib.hid hn;obtain⟨m,hm⟩:∃m,st.pend.length=m:=⟨_,rfl⟩;have HM:=Lib.hid hm;obtain⟨ap,cap,hvp⟩:=h.vp;rw[hm]at hvp hp ⊢;subst hvp;have cM:=marked_c m hp v l w hv hl;obtain⟨M,hMd⟩:∃M,marks m l=M:=⟨_,rfl⟩;have HML:Hid (M.length=m):=Lib.hid (by rw[←hMd,marks_len]);rw[hMd]at cM ⊢;have HDA:Hid (DevAt B (w.alloc (.cells (boolRow M) 4)) b gn gs (.slice ap m cap) st):=Lib.hid (h.alloc _);have HBA:Hid (Below B w (w.alloc (.cells (boolRow M) 4))):=Lib.hid ((Below.refl _ w).alloc hB _);have HOA:Hid (Off devTs w (w.alloc (.cells (boolRow M) 4))):=Lib.hid ((Off.refl _ w).alloc _);have HTA:Hid ((w.alloc (.cells (boolRow M) 4)).heap[w.heap.size]?=some (.cells (boolRow M) 4 (0,0))):=Lib.hid (heap_alloc_new _ _);have hzw:=zero_wr;have hu61:=Tryz.underlying165;clear h hg hn hm c0 c1 c3 c4 hMd hv;go_enter Tryz.func42,Tryz.ntmps42;go_wp2_with fail;refine cM.mono ?_;rintro e w2 ⟨rfl,hw2⟩;clear cM c2;generalize w.alloc (.cells (boolRow M) 4)=WA at *;subst hw2;generalize w.heap.size=gm at HTA ⊢;obtain⟨c0,c1,c2,c3,c4⟩:=HDA.out.cells;clear c0 c1 c3 c4;go_wp2_with fail;clear c2;go_loopw [21] (fun iv wr=>∃j:Nat,j≤m∧iv=.int .i64 j∧DevAt B wr b gn gs (.slice ap m cap) { st with safe:=applyKept M (st.pend.take j) st.safe }∧wr.heap[gm]?=some (.cells (boolRow M) 4 (0,0))∧Below B w wr∧Off devTs w wr) (fun iv _=>m-(intOf iv).toNat)
  case atStart=>exact⟨0,by omega,rfl,HDA.out,HTA.out,HBA.out,HOA.out⟩
  case round =>
    obtain⟨j,hj,rfl,hd,ht,hb,ho⟩:=hrel;have HDj:=Lib.hid hd;have HBj:=Lib.hid hb;have HOj:=Lib.hid ho;have HTj:=Lib.hid ht;clear hd hb ho ht HDA HTA HBA HOA;by_cases hjm:j<m
    · have hjz:(j:Int)<(m:Int):=by omega
      obtain⟨p,hpj⟩:∃p,st.pend[j]?=some p:=⟨_,List.getElem?_eq_getElem (by have:=HM.out;omega)⟩;have hpm:=List.mem_of_getElem? hpj;rcases p with⟨k,s⟩;obtain⟨hpk,hps⟩:=HG.out.pnd _ hpm;simp only at hpk hps;obtain⟨gp,cp,hv,hld⟩:=load_wr HDj.out.pd (fun q hq=>(HG.out.pnd q hq).2) hpj;have hv2:ap=some ⟨gp,0,none⟩:=by injection hv
      subst hv2;have HLD:=Lib.hid hld;have hst:=store_wr wr (k,s) hps;have HPJ:=Lib.hid hpj;have hwl:(wrc (k,s)).length=65:=wrc_length (p:=(k,s)) hps;obtain⟨u,hu⟩:∃u,M[j]?=some u:=⟨_,List.getElem?_eq_getElem (by have:=HML.out;omega)⟩;have HU:Hid (M.getD (st.pend.take j).length false=u):=Lib.hid (by rw[List.length_take,Nat.min_eq_left (by have:=HM.out;omega),List.getD_eq_getElem?_getD,hu];rfl);have HD1:Hid (DevAt B (wr.alloc (.cells (wrc (k,s)).toArray 167)) b gn gs (.slice (some ⟨gp,0,none⟩) m cap) { st with safe:=applyKept M (st.pend.take j) st.safe }):=Lib.hid (HDj.out.alloc _);have HB1:Hid (Below B w (wr.alloc (.cells (wrc (k,s)).toArray 167))):=Lib.hid (HBj.out.alloc (Nat.le_trans hB HBj.out.size) _);have HO1:Hid (Off devTs w (wr.alloc (.cells (wrc (k,s)).toArray 167))):=Lib.hid (HOj.out.alloc _);have HT1:Hid ((wr.alloc (.cells (wrc (k,s)).toArray 167)).heap[wr.heap.size]?=some (.cells (wrc (k,s)).toArray 167 (0,0))):=Lib.hid (heap_alloc_new _ _);have HG1:Hid ((wr.alloc (.cells (wrc (k,s)).toArray 167)).heap[gm]?=some (.cells (boolRow M) 4 (0,0))):=Lib.hid (by rw[Below.heap_alloc wr _ _ (lt_of_get HTj.out)];exact HTj.out);have hmk:(wr.alloc (.cells (wrc (k,s)).toArray 167)).cell? ⟨gm,j,none⟩=some (.bool u):=by rw[cell_of_row _ gm j _ _ _ HG1.out];exact boolRow_get hu
      have hsl:(sec s).length=64:=by rw[sec_length,hps]
      have hi61:(Tryz.prog.info? 165).map (·.size)=some (sec s).length:=by rw[hsl];exact Tryz.infoSecS
      have hone:∀v∈sec s,v.oneCell'=true:=sec_one s;have HXS:=Lib.hid hps;have hpk':k<n:=by have:=HN.out;omega
      have hkz:(k:Int)<(n:Int):=by omega
      have HSN:Hid (applyKept M (st.pend.take (j+1)) st.safe=if u=true then(applyKept M (st.pend.take j) st.safe).set k s else applyKept M (st.pend.take j) st.safe):=Lib.hid (by rw[take_snoc hpj,applyKept_snoc,HU.out]);clear hv hld hpj hpm hpk hps hu;cases u with
      | true =>
        go_upto_region 5 with(first|((with_reducible refine wpL_load 167 _ (.pointer (some ⟨gp,j*65,none⟩)) (.agg (wrc (k,s)).toArray) ?_ ?_ ?_);exact rfl;exact HLD.out));clear hst HLD hmk;generalize wr.heap.size=t at *;generalize wr.alloc (.cells (wrc (k,s)).toArray 167)=W1 at *;have hct:W1.cell? ⟨t,0,none⟩=some (.int .i64 k):=by rw[cell_of_row W1 t _ _ _ _ HT1.out];rfl
        obtain⟨c0,c1,c2,c3,c4⟩:=HD1.out.cells;simp only at c0 c1;rw[HN.out]at c0 c1;have HSZ:Hid (∀x∈applyKept M (st.pend.take j) st.safe,x.size=64):=Lib.hid (applyKept_size (fun q hq=>(HG.out.pnd q (List.mem_of_mem_take hq)).2) HG.out.szs);have HLN:Hid ((applyKept M (st.pend.take j) st.safe).length=n):=Lib.hid (by rw[applyKept_len,HG.out.same,HN.out]);have r1:W1.rangeAt t 1 (sec s):=fun i v hv=>by
          rw[cell_of_row W1 t _ _ _ _ HT1.out,List.getElem?_toArray,wrc,Nat.add_comm,List.getElem?_cons_succ];exact hv
        have t1:=there_flat HD1.out.sf HSZ.out (k:=k) (by rw[HLN.out];exact hpk');have hbg:b≠gs:=block_ne HD1.out.hd HD1.out.sf (by decide);have htg:t≠gs:=block_ne HT1.out HD1.out.sf (by decide);have hmg:gm≠gs:=block_ne HG1.out HD1.out.sf (by decide);have HK:Hid (∀W:World,(W.cell? ⟨b,1,none⟩=some (.slice (some ⟨gs,0,none⟩) n n)∧W.cell? ⟨t,0,none⟩=some (.int .i64 k)∧W.rangeAt t 1 (sec s)∧W.there gs (k*64) 64)→((W.setCells gs (k*64) (sec s)).cell? ⟨b,1,none⟩=some (.slice (some ⟨gs,0,none⟩) n n)∧(W.setCells gs (k*64) (sec s)).cell? ⟨t,0,none⟩=some (.int .i64 k)∧(W.setCells gs (k*64) (sec s)).rangeAt t 1 (sec s)∧(W.setCells gs (k*64) (sec s)).there gs (k*64) 64)):=Lib.hid (fun W hW =>
          ⟨by rw[World.cell?_setCells_out gs _ _ _ _ (fun e=>absurd e hbg)];exact hW.1,by rw[World.cell?_setCells_out gs _ _ _ _ (fun e=>absurd e htg)];exact hW.2.1,World.rangeAt_setCells_apart hW.2.2.1 _ _ _ (Or.inl htg),World.there_setCells hW.2.2.2 _ _ _⟩)
        have HDE:Hid (DevAt B (W1.drew.setCells gs (k*64) (sec s)) b gn gs (.slice (some ⟨gp,0,none⟩) m cap) { st with safe:=applyKept M (st.pend.take (j+1)) st.safe }):=Lib.hid (by
          rw[HSN.out,if_pos rfl];exact HD1.out.drew.wsafe HSZ.out (by rw[HLN.out];exact hpk') HXS.out)
        have HBE:Hid (Below B w (W1.drew.setCells gs (k*64) (sec s))):=Lib.hid (Below.setCells HB1.out.drew HD1.out.hgs _ _);have HOE:Hid (Off devTs w (W1.drew.setCells gs (k*64) (sec s))):=Lib.hid (Off.setCells HO1.out.drew (b:=gs) (C:=(flat (applyKept M (st.pend.take j) st.safe)).toArray) HD1.out.sf (by simp) _);have HGE:Hid ((W1.drew.setCells gs (k*64) (sec s)).heap[gm]?=some (.cells (boolRow M) 4 (0,0))):=Lib.hid (by rw[heap_setCells_far gs _ _ _ _ hmg];exact HG1.out);clear c0 c2 c3 c4;go_region_held3 (fun w'=>w'.cell? ⟨b,1,none⟩=some (.slice (some ⟨gs,0,none⟩) n n)∧w'.cell? ⟨t,0,none⟩=some (.int .i64 k)∧w'.rangeAt t 1 (sec s)∧w'.there gs (k*64) 64) (first|assumption|exact HK.out _ (by assumption)|exact⟨c1,hct,r1,t1⟩) (fail);rename_i hHeld;clear hHeld HK c1 hct r1 t1;go_wp2;go_roundw
        case rel=>exact⟨j+1,by omega,by first|rfl|go_num,HDE.out,HGE.out,HBE.out,HOE.out⟩
        case measure=>simp[intOf];omega
      | false =>
        have HDE:Hid (DevAt B (wr.alloc (.cells (wrc (k,s)).toArray 167)) b gn gs (.slice (some ⟨gp,0,none⟩) m cap) { st with safe:=applyKept M (st.pend.take (j+1)) st.safe }):=Lib.hid (by
          rw[HSN.out,if_neg (by decide)];exact HD1.out)
        go_wp2_with (first|((with_reducible refine wpL_load 167 _ (.pointer (some ⟨gp,j*65,none⟩)) (.agg (wrc (k,s)).toArray) ?_ ?_ ?_);exact rfl;exact HLD.out));go_roundw
        case rel=>exact⟨j+1,by omega,by first|rfl|go_num,HDE.out,HG1.out,HB1.out,HO1.out⟩
        case measure=>simp[intOf];omega
    · have hge:¬((j:Int)<(m:Int)):=by omega
      have hjm2:j=m:=by omega
      subst hjm2;have HDS:Hid (DevAt B wr b gn gs (.slice ap j cap) { st with safe:=applyKept M st.pend st.safe }):=Lib.hid (by
        have h9:=HDj.out;rw[List.take_of_length_le (by have:=HM.out;omega)]at h9;exact h9)
      obtain⟨SF,hSF⟩:∃SF,applyKept M st.pend st.safe=SF:=⟨_,rfl⟩;have HSS:Hid (∀x∈SF,x.size=64):=Lib.hid (by rw[←hSF];exact applyKept_size (fun q hq=>(HG.out.pnd q hq).2) HG.out.szs);have HSL:Hid (SF.length=n):=Lib.hid (by rw[←hSF,applyKept_len,HG.out.same,HN.out]);have HSO:Hid (∀i,(∀p∈st.pend,p.1≠i)→SF[i]?=st.now[i]?):=Lib.hid (fun i hi=>by rw[←hSF,applyKept_other hi];exact(HG.out.off i hi).symm);rw[hSF]at HDS;have HSE:=Lib.hid hSF;clear HDj HTj hSF;obtain⟨c0,c1,c2,c3,c4⟩:=HDS.out.cells;clear c0 c1 c3 c4;go_wp2_with fail;clear c2;go_loopw [45] (fun iv wr=>∃i:Nat,i≤j∧iv=.int .i64 i∧DevAt B wr b gn gs (.slice ap j cap) { st with now:=setFrom SF (st.pend.take i) st.now,safe:=SF }∧Below B w wr∧Off devTs w wr) (fun iv _=>j-(intOf iv).toNat)
      case atStart=>exact⟨0,by omega,rfl,HDS.out,HBj.out,HOj.out⟩
      case round =>
        obtain⟨i,hi,rfl,hd,hb,ho⟩:=hrel;have HDi:=Lib.hid hd;have HBi:=Lib.hid hb;have HOi:=Lib.hid ho;clear hd hb ho HDS HBj HOj hge hj hjm;by_cases him:i<j
        · have hjz:(i:Int)<(j:Int):=by omega
          obtain⟨p,hpj⟩:∃p,st.pend[i]?=some p:=⟨_,List.getElem?_eq_getElem (by have:=HM.out;omega)⟩;have hpm:=List.mem_of_getElem? hpj;rcases p with⟨k,s⟩;obtain⟨hpk,hps⟩:=HG.out.pnd _ hpm;simp only at hpk hps;obtain⟨gp,cp,hv,hld⟩:=load_wr HDi.out.pd (fun q hq=>(HG.out.pnd q hq).2) hpj;have hv2:ap=some ⟨gp,0,none⟩:=by injection hv
          subst hv2;have HLD:=Lib.hid hld;have hst:=store_wr wr (k,s) hps;have HPJ:=Lib.hid hpj;have hwl:(wrc (k,s)).length=65:=wrc_length (p:=(k,s)) hps;have HD1:Hid (DevAt B (wr.alloc (.cells (wrc (k,s)).toArray 167)) b gn gs (.slice (some ⟨gp,0,none⟩) j cap) { st with now:=setFrom SF (st.pend.take i) st.now,safe:=SF }):=Lib.hid (HDi.out.alloc _);have HB1:Hid (Below B w (wr.alloc (.cells (wrc (k,s)).toArray 167))):=Lib.hid (HBi.out.alloc (Nat.le_trans hB HBi.out.size) _);have HO1:Hid (Off devTs w (wr.alloc (.cells (wrc (k,s)).toArray 167))):=Lib.hid (HOi.out.alloc _);have HT1:Hid ((wr.alloc (.cells (wrc (k,s)).toArray 167)).heap[wr.heap.size]?=some (.cells (wrc (k,s)).toArray 167 (0,0))):=Lib.hid (heap_alloc_new _ _);have hpk':k<n:=by have:=HN.out;omega
          obtain⟨x,hx⟩:∃x,SF[k]?=some x:=⟨_,List.getElem?_eq_getElem (by have:=HSL.out;omega)⟩;have hxs:=HSS.out x (List.mem_of_getElem? hx);have hsl:(sec x).length=64:=by rw[sec_length,hxs]
          have hi61:(Tryz.prog.info? 165).map (·.size)=some (sec x).length:=by rw[hsl];exact Tryz.infoSecS
          have hone:∀v∈sec x,v.oneCell'=true:=sec_one x;have HX:=Lib.hid hx;have HXS:=Lib.hid hxs;have hkz:(k:Int)<(n:Int):=by omega
          clear hv hld hpj hpm hpk hx hxs;go_upto_region 10 with(first|((with_reducible refine wpL_load 167 _ (.pointer (some ⟨gp,i*65,none⟩)) (.agg (wrc (k,s)).toArray) ?_ ?_ ?_);exact rfl;exact HLD.out));clear hst HLD;generalize wr.heap.size=t at *;generalize wr.alloc (.cells (wrc (k,s)).toArray 167)=W1 at *;have hct:W1.cell? ⟨t,0,none⟩=some (.int .i64 k):=by rw[cell_of_row W1 t _ _ _ _ HT1.out];rfl
          have HSZ:Hid (∀x∈setFrom SF (st.pend.take i) st.now,x.size=64):=Lib.hid (setFrom_size (fun q hq=>by rw[HSL.out,←HN.out];exact(HG.out.pnd q (List.mem_of_mem_take hq)).1) HSS.out HG.out.szn);have HLN:Hid ((setFrom SF (st.pend.take i) st.now).length=n):=Lib.hid (by rw[setFrom_len,HN.out]);obtain⟨c0,c1,c2,c3,c4⟩:=HD1.out.cells;simp only at c0 c1;rw[HLN.out]at c0 c1;have r1:=HD1.out.rangeSafe HSS.out HX.out;have t1:=there_flat HD1.out.nw HSZ.out (k:=k) (by rw[HLN.out];exact hpk');have hbg:b≠gn:=block_ne HD1.out.hd HD1.out.nw (by decide);have htg:t≠gn:=block_ne HT1.out HD1.out.nw (by decide);have hgg:gs≠gn:=Ne.symm HD1.out.ne;have HK:Hid (∀W:World,(W.cell? ⟨b,0,none⟩=some (.slice (some ⟨gn,0,none⟩) n n)∧W.cell? ⟨b,1,none⟩=some (.slice (some ⟨gs,0,none⟩) n n)∧W.cell? ⟨t,0,none⟩=some (.int .i64 k)∧W.rangeAt gs (k*64) (sec x)∧W.there gn (k*64) 64)→((W.setCells gn (k*64) (sec x)).cell? ⟨b,0,none⟩=some (.slice (some ⟨gn,0,none⟩) n n)∧(W.setCells gn (k*64) (sec x)).cell? ⟨b,1,none⟩=some (.slice (some ⟨gs,0,none⟩) n n)∧(W.setCells gn (k*64) (sec x)).cell? ⟨t,0,none⟩=some (.int .i64 k)∧(W.setCells gn (k*64) (sec x)).rangeAt gs (k*64) (sec x)∧(W.setCells gn (k*64) (sec x)).there gn (k*64) 64)):=Lib.hid (fun W hW =>
            ⟨by rw[World.cell?_setCells_out gn _ _ _ _ (fun e=>absurd e hbg)];exact hW.1,by rw[World.cell?_setCells_out gn _ _ _ _ (fun e=>absurd e hbg)];exact hW.2.1,by rw[World.cell?_setCells_out gn _ _ _ _ (fun e=>absurd e htg)];exact hW.2.2.1,World.rangeAt_setCells_apart hW.2.2.2.1 _ _ _ (Or.inl hgg),World.there_setCells hW.2.2.2.2 _ _ _⟩)
          have HDE:Hid (DevAt B (W1.drew.setCells gn (k*64) (sec x)) b gn gs (.slice (some ⟨gp,0,none⟩) j cap) { st with now:=setFrom SF (st.pend.take (i+1)) st.now,safe:=SF }):=Lib.hid (by
            rw[take_snoc HPJ.out,setFrom_snoc,show SF.getD k ⟨#[]⟩=x by rw[List.getD_eq_getElem?_getD,HX.out];rfl];exact HD1.out.drew.wnow HSZ.out (by rw[HLN.out];exact hpk') HXS.out)
          have HBE:Hid (Below B w (W1.drew.setCells gn (k*64) (sec x))):=Lib.hid (Below.setCells HB1.out.drew HD1.out.hgn _ _);have HOE:Hid (Off devTs w (W1.drew.setCells gn (k*64) (sec x))):=Lib.hid (Off.setCells HO1.out.drew (b:=gn) (C:=(flat (setFrom SF (st.pend.take i) st.now)).toArray) HD1.out.nw (by simp) _);clear c2 c3 c4;go_region_held3 (fun w'=>w'.cell? ⟨b,0,none⟩=some (.slice (some ⟨gn,0,none⟩) n n)∧w'.cell? ⟨b,1,none⟩=some (.slice (some ⟨gs,0,none⟩) n n)∧w'.cell? ⟨t,0,none⟩=some (.int .i64 k)∧w'.rangeAt gs (k*64) (sec x)∧w'.there gn (k*64) 64) (first|assumption|exact HK.out _ (by assumption)|exact⟨c0,c1,hct,r1,t1⟩) (fail);rename_i hHeld;clear hHeld HK c0 c1 hct r1 t1;go_wp2;go_roundw
          case rel=>exact⟨i+1,by omega,by first|rfl|go_num,HDE.out,HBE.out,HOE.out⟩
          case measure=>simp[intOf];omega
        · have hge:¬((i:Int)<(j:Int)):=by omega
          have hij:i=j:=by omega
          subst hij;obtain⟨c0,c1,c2,c3,c4⟩:=HDi.out.cells;have f2:=HDi.out.frozen 2;have f3:=HDi.out.frozen 3;have f4:=HDi.out.frozen 4;have HDE:Hid (DevAt B (wr.setCell ⟨b,2,none⟩ (.slice none 0 0)) b gn gs (.slice none 0 0) { st with now:=SF,safe:=SF,pend:=[] }):=Lib.hid (by
            have h9:=HDi.out.noPend;rw[List.take_of_length_le (by have:=HM.out;omega),setFrom_all (fun q hq=>by rw[HSL.out,←HN.out];exact(HG.out.pnd q hq).1) (by rw[HSL.out,HN.out]) HSO.out]at h9;exact h9)
          have e1:=heap_setCell_same _ b 3 _ _ (.bool false) HDE.out.hd;have e2:=heap_setCell_same _ b 4 _ _ (.int .i64 0) e1;have HDF:Hid (Dev B (((wr.setCell ⟨b,2,none⟩ (.slice none 0 0)).setCell ⟨b,3,none⟩ (.bool false)).setCell ⟨b,4,none⟩ (.int .i64 0)) b ⟨SF,SF,[],false,0⟩):=Lib.hid ⟨gn,gs,_,HDE.out.wpower false 0 e2 (fun q hq=>by rw[heap_setCell_other _ _ _ _ hq,heap_setCell_other _ _ _ _ hq])⟩;have HBE:Hid (Below B w (((wr.setCell ⟨b,2,none⟩ (.slice none 0 0)).setCell ⟨b,3,none⟩ (.bool false)).setCell ⟨b,4,none⟩ (.int .i64 0))):=Lib.hid (((HBi.out.setCell (p:=⟨b,2,none⟩) HDi.out.hb _).setCell (p:=⟨b,3,none⟩) HDi.out.hb _).setCell (p:=⟨b,4,none⟩) HDi.out.hb _);have HOE:Hid (Off devTs w (((wr.setCell ⟨b,2,none⟩ (.slice none 0 0)).setCell ⟨b,3,none⟩ (.bool false)).setCell ⟨b,4,none⟩ (.int .i64 0))):=Lib.hid (((HOi.out.setCell HDi.out.hd (by simp) _).setCell HDE.out.hd (by simp) _).setCell e1 (by simp) _);clear c0 c1 e1 e2;go_wp2;go_end0;rw[HSE.out];exact⟨rfl,HDF.out,HBE.out,HOE.out⟩
end Go.Proofs.YtdmkhmeaphaapaaGreat.V
namespace Go.Proofs.YtdmkhmeaphaapaaGreat.V
open Go.RowKit Go.Sort
set_option linter.unusedVariables false
theorem good_put {st:St}{k:Nat}{s:ByteArray}(hg:Good st)(ha:askI st.now.length st.lim st.left k=0)(hs:s.size=64):Good (putSt st k s):=by
  obtain⟨k',hk',hk⟩:=ask_zero ha;obtain rfl:k=k':=by omega
  have hl:st.lim=true→0<st.left:=fun e=>by
    rcases Int.lt_or_eq_of_le (hg.left0 e) with h3|h3
    · exact h3
    · unfold askI at ha;rw[e,←h3]at ha;simp at ha
  unfold putSt;refine⟨by simp[hg.same],?_,hg.szs,?_,by simp[hg.few],?_,?_,?_⟩
  · intro x hx;rcases List.mem_or_eq_of_mem_set hx with h|h
    · exact hg.szn x h
    · rw[h];exact hs
  · intro p hp;simp only[List.length_set];rcases List.mem_append.1 hp with h|h
    · exact hg.pnd p h
    · rw[List.mem_singleton.1 h];exact⟨hk,hs⟩
  · intro e;simp only at e ⊢;rw[if_pos e];have:=hl e;omega
  · simp only;have:=hg.leftI;split
    · rename_i e;have:=hl e;omega
    · exact this
  · intro i hi;simp only at hi ⊢;rw[List.getElem?_set_ne (fun e=>hi (k,s) (by simp) e)];exact hg.off i (fun p hp=>hi p (by simp[hp]))
theorem good_cut {st:St}{n:Int}(hg:Good st)(h1:-9223372036854775808≤n)(h2:n≤9223372036854775807):Good (cutSt st n):=by
  unfold cutSt;split
  · exact hg
  · exact⟨hg.same,hg.szn,hg.szs,hg.pnd,hg.few,fun e=>by simpa using e,⟨h1,h2⟩,hg.off⟩
theorem good_flush {st:St}(hg:Good st):Good (flushSt st):=
  ⟨rfl,hg.szn,hg.szn,(fun p hp=>by cases hp),hg.few,hg.left0,hg.leftI,fun i _=>rfl⟩
theorem good_restart {st:St}(hg:Good st)(l:List Int):Good (restartSt st l):=by
  have hs:∀x∈applyKept (marks st.pend.length l) st.pend st.safe,x.size=64:=applyKept_size (fun q hq=>(hg.pnd q hq).2) hg.szs;exact⟨rfl,hs,hs,(fun p hp=>by cases hp),by simp[restartSt,applyKept_len,hg.same,hg.few],(fun e=>by cases e),by simp[restartSt],fun i _=>rfl⟩
theorem restart_length (st:St)(hg:Good st)(l:List Int):(restartSt st l).now.length=st.now.length:=by simp[restartSt,applyKept_len,hg.same]
theorem Off.ofBelow {w w':World}(h:Below w.heap.size w w')(ex:List TypeId):Off ex w w':=fun T hT k cs fr hk=>by
  rw[h.block k (lt_of_get hk)];exact hk
theorem Dev.below {B:Nat}{w w':World}{b:Nat}{st:St}(h:Dev B w b st)(hb:Below w.heap.size w w'):Dev B w' b st:=h.off (Off.ofBelow hb []) (by simp) (by simp) (by simp)
theorem Dev.base {B B':Nat}{w:World}{b:Nat}{st:St}(h:Dev B w b st)(hB:B'≤B):Dev B' w b st:=by
  obtain⟨gn,gs,vp,h⟩:=h;refine⟨gn,gs,vp,Nat.le_trans hB h.hb,Nat.le_trans hB h.hgn,Nat.le_trans hB h.hgs,h.ne,h.hd,h.nw,h.sf,h.pd.1,?_⟩;rcases h.pd.2 with hn|⟨g,cap,cur,hv,hg,r⟩
  · exact Or.inl hn
  · exact Or.inr ⟨g,cap,cur,hv,Nat.le_trans hB hg,r⟩
theorem Dev.nowCell {B:Nat}{w:World}{b:Nat}{st:St}(h:Dev B w b st):∃a cap,w.cell? ⟨b,0,none⟩=some (.slice a st.now.length cap):=by
  obtain⟨gn,gs,vp,h⟩:=h;exact⟨_,_,h.cells.1⟩
end Go.Proofs.YtdmkhmeaphaapaaGreat.V
namespace Go.Proofs.YtdmkhmeaphaapaaGreat.V
open Go.RowKit Go.Sort
set_option linter.unusedVariables false
end Go.Proofs.YtdmkhmeaphaapaaGreat.V
