/- Kit. -/
import Derived.Test.YtdmkhmeaphaapaaGreatFJ3
import Derived.Test.YtdmkhmeaphaapaaGreatFW6
import Derived.Test.YtdmkhmeaphaapaaGreatFW3
import Derived.Test.YtdmkhmeaphaapaaGreatFJ1
import Derived.Test.YtdmkhmeaphaapaaGreatFJ4
set_option maxRecDepth 100000
namespace Go.Proofs.YtdmkhmeaphaapaaGreat.V
open Go.RowKit Go.Sort
set_option linter.unusedVariables false
section
variable {B vb b F S A E:Nat}{img:ByteArray}{rv:Value}{op:Bool}{w:World}
set_option maxHeartbeats 2000000 in
theorem read_none (h:VaultAt w vb b F S A 0 img rv op) :
    Calls Tryz.prog 51 #[.pointer (some ⟨vb,0,none⟩)] w fun e w'=>e=.returned (.int .i64 2)∧w=w':=by
  have cS:=scan_none h;clear h;go_enter Tryz.func51,Tryz.ntmps51;go_wp2_with fail;refine cS.mono ?_;rintro e w1 ⟨rfl,rfl⟩;go_wp2;go_ret;exact⟨rfl,rfl⟩
set_option maxHeartbeats 4000000 in
theorem read_c {l:List ByteArray}{x:Nat}(h:VaultAt w vb b F S A E img rv op)(hE:E≠0)(hvb:B≤vb)(hx:x=1+(layB (recs l)).length)(hB:B≤w.heap.size)
    (hc:∀W,Below w.heap.size w W→Calls Tryz.prog 129 #[.pointer (some ⟨b,0,none⟩),.int .i64 F,.int .i64 S] W fun e w'=>∃u,e=.returned (.tuple #[u,.int .i64 (x:Nat),.int .i64 0])∧w'.ownsRow W.heap.size 9 1 u l.length (l.map Value.string)∧Below W.heap.size W w') :
    Calls Tryz.prog 51 #[.pointer (some ⟨vb,0,none⟩)] w fun e w'=>Below B w w'∧Off [84] w w'∧((l=[]∧e=.returned (.int .i64 2)∧VaultAt w' vb b F S A E img rv op)∨∃s0 rs rv',l=s0::rs∧e=.returned (.int .i64 0)∧VaultAt w' vb b F S x E s0 rv' op∧RowAt w.heap.size w' rv' rs):=by
  have HH:=Lib.hid h;have cS:=scan_half (Ps:=fun a m cap y W1=>m=l.length∧y=x∧RowAt w.heap.size W1 (.slice a m cap) l) h hE (fun W hW=>by
    refine(hc W hW).mono ?_;rintro e w' ⟨u,rfl,h1,h2⟩;have h3:RowAt w.heap.size w' u l:=(own_row h1 rfl).base hW.size;rcases h3 with⟨h4,h5⟩|⟨g,off,cap,cur,h5,h6⟩
    · exact⟨none,0,0,x,by rw[h5],⟨by rw[h4];rfl,rfl,Or.inl ⟨h4,rfl⟩⟩,h2⟩
    · exact⟨some ⟨g,off,none⟩,l.length,cap,x,by rw[h5],⟨rfl,rfl,Or.inr ⟨g,off,cap,cur,rfl,h6⟩⟩,h2⟩)
  have HB:=Lib.hid hB;clear h hE hc hB;go_enter Tryz.func51,Tryz.ntmps51;go_wp2_with fail;refine cS.mono ?_;rintro e w2 ⟨a,m,cap,y,W1,⟨hm1,rfl,hrow⟩,hh1,hb1,hcase⟩;have HB1:=Lib.hid hb1;have HH1:=Lib.hid hh1;have HROW:=Lib.hid hrow;clear cS hb1 hh1;rcases hcase with⟨h0,rfl,rfl⟩|⟨h0,rfl,rfl⟩
  · have HL0:Hid (l=[]):=Lib.hid (List.eq_nil_of_length_eq_zero (by omega));clear hrow h0 hm1;go_wp2;go_ret;exact⟨HB1.out.mono HB.out,Off.ofBelow HB1.out _,Or.inl ⟨HL0.out,rfl,HH1.out⟩⟩
  · obtain⟨s0,rs,hl⟩:∃s0 rs,l=s0::rs:=by
      cases l with
      | nil=>simp at hm1;omega
      | cons a t=>exact⟨a,t,rfl⟩
    have HLE:=Lib.hid hl;rcases hrow with⟨h4,_⟩|⟨g,off,cap',cur,hv,hBg,hlc,hcm,hg,hcs,hcells⟩
    · rw[hl]at h4;cases h4
    injection hv with h5 h6 h7;clear h6;subst h5 h7;have hgv:g≠vb:=block_ne hg HH1.out (by decide);have HG2:Hid ((W1.setCell ⟨vb,3,none⟩ (.int .i64 (y:Nat))).heap[g]?=some (.cells cur 9 (0,0))):=Lib.hid (by rw[heap_setCell_other W1 ⟨vb,3,none⟩ g _ hgv];exact hg);have HV2:Hid (VaultAt (W1.setCell ⟨vb,3,none⟩ (.int .i64 (y:Nat))) vb b F S y E img rv op):=Lib.hid (HalfAt.setEnd HH1.out y);have HB2:Hid (Below B w (W1.setCell ⟨vb,3,none⟩ (.int .i64 (y:Nat)))):=Lib.hid ((HB1.out.mono HB.out).setCell (p:=⟨vb,3,none⟩) hvb _);have HO2:Hid (Off [84] w (W1.setCell ⟨vb,3,none⟩ (.int .i64 (y:Nat)))):=Lib.hid ((Off.ofBelow HB1.out _).setCell HH1.out (by decide) _);generalize W1.setCell ⟨vb,3,none⟩ (.int .i64 (y:Nat))=W2 at *;have q0:W2.cell? ⟨g,off,none⟩=some (.string s0):=by
      rw[cell_of_row W2 g _ _ _ _ HG2.out];have:=hcells 0 s0 (by rw[hl];rfl);simpa using this
    obtain⟨v5,v6,v7⟩:=HV2.out.more;have f5:=HV2.out.frozen 5;have f6:=HV2.out.frozen 6;have hrs:m=rs.length+1:=by rw[hm1,hl];rfl
    have HEND:Hid (∀(W:World) rv',VaultAt W vb b F S y E s0 rv' op→Below B w W→Off [84] w W→(rv'=.slice (some ⟨g,off,none⟩) 0 0∧cap=1∨rv'=.slice (some ⟨g,off+1,none⟩) (m-1) (cap-1)∧cap≠1)→Off [84] W2 W→Below B w W∧Off [84] w W∧∃s0 rs rv',l=s0::rs∧VaultAt W vb b F S y E s0 rv' op∧RowAt w.heap.size W rv' rs):=Lib.hid (fun W rv' h1 h2 h3 h4 h5=>by
      have hgW:=h5 _ (by decide) _ _ _ HG2.out;refine⟨h2,h3,s0,rs,rv',hl,h1,Or.inr ?_⟩;rcases h4 with⟨rfl,hc1⟩|⟨rfl,hc1⟩
      · have hr0:rs=[]:=List.eq_nil_of_length_eq_zero (by rw[←hm1,hrs]at hlc;omega);subst hr0;exact⟨g,off,0,cur,rfl,hBg,Nat.le_refl _,by omega,hgW,by omega,fun j s hj=>by cases hj⟩
      · refine⟨g,off+1,cap-1,cur,by rw[hrs];rfl,hBg,by rw[←hm1,hrs]at hlc;omega,by omega,hgW,by rw[←hm1,hrs]at hlc;omega,fun j s hj=>?_⟩;have:=hcells (j+1) s (by rw[hl];exact hj);rw[show off+1+j=off+(j+1) by omega];exact this)
    have HFIN:Hid (∀rv',(rv'=.slice (some ⟨g,off,none⟩) 0 0∧cap=1∨rv'=.slice (some ⟨g,off+1,none⟩) (m-1) (cap-1)∧cap≠1)→Below B w ((W2.setCell ⟨vb,5,none⟩ (.string s0)).setCell ⟨vb,6,none⟩ rv').drew∧Off [84] w ((W2.setCell ⟨vb,5,none⟩ (.string s0)).setCell ⟨vb,6,none⟩ rv').drew∧∃s0' rs rv2,l=s0'::rs∧VaultAt ((W2.setCell ⟨vb,5,none⟩ (.string s0)).setCell ⟨vb,6,none⟩ rv').drew vb b F S y E s0' rv2 op∧RowAt w.heap.size ((W2.setCell ⟨vb,5,none⟩ (.string s0)).setCell ⟨vb,6,none⟩ rv').drew rv2 rs):=Lib.hid (fun rv' hr=>by
      have e1:Off [84] W2 (W2.setCell ⟨vb,5,none⟩ (.string s0)):=(Off.refl _ _).setCell HV2.out (by simp) _;have v1:=HV2.out.setImg s0;have e2:Off [84] (W2.setCell ⟨vb,5,none⟩ (.string s0)) ((W2.setCell ⟨vb,5,none⟩ (.string s0)).setCell ⟨vb,6,none⟩ rv'):=(Off.refl _ _).setCell v1 (by simp) _;exact HEND.out _ rv' (v1.setRecs rv') (((HB2.out.setCell (p:=⟨vb,5,none⟩) hvb _).setCell (p:=⟨vb,6,none⟩) hvb _).drew) ((HO2.out.trans (e1.trans e2)).drew) hr ((e1.trans e2).drew))
    have hcapm:m≤cap:=by rw[hm1];exact hlc
    have h1m:(0:Int)<(m:Int):=by omega
    have h1c:(1:Int)≤(cap:Int):=by omega
    have h1m2:(1:Int)≤(m:Int):=by omega
    have hmc:(m:Int)≤(cap:Int):=by omega
    clear hcells hcs hg hBg hgv hm1 hlc hl hrs hx;by_cases hc1:cap=1
    · have hm1:m=1:=by omega
      subst hc1 hm1;go_wp2_with fail;go_region_with (fail);have HE:=Lib.hid (HFIN.out (.slice (some ⟨g,off,none⟩) 0 0) (by simp));go_wp2;go_ret;obtain⟨h1,h2,s0',rs',rv2,h3,h4,h5⟩:=HE.out;exact⟨h1,h2,Or.inr ⟨s0',rs',rv2,h3,rfl,h4,h5⟩⟩
    · have hc1z:¬((cap:Int)=1):=by omega
      go_wp2_with fail;go_region_with (fail);have HE:=Lib.hid (HFIN.out _ (Or.inr ⟨rfl,hc1⟩));go_wp2;go_ret;obtain⟨h1,h2,s0',rs',rv2,h3,h4,h5⟩:=HE.out;exact⟨h1,h2,Or.inr ⟨s0',rs',rv2,h3,rfl,h4,h5⟩⟩
end
end Go.Proofs.YtdmkhmeaphaapaaGreat.V
namespace Go.Proofs.YtdmkhmeaphaapaaGreat.V
open Go.RowKit Go.Sort
set_option linter.unusedVariables false
end Go.Proofs.YtdmkhmeaphaapaaGreat.V
namespace Go.Proofs.YtdmkhmeaphaapaaGreat.V
open Go.RowKit Go.Sort
set_option linter.unusedVariables false
def isV (h:Nat)(x:List ByteArray):Bool:=!((epochI (x.getD 0 ⟨#[]⟩)==0&&epochI (x.getD h ⟨#[]⟩)==0)||(readX h x).isEmpty)
def mkS (r:List UInt8):ByteArray:=⟨r.toArray⟩
end Go.Proofs.YtdmkhmeaphaapaaGreat.V
namespace Go.Proofs.YtdmkhmeaphaapaaGreat.V
open Go.RowKit Go.Sort
set_option linter.unusedVariables false
theorem call_read:Callable 51:=fun xs W=>Tryz.call51 xs W
theorem call_epoch:Callable 48:=fun xs W=>Tryz.call48 xs W
def OffB (m:Nat)(w w':World):Prop:=∀(T:TypeId),T∉devTs→∀(k:Nat) (cs:Array Value) (fr:Nat×Nat),k<m→w.heap[k]?=some (.cells cs T fr)→w'.heap[k]?=some (.cells cs T fr)
theorem OffB.refl (m:Nat)(w:World):OffB m w w:=fun _ _ _ _ _ _ h=>h
theorem OffB.trans {m:Nat}{a b c:World}(h:OffB m a b)(h':OffB m b c):OffB m a c:=fun T hT k cs fr hm hk=>h' T hT k cs fr hm (h T hT k cs fr hm hk)
theorem OffB.ofBelow {m:Nat}{a b:World}(h:Below m a b):OffB m a b:=fun T hT k cs fr hm hk=>by rw[h.block k hm];exact hk
theorem OffB.ofOff {m:Nat}{a b:World}(h:Off devTs a b):OffB m a b:=fun T hT k cs fr _ hk=>h T hT k cs fr hk
theorem OffB.mono {m m':Nat}{a b:World}(h:OffB m a b)(hm:m'≤m):OffB m' a b:=fun T hT k cs fr hk=>h T hT k cs fr (Nat.lt_of_lt_of_le hk hm)
theorem OffB.vset {m:Nat}{W:World}{vb j:Nat}{x:Value}(hm:m≤vb):OffB m W (W.setCell ⟨vb,j,none⟩ x):=fun T hT k cs fr hk h=>by
  rw[heap_setCell_other W ⟨vb,j,none⟩ k x (by show k≠vb;omega)];exact h
structure OpnV (B b vb n h:Nat)(st:St)(k:Bool)(E A:Nat)(img:ByteArray)(rs:List ByteArray)(rv:Value)(B2:Nat)(W:World):Prop where
  rd:readX h st.now=recs (img::rs)
  end_:A=1+(layB (recs (img::rs))).length
  room:A≤h
  vlt:VaultAt W vb b (bkF h k) h A E img rv true
  row:RowAt B2 W rv rs
  dev:Dev B W b (flushSt (wipesSt st (bkF h k+A) (h-A)))
theorem frV_map (l:List (List UInt8)):frV l=(l.map mkS).map Value.string:=by
  unfold frV;rw[List.map_map];rfl
theorem isV_none {h:Nat}{x:List ByteArray}{k:Bool}(hk:pickX h x=k)(hE:epochI (x.getD (bkF h k) ⟨#[]⟩)=0):isV h x=false:=by
  unfold pickX at hk;have h12:epochI (x.getD 0 ⟨#[]⟩)=0∧epochI (x.getD h ⟨#[]⟩)=0:=by
    cases k with
    | false =>
      have:=of_decide_eq_false hk;simp only[bkF]at hE;omega
    | true =>
      have:=of_decide_eq_true hk;simp only[bkF]at hE;omega
  unfold isV;rw[h12.1,h12.2];rfl
theorem isV_some {h:Nat}{x:List ByteArray}{k:Bool}(hk:pickX h x=k)(hE:epochI (x.getD (bkF h k) ⟨#[]⟩)≠0):isV h x=!(readX h x).isEmpty:=by
  unfold isV;have h12:(epochI (x.getD 0 ⟨#[]⟩)==0&&epochI (x.getD h ⟨#[]⟩)==0)=false:=by
    rw[Bool.and_eq_false_iff];cases k with
    | false=>exact Or.inl (by simpa[bkF]using hE)
    | true=>exact Or.inr (by simpa[bkF]using hE)
  rw[h12,Bool.false_or]
set_option maxHeartbeats 4000000 in
theorem open_do {B b vb n h g:Nat}{k:Bool}{E:Nat}{st:St}{W:World}(hd:Dev B W b st)(hg:Good st)(hl:st.lim=false)(hlen:st.now.length=n)(h2:2≤h)(hn:2*h≤n)(hn2:n≤400)(hp:st.pend.length≤500)(hB:B≤W.heap.size)(hk:pickX h st.now=k)(hE:epochI (st.now.getD (bkF h k) ⟨#[]⟩)=E)
    (hv:VaultAt W vb b (bkF h k) h 1 E ⟨#[]⟩ (.slice none 0 0) true) (hvb:B≤vb) (hgs:StepsAt W g [(51,.pointer (some ⟨vb,0,none⟩)),(52,.pointer (some ⟨vb,0,none⟩)),(53,.pointer (some ⟨b,0,none⟩))]) :
    Calls Tryz.prog 50 #[.pointer (some ⟨vb,0,none⟩),.slice (some ⟨g,0,none⟩) (3:Nat) (3:Nat)] W fun e w'=>∃q:Int,e=.returned (.int .i64 q)∧Below B W w'∧(Off vaTs W w'∧OffB vb W w')∧((q=2∧isV h st.now=false∧Dev B w' b st)∨(q=0∧isV h st.now=true∧∃A img rs rv,OpnV B b vb n h st k E A img rs rv W.heap.size w')):=by
  have hgo:=free_gone hl;have hle:=bkF_le hn k;have keep:∀{W1 W2:World} {T:TypeId} {hb' F' S' A' E':Nat} {R':List Value},HalfAt W1 hb' T b F' S' A' E' R'→Off devTs W1 W2→T∈[82,84,98]→HalfAt W2 hb' T b F' S' A' E' R':=fun h1 h2 h3=>HalfAt.base_off h1 h2 h3
  refine(do_c g 3 [(51,.pointer (some ⟨vb,0,none⟩)),(52,.pointer (some ⟨vb,0,none⟩)),(53,.pointer (some ⟨b,0,none⟩))]
    (fun i W'=>Below B W W'∧(Off vaTs W W'∧OffB vb W W')∧((i=0∧W'=W)∨(1≤i∧isV h st.now=true∧∃A img rs rv,readX h st.now=recs (img::rs)∧A=1+(layB (recs (img::rs))).length∧A≤h∧VaultAt W' vb b (bkF h k) h A E img rv true∧RowAt W.heap.size W' rv rs∧∃st',Dev B W' b st'∧Good st'∧st'.lim=false∧st'.pend.length≤900∧(i=1∧st'=st∨i=2∧st'=wipesSt st (bkF h k+A) (h-A)∨i=3∧st'=flushSt (wipesSt st (bkF h k+A) (h-A))))))
    (fun q W'=>q=2∧Below B W W'∧(Off vaTs W W'∧OffB vb W W')∧isV h st.now=false∧Dev B W' b st∧∃A img rv,VaultAt W' vb b (bkF h k) h A E img rv true)
    hv rfl (by decide) ?_ ⟨Below.refl _ _,⟨Off.refl _ _,OffB.refl _ _⟩,Or.inl ⟨rfl,rfl⟩⟩ ?_ ?_ ?_).mono ?_
  · intro k hk;simp only[List.mem_cons,List.mem_nil_iff,or_false]at hk;rcases hk with rfl|rfl|rfl
    · exact call_read
    · exact call_wipe
    · exact call_flush
  · rintro i W' ⟨_,ho,_⟩;exact ho.1 _ (by decide) _ _ _ hgs
  · rintro i kk W' hk' ⟨hb,ho,hi⟩;have hBW:B≤W'.heap.size:=Nat.le_trans hB hb.size;rcases i with _ | _ | _|i
    · injection hk' with hk';subst hk';have hW:W'=W:=by
        rcases hi with⟨_,h⟩|⟨h,_⟩
        · exact h
        · omega
      subst hW;by_cases hE0:E=0
      · subst hE0;refine(read_none hv).mono ?_;rintro e w' ⟨rfl,rfl⟩;exact⟨2,rfl,Or.inr ⟨by decide,rfl,hb,ho,isV_none hk hE,hd,_,_,_,hv⟩⟩
      · have hR:scanB ((bytesL (bankL st (bkF h k) h)).drop 1)=recs ((readX h st.now).map mkS):=by
          have e1:recs ((readX h st.now).map mkS)=readX h st.now:=mk_recs _;rw[e1];unfold readX bankL;rw[hk]
        refine(read_c (B:=vb) (l:=(readX h st.now).map mkS) hv hE0 (Nat.le_refl _) rfl (Nat.le_of_lt (lt_of_get hv)) (fun W2 hW2=>?_)).mono ?_
        · refine(scan_ok B b st (bkF h k) h W2 (hd.below hW2) hg hgo (openI_ok hgo (by omega) (by omega)) (by omega)).mono ?_;rintro e w' ⟨u,rfl,h1,h3⟩;refine⟨u,by rw[hR],?_,h3⟩;have e1:recs ((readX h st.now).map mkS)=readX h st.now:=mk_recs _;rw[hR,frV_map,e1]at h1;rw[List.length_map];exact h1
        · rintro e w' ⟨hbv,hoo,⟨hl0,rfl,hv'⟩|⟨s0,rs,rv',hlc,rfl,hv',hrow⟩⟩<;>have hbb:=hbv.mono hvb
          · refine⟨2,rfl,Or.inr ⟨by decide,rfl,hbb,⟨hoo.mono (by simp),OffB.ofBelow hbv⟩,?_,hd.off hoo (by decide) (by decide) (by decide),_,_,_,hv'⟩⟩
            · rw[isV_some hk (by rw[hE];exact hE0),List.map_eq_nil_iff.1 hl0];rfl
          · have hrd:readX h st.now=recs (s0::rs):=by rw[←hlc];exact(mk_recs _).symm
            have hAh:1+(layB (recs ((readX h st.now).map mkS))).length≤h:=by
              have e1:recs ((readX h st.now).map mkS)=readX h st.now:=mk_recs _;have h3:=scan_le ((bytesL (bankL st (bkF h k) h)).drop 1);rw[hR,List.length_drop]at h3;have hbl:(bytesL (bankL st (bkF h k) h)).length=h:=by
                unfold bytesL;rw[List.length_map,bankL_length (by omega)]
              omega
            rw[hlc]at hv' hAh;refine⟨0,rfl,Or.inl ⟨rfl,hbb,⟨hoo.mono (by simp),OffB.ofBelow hbv⟩,Or.inr ⟨Nat.le_refl _,?_,_,s0,rs,rv',hrd,rfl,hAh,hv',hrow,st,hd.off hoo (by decide) (by decide) (by decide),hg,hl,by omega,Or.inl ⟨rfl,rfl⟩⟩⟩⟩
            · rw[isV_some hk (by rw[hE];exact hE0),hrd];rfl
    · injection hk' with hk';subst hk';obtain⟨hV,A,img,rs,rv,hrd,hA,hAh,hv',hrow,st',hd',hg',hl',hp',hst⟩:isV h st.now=true∧∃A img rs rv,readX h st.now=recs (img::rs)∧A=1+(layB (recs (img::rs))).length∧A≤h∧VaultAt W' vb b (bkF h k) h A E img rv true∧RowAt W.heap.size W' rv rs∧∃st',Dev B W' b st'∧Good st'∧st'.lim=false∧st'.pend.length≤900∧st'=st:=by
        rcases hi with⟨h,_⟩|⟨_,hV,A,img,rs,rv,h1,h2,h3,h4,h5,st',h6,h7,h8,h9,h10⟩
        · omega
        · refine⟨hV,A,img,rs,rv,h1,h2,h3,h4,h5,st',h6,h7,h8,h9,?_⟩;rcases h10 with⟨_,h⟩|⟨h,_⟩|⟨h,_⟩
          · exact h
          · omega
          · omega
      subst hst;refine(wipe_c (B:=B) (Ps:=fun q w1=>WpP B b st' (bkF h k) A h q w1∧Below B W' w1∧Off devTs W' w1) hv' (by decide) (fun W2 hW2=>?_)).mono ?_
      · refine(wipeq_c (hd'.below hW2) hg' (by omega) (by omega) (by omega) (by omega) (by omega) (Nat.le_trans hBW hW2.size)).mono ?_;rintro e w' ⟨q,he,⟨h1,h3,h4⟩,h5⟩;exact⟨q,he,⟨h1,(hW2.mono hBW).trans h3,(Off.ofBelow hW2 _).trans h4⟩,h5⟩
      · rintro e w' ⟨q,rfl,hq,hbb,hoo⟩;refine⟨q,rfl,?_⟩;rcases hq with⟨rfl,hgo',_⟩|⟨j,hj,hc,hr,hdj⟩
        · rw[free_gone hl']at hgo';cases hgo'
        · obtain⟨g1,g2,g3,g4,g5⟩:=wipes_any (i:=bkF h k+A) hg' j (by omega) hr;rcases hc with⟨rfl,rfl⟩|⟨rfl,hgo'⟩
          · exact Or.inl ⟨rfl,hb.trans hbb,⟨ho.1.trans hoo.va,ho.2.trans (OffB.ofOff hoo)⟩,Or.inr ⟨by omega,hV,A,img,rs,rv,hrd,hA,hAh,keep hv' hoo (by simp),hrow.off hoo.va,_,hdj,g1,g2.trans hl',by omega,Or.inr (Or.inl ⟨rfl,rfl⟩)⟩⟩
          · rw[free_gone (g2.trans hl')]at hgo';cases hgo'
    · injection hk' with hk';subst hk';obtain⟨hV,A,img,rs,rv,hrd,hA,hAh,hv',hrow,st',hd',hg',hl',hp',hst⟩:isV h st.now=true∧∃A img rs rv,readX h st.now=recs (img::rs)∧A=1+(layB (recs (img::rs))).length∧A≤h∧VaultAt W' vb b (bkF h k) h A E img rv true∧RowAt W.heap.size W' rv rs∧∃st',Dev B W' b st'∧Good st'∧st'.lim=false∧st'.pend.length≤900∧st'=wipesSt st (bkF h k+A) (h-A):=by
        rcases hi with⟨h,_⟩|⟨_,hV,A,img,rs,rv,h1,h2,h3,h4,h5,st',h6,h7,h8,h9,h10⟩
        · omega
        · refine⟨hV,A,img,rs,rv,h1,h2,h3,h4,h5,st',h6,h7,h8,h9,?_⟩;rcases h10 with⟨h,_⟩|⟨_,h⟩|⟨h,_⟩
          · omega
          · exact h
          · omega
      refine(flushq_c hd' hg' (by omega) hBW).mono ?_;rintro e w' ⟨q,rfl,hq,hbb,hoo⟩;refine⟨q,rfl,?_⟩;rcases hq with⟨rfl,hgo',_⟩|⟨rfl,_,hdj⟩
      · rw[free_gone hl']at hgo';cases hgo'
      · rw[hst]at hdj;exact Or.inl ⟨rfl,hb.trans hbb,⟨ho.1.trans hoo.va,ho.2.trans (OffB.ofOff hoo)⟩,Or.inr ⟨by omega,hV,A,img,rs,rv,hrd,hA,hAh,keep hv' hoo (by simp),hrow.off hoo.va,_,hdj,by rw[←hst];exact good_flush hg',by rw[←hst];exact hl',Nat.zero_le _,Or.inr (Or.inr ⟨rfl,rfl⟩)⟩⟩
    · cases hk'
  · rintro q W' (⟨_,_,_,hi⟩|⟨_,_,_,_,_,_,A,img,rv,hv'⟩)
    · rcases hi with⟨h,_⟩|⟨_,_,A,img,rs,rv,_,_,_,hv',_⟩
      · omega
      · exact⟨_,_,_,_,_,_,_,_,hv'⟩
    · exact⟨_,_,_,_,_,_,_,_,hv'⟩
  · rintro e w' ⟨q,w1,rfl,hq,rfl⟩;refine⟨q,rfl,?_⟩;rcases hq with⟨rfl,hb,ho,hi⟩|⟨_,rfl,hb,ho,hV,hd',A,img,rv,hv'⟩
    · rcases hi with⟨h,_⟩|⟨_,hV,A,img,rs,rv,hrd,hA,hAh,hv',hrow,st',hd',_,_,_,hst⟩
      · omega
      · have hst':st'=flushSt (wipesSt st (bkF h k+A) (h-A)):=by
          rcases hst with⟨h,_⟩|⟨h,_⟩|⟨_,h⟩
          · omega
          · omega
          · exact h
        subst hst';have hset:Off vaTs w1 (w1.setCell ⟨vb,7,none⟩ (.bool (decide ((0:Int)≠13)))):=va_set hv' (by decide);exact⟨hb.setCell (p:=⟨vb,7,none⟩) hvb _,⟨ho.1.trans hset,ho.2.trans (OffB.vset (Nat.le_refl _))⟩,Or.inr ⟨rfl,hV,A,img,rs,rv,hrd,hA,hAh,hv'.setOpen _,hrow.off hset,hd'.vset hv' (by simp)⟩⟩
    · have hset:Off vaTs w1 (w1.setCell ⟨vb,7,none⟩ (.bool (decide ((2:Int)≠13)))):=va_set hv' (by decide);exact⟨hb.setCell (p:=⟨vb,7,none⟩) hvb _,⟨ho.1.trans hset,ho.2.trans (OffB.vset (Nat.le_refl _))⟩,Or.inl ⟨rfl,hV,hd'.vset hv' (by simp)⟩⟩
end Go.Proofs.YtdmkhmeaphaapaaGreat.V
namespace Go.Proofs.YtdmkhmeaphaapaaGreat.V
open Go.RowKit Go.Sort
set_option linter.unusedVariables false
theorem open_ask {B Bd b n h fb sb g:Nat}{st:St}{W:World}(hd:Dev Bd W b st)(hg:Good st)(hl:st.lim=false)(hlen:st.now.length=n)(hh:n/2=h)(hn2:n≤400)(hB:B≤W.heap.size)(hf:HalfAt W fb 82 b 0 h 1 0 [])(hs:HalfAt W sb 82 b h h 1 0 [])(hne:fb≠sb)(hfB:B≤fb)(hsB:B≤sb)
    (hgs:StepsAt W g [(47,.pointer (some ⟨fb,0,none⟩)),(48,.pointer (some ⟨fb,0,none⟩)),(48,.pointer (some ⟨sb,0,none⟩))]) :
    Calls Tryz.prog 46 #[.slice (some ⟨g,0,none⟩) (3:Nat) (3:Nat)] W fun e w'=>∃q:Int,e=.returned (.int .i64 q)∧Below B W w'∧Off [82] W w'∧((q=1∧n<4)∨(q=0∧4≤n∧HalfAt w' fb 82 b 0 h 1 (epochI (st.now.getD 0 ⟨#[]⟩)) []∧HalfAt w' sb 82 b h h 1 (epochI (st.now.getD h ⟨#[]⟩)) [])):=by
  have hgo:=free_gone hl;have dev:∀{W'},Off [82] W W'→Dev Bd W' b st:=fun ho=>hd.off ho (by decide) (by decide) (by decide)
  refine(inOrder_c g 3 [(47,.pointer (some ⟨fb,0,none⟩)),(48,.pointer (some ⟨fb,0,none⟩)),(48,.pointer (some ⟨sb,0,none⟩))] W
    (fun i W'=>Below B W W'∧Off [82] W W'∧(1≤i→4≤n)∧HalfAt W' fb 82 b 0 h 1 (if 2≤i then epochI (st.now.getD 0 ⟨#[]⟩) else 0) []∧HalfAt W' sb 82 b h h 1 (if 3≤i then epochI (st.now.getD h ⟨#[]⟩) else 0) [])
    (fun q W'=>q=1∧Below B W W'∧Off [82] W W'∧n<4)
    rfl (by decide) ?_ ⟨Below.refl _ _,Off.refl _ _,by omega,hf,hs⟩ ?_ ?_).mono ?_
  · intro k hk;simp only[List.mem_cons,List.mem_nil_iff,or_false]at hk;rcases hk with rfl|rfl|rfl
    · exact call_stands
    · exact call_epoch
    · exact call_epoch
  · rintro i W' ⟨_,ho,_⟩;exact ho _ (by decide) _ _ _ hgs
  · rintro i kk W' hk' ⟨hb,ho,h4,hf',hs'⟩;have hBW:B≤W'.heap.size:=Nat.le_trans hB hb.size;rcases i with _ | _ | _|i
    · injection hk' with hk';subst hk';refine(stands_c hf' (dev ho) hg (by omega)).mono ?_;rintro e w' ⟨rfl,hbb⟩;refine⟨_,rfl,?_⟩;by_cases hn4:4≤n
      · have hq:standsI st 0 h=0:=by
          unfold standsI;have:=ask_ok (k:=0) hgo (by omega);rw[Int.ofNat_zero]at this;rw[show((0:Nat):Int)=0 from rfl,this,if_pos rfl,if_neg (by omega)]
        exact Or.inl ⟨hq,hb.trans (hbb.mono hBW),ho.trans (Off.ofBelow hbb _),fun _=>hn4,HalfAt.below hf' hbb,HalfAt.below hs' hbb⟩
      · have hq:standsI st 0 h=1:=by
          unfold standsI;by_cases hn0:n=0
          · have:askI st.now.length st.lim st.left ((0:Nat):Int)=1:=by
              unfold askI;unfold goneB at hgo;rw[hgo,if_neg (by simp),if_pos (by omega)]
            rw[this,if_neg (by decide)]
          · have:=ask_ok (k:=0) hgo (by omega);rw[this,if_pos rfl,if_pos (by omega)]
        rw[hq];exact Or.inr ⟨by decide,rfl,hb.trans (hbb.mono hBW),ho.trans (Off.ofBelow hbb _),by omega⟩
    · injection hk' with hk';subst hk';have hn4:=h4 (by omega);refine(readEpoch_c (Ps:=fun N q w1=>N=epochI (st.now.getD 0 ⟨#[]⟩)∧q=0) hf' (fun W2 hW2=>?_)).mono ?_
      · refine(epoch_any Bd b st 0 W2 ((dev ho).below hW2) hg hgo (by omega)).mono ?_;rintro e w' ⟨rfl,h2⟩;exact⟨_,_,rfl,⟨rfl,rfl⟩,h2⟩
      · rintro e w' ⟨N,q,w1,rfl,⟨rfl,rfl⟩,hf1,hb1,rfl⟩;have hset:Off [82] w1 (w1.setCell ⟨fb,4,none⟩ (.int .u64 (epochI (st.now.getD 0 ⟨#[]⟩):Nat))):=(Off.refl _ _).setCell hf1 (by simp) _;have hs1:HalfAt w1 sb 82 b h h 1 0 []:=HalfAt.below hs' hb1;refine⟨0,rfl,Or.inl ⟨rfl,(hb.trans (hb1.mono hBW)).setCell (p:=⟨fb,4,none⟩) hfB _,(ho.trans (Off.ofBelow hb1 _)).trans hset,fun _=>hn4,hf1.setEpoch _,?_⟩⟩;unfold HalfAt;rw[heap_setCell_other w1 ⟨fb,4,none⟩ sb _ (fun e=>hne e.symm)];exact hs1
    · injection hk' with hk';subst hk';have hn4:=h4 (by omega);refine(readEpoch_c (Ps:=fun N q w1=>N=epochI (st.now.getD h ⟨#[]⟩)∧q=0) hs' (fun W2 hW2=>?_)).mono ?_
      · refine(epoch_any Bd b st h W2 ((dev ho).below hW2) hg hgo (by omega)).mono ?_;rintro e w' ⟨rfl,h2⟩;exact⟨_,_,rfl,⟨rfl,rfl⟩,h2⟩
      · rintro e w' ⟨N,q,w1,rfl,⟨rfl,rfl⟩,hs1,hb1,rfl⟩;have hset:Off [82] w1 (w1.setCell ⟨sb,4,none⟩ (.int .u64 (epochI (st.now.getD h ⟨#[]⟩):Nat))):=(Off.refl _ _).setCell hs1 (by simp) _;have hf1:HalfAt w1 fb 82 b 0 h 1 (epochI (st.now.getD 0 ⟨#[]⟩)) []:=HalfAt.below hf' hb1;refine⟨0,rfl,Or.inl ⟨rfl,(hb.trans (hb1.mono hBW)).setCell (p:=⟨sb,4,none⟩) hsB _,(ho.trans (Off.ofBelow hb1 _)).trans hset,fun _=>hn4,?_,hs1.setEpoch _⟩⟩;unfold HalfAt;rw[heap_setCell_other w1 ⟨sb,4,none⟩ fb _ hne];exact hf1
    · cases hk'
  · rintro e w' ⟨q,rfl,⟨rfl,hb,ho,h4,hf',hs'⟩|⟨_,rfl,hb,ho,hn⟩⟩
    · exact⟨0,rfl,hb,ho,Or.inr ⟨rfl,h4 (by omega),hf',hs'⟩⟩
    · exact⟨1,rfl,hb,ho,Or.inl ⟨rfl,hn⟩⟩
def OpPost (B b n h:Nat)(st:St)(w:World)(e:Ending)(w':World):Prop:=
  Below B w w'∧(Off vaTs w w'∧OffB w.heap.size w w')∧((n<4∧e=.returned (.tuple #[.pointer none,.int .i64 1])∧Dev B w' b st)∨(4≤n∧isV h st.now=false∧e=.returned (.tuple #[.pointer none,.int .i64 2])∧Dev B w' b st) ∨
    (4≤n∧isV h st.now=true∧∃vb A img rs rv,e=.returned (.tuple #[.pointer (some ⟨vb,0,none⟩),.int .i64 0])∧w.heap.size≤vb∧OpnV B b vb n h st (pickX h st.now) (epochI (st.now.getD (bkF h (pickX h st.now)) ⟨#[]⟩)) A img rs rv w.heap.size w'))
theorem newer_pick (b h:Nat)(x:List ByteArray):(if epochI (x.getD 0 ⟨#[]⟩)<epochI (x.getD h ⟨#[]⟩) then hvV b h h 1 (epochI (x.getD h ⟨#[]⟩)) else hvV b 0 h 1 (epochI (x.getD 0 ⟨#[]⟩)))=hvV b (bkF h (pickX h x)) h 1 (epochI (x.getD (bkF h (pickX h x)) ⟨#[]⟩)):=by
  unfold pickX;by_cases hc:epochI (x.getD 0 ⟨#[]⟩)<epochI (x.getD h ⟨#[]⟩)
  · rw[if_pos hc,decide_eq_true hc];rfl
  · rw[if_neg hc,decide_eq_false hc];rfl
set_option maxHeartbeats 4000000 in
theorem vopen_c {B b n h:Nat}{st:St}{w:World}(hd:Dev B w b st)(hg:Good st)(hl:st.lim=false)(hlen:st.now.length=n)(hh:n/2=h)(hn2:n≤400)(hp:st.pend.length≤500)(hB:B≤w.heap.size) :
    Calls Tryz.prog 22 #[.pointer (some ⟨b,0,none⟩)] w (OpPost B b n h st w):=by
  unfold OpPost;have HD:=Lib.hid hd;have HG:=Lib.hid hg;have HLI:=Lib.hid hl;have HLEN:=Lib.hid hlen;have HP:=Lib.hid hp;obtain⟨a,cap,hc⟩:=hd.nowCell;rw[hlen]at hc;have cH:=halves_c b n cap a w hc (by omega);rw[hh]at cH;unfold hvV at cH;have HH:=Lib.hid hh;obtain⟨k,hk⟩:∃k,pickX h st.now=k:=⟨_,rfl⟩;have hnp:=newer_pick b h st.now;rw[hk]at hnp ⊢;have HPK:=Lib.hid hk;obtain⟨E,hE⟩:∃E,epochI (st.now.getD (bkF h k) ⟨#[]⟩)=E:=⟨_,rfl⟩;rw[hE]at hnp ⊢;have HEP:=Lib.hid hE;have HNP:=Lib.hid hnp;clear hnp hk hE;have HBX:=Lib.hid hB;have HASK:Hid (∀w1,Below w.heap.size w w1→Calls Tryz.prog 46 #[.slice (some ⟨w1.heap.size+1+1,0,none⟩) (3:Nat) (3:Nat)] (((w1.alloc (.cells #[.pointer (some ⟨b,0,none⟩),.int .i64 0,.int .i64 h,.int .i64 1,.int .u64 0] 82)).alloc (.cells #[.pointer (some ⟨b,0,none⟩),.int .i64 h,.int .i64 h,.int .i64 1,.int .u64 0] 82)).alloc (.cells #[.func (.func 47) #[.pointer (some ⟨w1.heap.size,0,none⟩)] #[],.func (.func 48) #[.pointer (some ⟨w1.heap.size,0,none⟩)] #[],.func (.func 48) #[.pointer (some ⟨w1.heap.size+1,0,none⟩)] #[]] 169)) fun e w'=>∃q:Int,e=.returned (.int .i64 q)∧Below w.heap.size w w'∧Off [82] w w'∧((q=1∧n<4)∨(q=0∧4≤n∧HalfAt w' w1.heap.size 82 b 0 h 1 (epochI (st.now.getD 0 ⟨#[]⟩)) []∧HalfAt w' (w1.heap.size+1) 82 b h h 1 (epochI (st.now.getD h ⟨#[]⟩)) []))):=Lib.hid (fun w1 hb1=>by
    have hB2:Below w.heap.size w (((w1.alloc (.cells #[.pointer (some ⟨b,0,none⟩),.int .i64 0,.int .i64 h,.int .i64 1,.int .u64 0] 82)).alloc (.cells #[.pointer (some ⟨b,0,none⟩),.int .i64 h,.int .i64 h,.int .i64 1,.int .u64 0] 82)).alloc (.cells #[.func (.func 47) #[.pointer (some ⟨w1.heap.size,0,none⟩)] #[],.func (.func 48) #[.pointer (some ⟨w1.heap.size,0,none⟩)] #[],.func (.func 48) #[.pointer (some ⟨w1.heap.size+1,0,none⟩)] #[]] 169)):=((hb1.alloc hb1.size _).alloc (by have:=hb1.size;simp;omega) _).alloc (by have:=hb1.size;simp;omega) _;have h1:=open_ask (B:=w.heap.size) (fb:=w1.heap.size) (sb:=w1.heap.size+1) (g:=w1.heap.size+1+1) (hd.below hB2) hg hl hlen hh hn2 hB2.size (by unfold HalfAt;rw[Below.heap_alloc _ _ _ (by simp;omega),Below.heap_alloc _ _ _ (by simp)];exact heap_alloc_new _ _) (by unfold HalfAt;rw[Below.heap_alloc _ _ _ (by simp)];exact heap_alloc2_new _ _ _) (by omega) hb1.size (by have:=hb1.size;omega) (heap_alloc3_new _ _ _ _);refine h1.mono ?_;rintro e w' ⟨q,he,hb,ho,hq⟩;exact⟨q,he,hB2.trans hb,(Off.ofBelow hB2 _).trans ho,hq⟩)
  clear hd hg hl hlen hc hp hh;go_enter Tryz.func22,Tryz.ntmps22;go_wp2_with fail;refine cH.mono ?_;rintro e w1 ⟨rfl,hb1⟩;have HB1:=Lib.hid hb1;clear hb1 cH;go_wp2_with fail;refine(HASK.out w1 HB1.out).mono ?_;rintro e w3 ⟨q,rfl,hb3,ho3,hq⟩;have HB3:=Lib.hid hb3;have HO3:=Lib.hid ho3;clear hb3 ho3;rcases hq with⟨rfl,hn4⟩|⟨rfl,hn4,hf3,hs3⟩
  · have HN4:=Lib.hid hn4;clear hn4;go_wp2;go_ret2;exact⟨HB3.out.mono HBX.out,⟨HO3.out.mono (by simp),OffB.ofBelow HB3.out⟩,Or.inl ⟨HN4.out,rfl,HD.out.off HO3.out (by decide) (by decide) (by decide)⟩⟩
  · have HN4:=Lib.hid hn4;obtain⟨f0,f1,f2,f3,f4⟩:=hf3.cells;obtain⟨s0,s1,s2,s3,s4⟩:=hs3.cells;have cN:=newer_c b 0 h 1 (epochI (st.now.getD 0 ⟨#[]⟩)) h h 1 (epochI (st.now.getD h ⟨#[]⟩)) w3;rw[HNP.out]at cN;unfold hvV at cN;have HDO:Hid (∀W,Below w3.heap.size w3 W→Calls Tryz.prog 50 #[.pointer (some ⟨W.heap.size,0,none⟩),.slice (some ⟨W.heap.size+1,0,none⟩) (3:Nat) (3:Nat)] ((W.alloc (.cells #[.pointer (some ⟨b,0,none⟩),.int .i64 (bkF h k),.int .i64 h,.int .i64 1,.int .u64 E,.string ⟨#[]⟩,.slice none 0 0,.bool true] 84)).alloc (.cells #[.func (.func 51) #[.pointer (some ⟨W.heap.size,0,none⟩)] #[],.func (.func 52) #[.pointer (some ⟨W.heap.size,0,none⟩)] #[],.func (.func 53) #[.pointer (some ⟨b,0,none⟩)] #[]] 169)) fun e w'=>∃q:Int,e=.returned (.int .i64 q)∧Below B w w'∧(Off vaTs w w'∧OffB w.heap.size w w')∧w.heap.size≤W.heap.size∧((q=2∧isV h st.now=false∧Dev B w' b st)∨(q=0∧isV h st.now=true∧∃A img rs rv,OpnV B b W.heap.size n h st k E A img rs rv w.heap.size w'))):=Lib.hid (fun W hW=>by
      have hwW:w.heap.size≤W.heap.size:=Nat.le_trans HB3.out.size hW.size;have hB2:Below w.heap.size w ((W.alloc (.cells #[.pointer (some ⟨b,0,none⟩),.int .i64 (bkF h k),.int .i64 h,.int .i64 1,.int .u64 E,.string ⟨#[]⟩,.slice none 0 0,.bool true] 84)).alloc (.cells #[.func (.func 51) #[.pointer (some ⟨W.heap.size,0,none⟩)] #[],.func (.func 52) #[.pointer (some ⟨W.heap.size,0,none⟩)] #[],.func (.func 53) #[.pointer (some ⟨b,0,none⟩)] #[]] 169)):=((HB3.out.trans (hW.mono HB3.out.size)).alloc hwW _).alloc (by simp;omega) _;have hO2:Off [82] w ((W.alloc (.cells #[.pointer (some ⟨b,0,none⟩),.int .i64 (bkF h k),.int .i64 h,.int .i64 1,.int .u64 E,.string ⟨#[]⟩,.slice none 0 0,.bool true] 84)).alloc (.cells #[.func (.func 51) #[.pointer (some ⟨W.heap.size,0,none⟩)] #[],.func (.func 52) #[.pointer (some ⟨W.heap.size,0,none⟩)] #[],.func (.func 53) #[.pointer (some ⟨b,0,none⟩)] #[]] 169)):=((HO3.out.trans (Off.ofBelow hW _)).alloc _).alloc _;have h2h:2≤h∧2*h≤n:=by have:=HH.out;have:=HN4.out;omega
      have h1:=open_do (B:=B) (vb:=W.heap.size) (g:=W.heap.size+1) (k:=k) (E:=E) (n:=n) (h:=h) (HD.out.off hO2 (by decide) (by decide) (by decide)) HG.out HLI.out HLEN.out h2h.1 h2h.2 hn2 HP.out (Nat.le_trans HBX.out hB2.size) HPK.out HEP.out (by unfold VaultAt HalfAt;rw[Below.heap_alloc _ _ _ (by simp)];exact heap_alloc_new _ _) (Nat.le_trans HBX.out hwW) (heap_alloc2_new _ _ _);refine h1.mono ?_;rintro e w' ⟨q,he,hb,ho,hq⟩;refine⟨q,he,(hB2.mono HBX.out).trans hb,⟨(hO2.mono (by simp)).trans ho.1,(OffB.ofBelow hB2).trans (ho.2.mono hwW)⟩,hwW,?_⟩;rcases hq with⟨h3,h4,h5⟩|⟨h3,h4,A,img,rs,rv,h5⟩
      · exact Or.inl ⟨h3,h4,h5⟩
      · exact Or.inr ⟨h3,h4,A,img,rs,rv,h5.rd,h5.end_,h5.room,h5.vlt,h5.row.base hB2.size,h5.dev⟩)
    clear hf3 hs3 hn4;go_wp2_with fail;refine cN.mono ?_;rintro e w4 ⟨rfl,hb4⟩;have HB4:=Lib.hid hb4;clear hb4 cN f0 f1 f2 f3 f4 s0 s1 s2 s3 s4;go_wp2_with fail;refine(HDO.out w4 HB4.out).mono ?_;rintro e w5 ⟨q,rfl,hb5,ho5,hvw,hq⟩;have HB5:=Lib.hid hb5;have HO5:=Lib.hid ho5;have HVW:=Lib.hid hvw;clear hb5 ho5 hvw;rcases hq with⟨rfl,h3,h4⟩|⟨rfl,h3,h4⟩
    · have H3:=Lib.hid h3;have H4:=Lib.hid h4;clear h3 h4;go_wp2;go_ret2;exact⟨HB5.out,HO5.out,Or.inr (Or.inl ⟨HN4.out,H3.out,rfl,H4.out⟩)⟩
    · have H3:=Lib.hid h3;have H4:=Lib.hid h4;clear h3 h4;go_wp2;go_ret2;obtain⟨A,img,rs,rv,h6⟩:=H4.out;exact⟨HB5.out,HO5.out,Or.inr (Or.inr ⟨HN4.out,H3.out,w4.heap.size,A,img,rs,rv,rfl,HVW.out,h6⟩)⟩
end Go.Proofs.YtdmkhmeaphaapaaGreat.V
