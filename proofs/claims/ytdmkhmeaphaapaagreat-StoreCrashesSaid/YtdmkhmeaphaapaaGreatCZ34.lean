/- Kit. -/
import Derived.Test.YtdmkhmeaphaapaaGreatCZ33
import Derived.Test.YtdmkhmeaphaapaaGreatCZ29
import Derived.Test.YtdmkhmeaphaapaaGreatCZ24
import Derived.Test.YtdmkhmeaphaapaaGreatCZ31
import Derived.Test.YtdmkhmeaphaapaaGreatCZ0
set_option maxRecDepth 100000
set_option linter.unusedVariables false
set_option linter.unusedSimpArgs false
namespace Go.Proofs.YtdmkhmeaphaapaaGreat.V
open Go.RowKit Go.Sort
section
variable {B vb b F S A E:Nat}{img:ByteArray}{rv:Value}{op:Bool}{w:World}
set_option maxHeartbeats 2000000 in
theorem jo (h:Ay w vb b F S A 0 img rv op) :
 Calls Tryz.prog 51 #[.pointer (some ⟨vb,0,none⟩)] w fun e w'=>e=.returned (.int .i64 2)∧w=w':=by
 have cS:=jb h;clear h;go_enter Tryz.func51,Tryz.ntmps51;go_wp2_with fail;refine cS.mono ?_;rintro e w1 ⟨rfl,rfl⟩;go_wp2;go_ret;exact⟨rfl,rfl⟩
set_option maxHeartbeats 4000000 in
theorem zT {l:List ByteArray}{x:Nat}(h:Ay w vb b F S A E img rv op)(hE:E≠0)(hvb:B≤vb)(hx:x=1+(BZ (recs l)).length)(hB:B≤w.heap.size)
 (hc:∀W,Below w.heap.size w W→Calls Tryz.prog 129 #[.pointer (some ⟨b,0,none⟩),.int .i64 F,.int .i64 S] W fun e w'=>∃u,e=.returned (.tuple #[u,.int .i64 (x:Nat),.int .i64 0])∧w'.ownsRow W.heap.size 9 1 u l.length (l.map Value.string)∧Below W.heap.size W w') :
 Calls Tryz.prog 51 #[.pointer (some ⟨vb,0,none⟩)] w fun e w'=>Below B w w'∧Off [84] w w'∧((l=[]∧e=.returned (.int .i64 2)∧Ay w' vb b F S A E img rv op)∨∃s0 rs rv',l=s0::rs∧e=.returned (.int .i64 0)∧Ay w' vb b F S x E s0 rv' op∧CX w.heap.size w' rv' rs):=by
 have HH:=Aa h;have cS:=jd (Ps:=fun a m cap y W1=>m=l.length∧y=x∧CX w.heap.size W1 (.slice a m cap) l) h hE (fun W hW=>by
  refine(hc W hW).mono ?_;rintro e w' ⟨u,rfl,h1,h2⟩;have h3:CX w.heap.size w' u l:=(WT h1 rfl).base hW.size;rcases h3 with⟨h4,h5⟩|⟨g,off,cap,cur,h5,h6⟩
  · exact⟨none,0,0,x,by rw[h5],⟨by rw[h4];rfl,rfl,Or.inl ⟨h4,rfl⟩⟩,h2⟩
  · exact⟨some ⟨g,off,none⟩,l.length,cap,x,by rw[h5],⟨rfl,rfl,Or.inr ⟨g,off,cap,cur,rfl,h6⟩⟩,h2⟩)
 have HB:=Aa hB;clear h hE hc hB;go_enter Tryz.func51,Tryz.ntmps51;go_wp2_with fail;refine cS.mono ?_;rintro e w2 ⟨a,m,cap,y,W1,⟨hm1,rfl,hrow⟩,Y4,hb1,hcase⟩;have HB1:=Aa hb1;have yh:=Aa Y4;have Ab1:=Aa hrow;clear cS hb1 Y4;rcases hcase with⟨h0,rfl,rfl⟩|⟨h0,rfl,rfl⟩
 · have zm:Hid (l=[]):=Aa (Kw (by omega));clear hrow h0 hm1;go_wp2;go_ret;exact⟨HB1.out.mono HB.out,Off.Ar HB1.out _,Or.inl ⟨zm.out,rfl,yh.out⟩⟩
 · obtain⟨s0,rs,hl⟩:∃s0 rs,l=s0::rs:=by
    cases l with
    | nil=>simp at hm1;omega
    | cons a t=>exact⟨a,t,rfl⟩
   have Uo:=Aa hl;rcases hrow with⟨h4,_⟩|⟨g,off,cap',cur,hv,hBg,hlc,hcm,hg,hcs,hcells⟩
   · rw[hl]at h4;cases h4
   injection hv with h5 h6 h7;clear h6;subst h5 h7;have hgv:g≠vb:=Ci hg yh.out (by decide);have HG2:Hid ((W1.setCell ⟨vb,3,none⟩ (.int .i64 (y:Nat))).heap[g]?=some (.cells cur 9 (0,0))):=Aa (by rw[heap_setCell_other W1 ⟨vb,3,none⟩ g _ hgv];exact hg);have xW:Hid (Ay (W1.setCell ⟨vb,3,none⟩ (.int .i64 (y:Nat))) vb b F S y E img rv op):=Aa (Af.WJ yh.out y);have HB2:Hid (Below B w (W1.setCell ⟨vb,3,none⟩ (.int .i64 (y:Nat)))):=Aa ((HB1.out.mono HB.out).setCell (p:=⟨vb,3,none⟩) hvb _);have JQ:Hid (Off [84] w (W1.setCell ⟨vb,3,none⟩ (.int .i64 (y:Nat)))):=Aa ((Off.Ar HB1.out _).setCell yh.out (by decide) _);generalize W1.setCell ⟨vb,3,none⟩ (.int .i64 (y:Nat))=W2 at *;have q0:W2.cell? ⟨g,off,none⟩=some (.string s0):=by
    rw[AB W2 g _ _ _ _ HG2.out];have:=hcells 0 s0 (by rw[hl];rfl);simpa using this
   obtain⟨v5,v6,v7⟩:=xW.out.more;have f5:=xW.out.frozen 5;have f6:=xW.out.frozen 6;have hrs:m=rs.length+1:=by rw[hm1,hl];rfl
   have ek:Hid (∀(W:World) rv',Ay W vb b F S y E s0 rv' op→Below B w W→Off [84] w W→(rv'=.slice (some ⟨g,off,none⟩) 0 0∧cap=1∨rv'=.slice (some ⟨g,off+1,none⟩) (m-1) (cap-1)∧cap≠1)→Off [84] W2 W→Below B w W∧Off [84] w W∧∃s0 rs rv',l=s0::rs∧Ay W vb b F S y E s0 rv' op∧CX w.heap.size W rv' rs):=Aa (fun W rv' h1 h2 h3 h4 h5=>by
    have hgW:=h5 _ (by decide) _ _ _ HG2.out;refine⟨h2,h3,s0,rs,rv',hl,h1,Or.inr ?_⟩;rcases h4 with⟨rfl,hc1⟩|⟨rfl,hc1⟩
    · have hr0:rs=[]:=Kw (by rw[←hm1,hrs]at hlc;omega);subst hr0;exact⟨g,off,0,cur,rfl,hBg,Ae _,by omega,hgW,by omega,fun j s hj=>by cases hj⟩
    · refine⟨g,off+1,cap-1,cur,by rw[hrs];rfl,hBg,by rw[←hm1,hrs]at hlc;omega,by omega,hgW,by rw[←hm1,hrs]at hlc;omega,fun j s hj=>?_⟩;have:=hcells (j+1) s (by rw[hl];exact hj);rw[show off+1+j=off+(j+1) by omega];exact this)
   have Ff:Hid (∀rv',(rv'=.slice (some ⟨g,off,none⟩) 0 0∧cap=1∨rv'=.slice (some ⟨g,off+1,none⟩) (m-1) (cap-1)∧cap≠1)→Below B w ((W2.setCell ⟨vb,5,none⟩ (.string s0)).setCell ⟨vb,6,none⟩ rv').drew∧Off [84] w ((W2.setCell ⟨vb,5,none⟩ (.string s0)).setCell ⟨vb,6,none⟩ rv').drew∧∃s0' rs zR,l=s0'::rs∧Ay ((W2.setCell ⟨vb,5,none⟩ (.string s0)).setCell ⟨vb,6,none⟩ rv').drew vb b F S y E s0' zR op∧CX w.heap.size ((W2.setCell ⟨vb,5,none⟩ (.string s0)).setCell ⟨vb,6,none⟩ rv').drew zR rs):=Aa (fun rv' hr=>by
    have e1:Off [84] W2 (W2.setCell ⟨vb,5,none⟩ (.string s0)):=(Off.refl _ _).setCell xW.out (by simp) _;have v1:=xW.out.zQ s0;have e2:Off [84] (W2.setCell ⟨vb,5,none⟩ (.string s0)) ((W2.setCell ⟨vb,5,none⟩ (.string s0)).setCell ⟨vb,6,none⟩ rv'):=(Off.refl _ _).setCell v1 (by simp) _;exact ek.out _ rv' (v1.WH rv') (((HB2.out.setCell (p:=⟨vb,5,none⟩) hvb _).setCell (p:=⟨vb,6,none⟩) hvb _).drew) ((JQ.out.trans (e1.trans e2)).drew) hr ((e1.trans e2).drew))
   have Ac8:m≤cap:=by rw[hm1];exact hlc
   have h1m:(0:Int)<(m:Int):=by omega
   have h1c:(1:Int)≤(cap:Int):=by omega
   have AdD:(1:Int)≤(m:Int):=by omega
   have hmc:(m:Int)≤(cap:Int):=by omega
   clear hcells hcs hg hBg hgv hm1 hlc hl hrs hx;by_cases hc1:cap=1
   · have hm1:m=1:=by omega
     subst hc1 hm1;go_wp2_with fail;go_region_with (fail);have HE:=Aa (Ff.out (.slice (some ⟨g,off,none⟩) 0 0) (by simp));go_wp2;go_ret;obtain⟨h1,h2,s0',rs',zR,h3,h4,h5⟩:=HE.out;exact⟨h1,h2,Or.inr ⟨s0',rs',zR,h3,rfl,h4,h5⟩⟩
   · have Ady:¬((cap:Int)=1):=by omega
     go_wp2_with fail;go_region_with (fail);have HE:=Aa (Ff.out _ (Or.inr ⟨rfl,hc1⟩));go_wp2;go_ret;obtain⟨h1,h2,s0',rs',zR,h3,h4,h5⟩:=HE.out;exact⟨h1,h2,Or.inr ⟨s0',rs',zR,h3,rfl,h4,h5⟩⟩
end
def gD (h:Nat)(x:List ByteArray):Bool:=!((AO (x.getD 0 ⟨#[]⟩)==0&&AO (x.getD h ⟨#[]⟩)==0)||(FO h x).isEmpty)
def mkS (r:List UInt8):ByteArray:=⟨r.toArray⟩
theorem lD:Fg 51:=fun xs W=>Tryz.call51 xs W
theorem Ub:Fg 48:=fun xs W=>Tryz.call48 xs W
def Gt (m:Nat)(w w':World):Prop:=∀(T:TypeId),T∉AZ→∀(k:Nat) (cs:Array Value) (fr:Nat×Nat),k<m→w.heap[k]?=some (.cells cs T fr)→w'.heap[k]?=some (.cells cs T fr)
theorem Gt.refl (m:Nat)(w:World):Gt m w w:=fun _ _ _ _ _ _ h=>h
theorem Gt.trans {m:Nat}{a b c:World}(h:Gt m a b)(h':Gt m b c):Gt m a c:=fun T hT k cs fr hm hk=>h' T hT k cs fr hm (h T hT k cs fr hm hk)
theorem Gt.Ar {m:Nat}{a b:World}(h:Below m a b):Gt m a b:=fun T hT k cs fr hm hk=>by rw[h.block k hm];exact hk
theorem Gt.Vs {m:Nat}{a b:World}(h:Off AZ a b):Gt m a b:=fun T hT k cs fr _ hk=>h T hT k cs fr hk
theorem Gt.mono {m m':Nat}{a b:World}(h:Gt m a b)(hm:m'≤m):Gt m' a b:=fun T hT k cs fr hk=>h T hT k cs fr (Nat.lt_of_lt_of_le hk hm)
theorem Gt.Mc {m:Nat}{W:World}{vb j:Nat}{x:Value}(hm:m≤vb):Gt m W (W.setCell ⟨vb,j,none⟩ x):=fun T hT k cs fr hk h=>by
 rw[heap_setCell_other W ⟨vb,j,none⟩ k x (by show k≠vb;omega)];exact h
structure AaQ (B b vb n h:Nat)(st:St)(k:Bool)(E A:Nat)(img:ByteArray)(rs:List ByteArray)(rv:Value)(B2:Nat)(W:World):Prop where
 rd:FO h st.now=recs (img::rs)
 end_:A=1+(BZ (recs (img::rs))).length
 room:A≤h
 Md:Ay W vb b (BH h k) h A E img rv true
 row:CX B2 W rv rs
 dev:Dev B W b (Dt (AQ st (BH h k+A) (h-A)))
theorem xD (l:List (List UInt8)):UO l=(l.map mkS).map Value.string:=by
 unfold UO;rw[List.map_map];rfl
theorem qi {h:Nat}{x:List ByteArray}{k:Bool}(hk:I8 h x=k)(hE:AO (x.getD (BH h k) ⟨#[]⟩)=0):gD h x=false:=by
 unfold I8 at hk;have h12:AO (x.getD 0 ⟨#[]⟩)=0∧AO (x.getD h ⟨#[]⟩)=0:=by
  cases k with
  | false =>
   have:=of_decide_eq_false hk;simp only[BH]at hE;omega
  | true =>
   have:=FL hk;simp only[BH]at hE;omega
 unfold gD;rw[h12.1,h12.2];rfl
theorem Tt {h:Nat}{x:List ByteArray}{k:Bool}(hk:I8 h x=k)(hE:AO (x.getD (BH h k) ⟨#[]⟩)≠0):gD h x=!(FO h x).isEmpty:=by
 unfold gD;have h12:(AO (x.getD 0 ⟨#[]⟩)==0&&AO (x.getD h ⟨#[]⟩)==0)=false:=by
  rw[Bool.and_eq_false_iff];cases k with
  | false=>exact Or.inl (by simpa[BH]using hE)
  | true=>exact Or.inr (by simpa[BH]using hE)
 rw[h12,Bool.false_or]
set_option maxHeartbeats 4000000 in
theorem vX {B b vb n h g:Nat}{k:Bool}{E:Nat}{st:St}{W:World}(hd:Dev B W b st)(hg:Good st)(hl:st.lim=false)(hlen:st.now.length=n)(h2:2≤h)(hn:2*h≤n)(hn2:n≤400)(hp:st.pend.length≤500)(hB:B≤W.heap.size)(hk:I8 h st.now=k)(hE:AO (st.now.getD (BH h k) ⟨#[]⟩)=E)
 (hv:Ay W vb b (BH h k) h 1 E ⟨#[]⟩ (.slice none 0 0) true) (hvb:B≤vb) (hgs:Hr W g [(51,.pointer (some ⟨vb,0,none⟩)),(52,.pointer (some ⟨vb,0,none⟩)),(53,.pointer (some ⟨b,0,none⟩))]) :
 Calls Tryz.prog 50 #[.pointer (some ⟨vb,0,none⟩),.slice (some ⟨g,0,none⟩) (3:Nat) (3:Nat)] W fun e w'=>∃q:Int,e=.returned (.int .i64 q)∧Below B W w'∧(Off DT W w'∧Gt vb W w')∧((q=2∧gD h st.now=false∧Dev B w' b st)∨(q=0∧gD h st.now=true∧∃A img rs rv,AaQ B b vb n h st k E A img rs rv W.heap.size w')):=by
 have hgo:=Cf hl;have hle:=Gc hn k;have keep:∀{W1 W2:World} {T:TypeId} {hb' F' S' A' E':Nat} {R':List Value},Af W1 hb' T b F' S' A' E' R'→Off AZ W1 W2→T∈[82,84,98]→Af W2 hb' T b F' S' A' E' R':=fun h1 h2 h3=>Af.KU h1 h2 h3
 refine(rM g 3 [(51,.pointer (some ⟨vb,0,none⟩)),(52,.pointer (some ⟨vb,0,none⟩)),(53,.pointer (some ⟨b,0,none⟩))]
  (fun i W'=>Below B W W'∧(Off DT W W'∧Gt vb W W')∧((i=0∧W'=W)∨(1≤i∧gD h st.now=true∧∃A img rs rv,FO h st.now=recs (img::rs)∧A=1+(BZ (recs (img::rs))).length∧A≤h∧Ay W' vb b (BH h k) h A E img rv true∧CX W.heap.size W' rv rs∧∃st',Dev B W' b st'∧Good st'∧st'.lim=false∧st'.pend.length≤900∧(i=1∧st'=st∨i=2∧st'=AQ st (BH h k+A) (h-A)∨i=3∧st'=Dt (AQ st (BH h k+A) (h-A))))))
  (fun q W'=>q=2∧Below B W W'∧(Off DT W W'∧Gt vb W W')∧gD h st.now=false∧Dev B W' b st∧∃A img rv,Ay W' vb b (BH h k) h A E img rv true)
  hv rfl (by decide) ?_ ⟨Ad _ _,⟨Off.refl _ _,Gt.refl _ _⟩,Or.inl ⟨rfl,rfl⟩⟩ ?_ ?_ ?_).mono ?_
 · intro k hk;simp only[List.mem_cons,List.mem_nil_iff,or_false]at hk;rcases hk with rfl|rfl|rfl
   · exact lD
   · exact Nf
   · exact Gb
 · rintro i W' ⟨_,ho,_⟩;exact ho.1 _ (by decide) _ _ _ hgs
 · rintro i kk W' hk' ⟨hb,ho,hi⟩;have hBW:B≤W'.heap.size:=Ao hB hb.size;rcases i with _ | _ | _|i
   · injection hk' with hk';subst hk';have hW:W'=W:=by
      rcases hi with⟨_,h⟩|⟨h,_⟩
      · exact h
      · omega
     subst hW;by_cases hE0:E=0
     · subst hE0;refine(jo hv).mono ?_;rintro e w' ⟨rfl,rfl⟩;exact⟨2,rfl,Or.inr ⟨by decide,rfl,hb,ho,qi hk hE,hd,_,_,_,hv⟩⟩
     · have hR:DZ ((Ac (Hq st (BH h k) h)).drop 1)=recs ((FO h st.now).map mkS):=by
        have e1:recs ((FO h st.now).map mkS)=FO h st.now:=Rx _;rw[e1];unfold FO Hq;rw[hk]
       refine(zT (B:=vb) (l:=(FO h st.now).map mkS) hv hE0 (Ae _) rfl (Nat.le_of_lt (Ab hv)) (fun W2 hW2=>?_)).mono ?_
       · refine(vL B b st (BH h k) h W2 (hd.below hW2) hg hgo (G9 hgo (by omega) (by omega)) (by omega)).mono ?_;rintro e w' ⟨u,rfl,h1,h3⟩;refine⟨u,by rw[hR],?_,h3⟩;have e1:recs ((FO h st.now).map mkS)=FO h st.now:=Rx _;rw[hR,xD,e1]at h1;rw[DW];exact h1
       · rintro e w' ⟨hbv,Ee,⟨hl0,rfl,hv'⟩|⟨s0,rs,rv',hlc,rfl,hv',hrow⟩⟩<;>have hbb:=hbv.mono hvb
         · refine⟨2,rfl,Or.inr ⟨by decide,rfl,hbb,⟨Ee.mono (by simp),Gt.Ar hbv⟩,?_,hd.off Ee (by decide) (by decide) (by decide),_,_,_,hv'⟩⟩
           · rw[Tt hk (by rw[hE];exact hE0),List.map_eq_nil_iff.1 hl0];rfl
         · have hrd:FO h st.now=recs (s0::rs):=by rw[←hlc];exact(Rx _).symm
           have gU:1+(BZ (recs ((FO h st.now).map mkS))).length≤h:=by
            have e1:recs ((FO h st.now).map mkS)=FO h st.now:=Rx _;have h3:=vM ((Ac (Hq st (BH h k) h)).drop 1);rw[hR,Ea]at h3;have hbl:(Ac (Hq st (BH h k) h)).length=h:=by
             unfold Ac;rw[DW,Pz (by omega)]
            omega
           rw[hlc]at hv' gU;refine⟨0,rfl,Or.inl ⟨rfl,hbb,⟨Ee.mono (by simp),Gt.Ar hbv⟩,Or.inr ⟨Ae _,?_,_,s0,rs,rv',hrd,rfl,gU,hv',hrow,st,hd.off Ee (by decide) (by decide) (by decide),hg,hl,by omega,Or.inl ⟨rfl,rfl⟩⟩⟩⟩
           · rw[Tt hk (by rw[hE];exact hE0),hrd];rfl
   · injection hk' with hk';subst hk';obtain⟨hV,A,img,rs,rv,hrd,hA,gU,hv',hrow,st',hd',hg',hl',hp',hst⟩:gD h st.now=true∧∃A img rs rv,FO h st.now=recs (img::rs)∧A=1+(BZ (recs (img::rs))).length∧A≤h∧Ay W' vb b (BH h k) h A E img rv true∧CX W.heap.size W' rv rs∧∃st',Dev B W' b st'∧Good st'∧st'.lim=false∧st'.pend.length≤900∧st'=st:=by
      rcases hi with⟨h,_⟩|⟨_,hV,A,img,rs,rv,h1,h2,h3,h4,h5,st',h6,h7,h8,h9,h10⟩
      · omega
      · refine⟨hV,A,img,rs,rv,h1,h2,h3,h4,h5,st',h6,h7,h8,h9,?_⟩;rcases h10 with⟨_,h⟩|⟨h,_⟩|⟨h,_⟩
        · exact h
        · omega
        · omega
     subst hst;refine(Wu (B:=B) (Ps:=fun q w1=>WpP B b st' (BH h k) A h q w1∧Below B W' w1∧Off AZ W' w1) hv' (by decide) (fun W2 hW2=>?_)).mono ?_
     · refine(Rp (hd'.below hW2) hg' (by omega) (by omega) (by omega) (by omega) (by omega) (Ao hBW hW2.size)).mono ?_;rintro e w' ⟨q,he,⟨h1,h3,h4⟩,h5⟩;exact⟨q,he,⟨h1,(hW2.mono hBW).trans h3,(Off.Ar hW2 _).trans h4⟩,h5⟩
     · rintro e w' ⟨q,rfl,hq,hbb,Ee⟩;refine⟨q,rfl,?_⟩;rcases hq with⟨rfl,hgo',_⟩|⟨j,hj,hc,hr,hdj⟩
       · rw[Cf hl']at hgo';cases hgo'
       · obtain⟨g1,g2,g3,g4,g5⟩:=H9 (i:=BH h k+A) hg' j (by omega) hr;rcases hc with⟨rfl,rfl⟩|⟨rfl,hgo'⟩
         · exact Or.inl ⟨rfl,hb.trans hbb,⟨ho.1.trans Ee.va,ho.2.trans (Gt.Vs Ee)⟩,Or.inr ⟨by omega,hV,A,img,rs,rv,hrd,hA,gU,keep hv' Ee (by simp),hrow.off Ee.va,_,hdj,g1,g2.trans hl',by omega,Or.inr (Or.inl ⟨rfl,rfl⟩)⟩⟩
         · rw[Cf (g2.trans hl')]at hgo';cases hgo'
   · injection hk' with hk';subst hk';obtain⟨hV,A,img,rs,rv,hrd,hA,gU,hv',hrow,st',hd',hg',hl',hp',hst⟩:gD h st.now=true∧∃A img rs rv,FO h st.now=recs (img::rs)∧A=1+(BZ (recs (img::rs))).length∧A≤h∧Ay W' vb b (BH h k) h A E img rv true∧CX W.heap.size W' rv rs∧∃st',Dev B W' b st'∧Good st'∧st'.lim=false∧st'.pend.length≤900∧st'=AQ st (BH h k+A) (h-A):=by
      rcases hi with⟨h,_⟩|⟨_,hV,A,img,rs,rv,h1,h2,h3,h4,h5,st',h6,h7,h8,h9,h10⟩
      · omega
      · refine⟨hV,A,img,rs,rv,h1,h2,h3,h4,h5,st',h6,h7,h8,h9,?_⟩;rcases h10 with⟨h,_⟩|⟨_,h⟩|⟨h,_⟩
        · omega
        · exact h
        · omega
     refine(IJ hd' hg' (by omega) hBW).mono ?_;rintro e w' ⟨q,rfl,hq,hbb,Ee⟩;refine⟨q,rfl,?_⟩;rcases hq with⟨rfl,hgo',_⟩|⟨rfl,_,hdj⟩
     · rw[Cf hl']at hgo';cases hgo'
     · rw[hst]at hdj;exact Or.inl ⟨rfl,hb.trans hbb,⟨ho.1.trans Ee.va,ho.2.trans (Gt.Vs Ee)⟩,Or.inr ⟨by omega,hV,A,img,rs,rv,hrd,hA,gU,keep hv' Ee (by simp),hrow.off Ee.va,_,hdj,by rw[←hst];exact GL hg',by rw[←hst];exact hl',Nat.zero_le _,Or.inr (Or.inr ⟨rfl,rfl⟩)⟩⟩
   · cases hk'
 · rintro q W' (⟨_,_,_,hi⟩|⟨_,_,_,_,_,_,A,img,rv,hv'⟩)
   · rcases hi with⟨h,_⟩|⟨_,_,A,img,rs,rv,_,_,_,hv',_⟩
     · omega
     · exact⟨_,_,_,_,_,_,_,_,hv'⟩
   · exact⟨_,_,_,_,_,_,_,_,hv'⟩
 · rintro e w' ⟨q,w1,rfl,hq,rfl⟩;refine⟨q,rfl,?_⟩;rcases hq with⟨rfl,hb,ho,hi⟩|⟨_,rfl,hb,ho,hV,hd',A,img,rv,hv'⟩
   · rcases hi with⟨h,_⟩|⟨_,hV,A,img,rs,rv,hrd,hA,gU,hv',hrow,st',hd',_,_,_,hst⟩
     · omega
     · have hst':st'=Dt (AQ st (BH h k+A) (h-A)):=by
        rcases hst with⟨h,_⟩|⟨h,_⟩|⟨_,h⟩
        · omega
        · omega
        · exact h
       subst hst';have hset:Off DT w1 (w1.setCell ⟨vb,7,none⟩ (.bool (decide ((0:Int)≠13)))):=RZ hv' (by decide);exact⟨hb.setCell (p:=⟨vb,7,none⟩) hvb _,⟨ho.1.trans hset,ho.2.trans (Gt.Mc (Ae _))⟩,Or.inr ⟨rfl,hV,A,img,rs,rv,hrd,hA,gU,hv'.Il _,hrow.off hset,hd'.Mc hv' (by simp)⟩⟩
   · have hset:Off DT w1 (w1.setCell ⟨vb,7,none⟩ (.bool (decide ((2:Int)≠13)))):=RZ hv' (by decide);exact⟨hb.setCell (p:=⟨vb,7,none⟩) hvb _,⟨ho.1.trans hset,ho.2.trans (Gt.Mc (Ae _))⟩,Or.inl ⟨rfl,hV,hd'.Mc hv' (by simp)⟩⟩
theorem oW {B Bd b n h fb sb g:Nat}{st:St}{W:World}(hd:Dev Bd W b st)(hg:Good st)(hl:st.lim=false)(hlen:st.now.length=n)(hh:n/2=h)(hn2:n≤400)(hB:B≤W.heap.size)(hf:Af W fb 82 b 0 h 1 0 [])(hs:Af W sb 82 b h h 1 0 [])(hne:fb≠sb)(hfB:B≤fb)(hsB:B≤sb)
 (hgs:Hr W g [(47,.pointer (some ⟨fb,0,none⟩)),(48,.pointer (some ⟨fb,0,none⟩)),(48,.pointer (some ⟨sb,0,none⟩))]) :
 Calls Tryz.prog 46 #[.slice (some ⟨g,0,none⟩) (3:Nat) (3:Nat)] W fun e w'=>∃q:Int,e=.returned (.int .i64 q)∧Below B W w'∧Off [82] W w'∧((q=1∧n<4)∨(q=0∧4≤n∧Af w' fb 82 b 0 h 1 (AO (st.now.getD 0 ⟨#[]⟩)) []∧Af w' sb 82 b h h 1 (AO (st.now.getD h ⟨#[]⟩)) [])):=by
 have hgo:=Cf hl;have dev:∀{W'},Off [82] W W'→Dev Bd W' b st:=fun ho=>hd.off ho (by decide) (by decide) (by decide)
 refine(Na g 3 [(47,.pointer (some ⟨fb,0,none⟩)),(48,.pointer (some ⟨fb,0,none⟩)),(48,.pointer (some ⟨sb,0,none⟩))] W
  (fun i W'=>Below B W W'∧Off [82] W W'∧(1≤i→4≤n)∧Af W' fb 82 b 0 h 1 (if 2≤i then AO (st.now.getD 0 ⟨#[]⟩) else 0) []∧Af W' sb 82 b h h 1 (if 3≤i then AO (st.now.getD h ⟨#[]⟩) else 0) [])
  (fun q W'=>q=1∧Below B W W'∧Off [82] W W'∧n<4)
  rfl (by decide) ?_ ⟨Ad _ _,Off.refl _ _,by omega,hf,hs⟩ ?_ ?_).mono ?_
 · intro k hk;simp only[List.mem_cons,List.mem_nil_iff,or_false]at hk;rcases hk with rfl|rfl|rfl
   · exact MJ
   · exact Ub
   · exact Ub
 · rintro i W' ⟨_,ho,_⟩;exact ho _ (by decide) _ _ _ hgs
 · rintro i kk W' hk' ⟨hb,ho,h4,hf',hs'⟩;have hBW:B≤W'.heap.size:=Ao hB hb.size;rcases i with _ | _ | _|i
   · injection hk' with hk';subst hk';refine(Sn hf' (dev ho) hg (by omega)).mono ?_;rintro e w' ⟨rfl,hbb⟩;refine⟨_,rfl,?_⟩;by_cases Kv:4≤n
     · have hq:FN st 0 h=0:=by
        unfold FN;have:=E9 (k:=0) hgo (by omega);rw[Int.ofNat_zero]at this;rw[show((0:Nat):Int)=0 from rfl,this,if_pos rfl,if_neg (by omega)]
       exact Or.inl ⟨hq,hb.trans (hbb.mono hBW),ho.trans (Off.Ar hbb _),fun _=>Kv,Af.below hf' hbb,Af.below hs' hbb⟩
     · have hq:FN st 0 h=1:=by
        unfold FN;by_cases hn0:n=0
        · have:Fa st.now.length st.lim st.left ((0:Nat):Int)=1:=by
           unfold Fa;unfold BJ at hgo;rw[hgo,if_neg (by simp),if_pos (by omega)]
          rw[this,if_neg (by decide)]
        · have:=E9 (k:=0) hgo (by omega);rw[this,if_pos rfl,if_pos (by omega)]
       rw[hq];exact Or.inr ⟨by decide,rfl,hb.trans (hbb.mono hBW),ho.trans (Off.Ar hbb _),by omega⟩
   · injection hk' with hk';subst hk';have Kv:=h4 (by omega);refine(QC (Ps:=fun N q w1=>N=AO (st.now.getD 0 ⟨#[]⟩)∧q=0) hf' (fun W2 hW2=>?_)).mono ?_
     · refine(VR Bd b st 0 W2 ((dev ho).below hW2) hg hgo (by omega)).mono ?_;rintro e w' ⟨rfl,h2⟩;exact⟨_,_,rfl,⟨rfl,rfl⟩,h2⟩
     · rintro e w' ⟨N,q,w1,rfl,⟨rfl,rfl⟩,hf1,hb1,rfl⟩;have hset:Off [82] w1 (w1.setCell ⟨fb,4,none⟩ (.int .u64 (AO (st.now.getD 0 ⟨#[]⟩):Nat))):=(Off.refl _ _).setCell hf1 (by simp) _;have hs1:Af w1 sb 82 b h h 1 0 []:=Af.below hs' hb1;refine⟨0,rfl,Or.inl ⟨rfl,(hb.trans (hb1.mono hBW)).setCell (p:=⟨fb,4,none⟩) hfB _,(ho.trans (Off.Ar hb1 _)).trans hset,fun _=>Kv,hf1.Yl _,?_⟩⟩;unfold Af;rw[heap_setCell_other w1 ⟨fb,4,none⟩ sb _ (fun e=>hne e.symm)];exact hs1
   · injection hk' with hk';subst hk';have Kv:=h4 (by omega);refine(QC (Ps:=fun N q w1=>N=AO (st.now.getD h ⟨#[]⟩)∧q=0) hs' (fun W2 hW2=>?_)).mono ?_
     · refine(VR Bd b st h W2 ((dev ho).below hW2) hg hgo (by omega)).mono ?_;rintro e w' ⟨rfl,h2⟩;exact⟨_,_,rfl,⟨rfl,rfl⟩,h2⟩
     · rintro e w' ⟨N,q,w1,rfl,⟨rfl,rfl⟩,hs1,hb1,rfl⟩;have hset:Off [82] w1 (w1.setCell ⟨sb,4,none⟩ (.int .u64 (AO (st.now.getD h ⟨#[]⟩):Nat))):=(Off.refl _ _).setCell hs1 (by simp) _;have hf1:Af w1 fb 82 b 0 h 1 (AO (st.now.getD 0 ⟨#[]⟩)) []:=Af.below hf' hb1;refine⟨0,rfl,Or.inl ⟨rfl,(hb.trans (hb1.mono hBW)).setCell (p:=⟨sb,4,none⟩) hsB _,(ho.trans (Off.Ar hb1 _)).trans hset,fun _=>Kv,?_,hs1.Yl _⟩⟩;unfold Af;rw[heap_setCell_other w1 ⟨sb,4,none⟩ fb _ hne];exact hf1
   · cases hk'
 · rintro e w' ⟨q,rfl,⟨rfl,hb,ho,h4,hf',hs'⟩|⟨_,rfl,hb,ho,hn⟩⟩
   · exact⟨0,rfl,hb,ho,Or.inr ⟨rfl,h4 (by omega),hf',hs'⟩⟩
   · exact⟨1,rfl,hb,ho,Or.inl ⟨rfl,hn⟩⟩
def tQ (B b n h:Nat)(st:St)(w:World)(e:Ending)(w':World):Prop:=
 Below B w w'∧(Off DT w w'∧Gt w.heap.size w w')∧((n<4∧e=.returned (.tuple #[.pointer none,.int .i64 1])∧Dev B w' b st)∨(4≤n∧gD h st.now=false∧e=.returned (.tuple #[.pointer none,.int .i64 2])∧Dev B w' b st) ∨
  (4≤n∧gD h st.now=true∧∃vb A img rs rv,e=.returned (.tuple #[.pointer (some ⟨vb,0,none⟩),.int .i64 0])∧w.heap.size≤vb∧AaQ B b vb n h st (I8 h st.now) (AO (st.now.getD (BH h (I8 h st.now)) ⟨#[]⟩)) A img rs rv w.heap.size w'))
theorem bn (b h:Nat)(x:List ByteArray):(if AO (x.getD 0 ⟨#[]⟩)<AO (x.getD h ⟨#[]⟩) then Y1 b h h 1 (AO (x.getD h ⟨#[]⟩)) else Y1 b 0 h 1 (AO (x.getD 0 ⟨#[]⟩)))=Y1 b (BH h (I8 h x)) h 1 (AO (x.getD (BH h (I8 h x)) ⟨#[]⟩)):=by
 unfold I8;by_cases hc:AO (x.getD 0 ⟨#[]⟩)<AO (x.getD h ⟨#[]⟩)
 · rw[if_pos hc,A8 hc];rfl
 · rw[if_neg hc,Bb hc];rfl
set_option maxHeartbeats 4000000 in
theorem ve {B b n h:Nat}{st:St}{w:World}(hd:Dev B w b st)(hg:Good st)(hl:st.lim=false)(hlen:st.now.length=n)(hh:n/2=h)(hn2:n≤400)(hp:st.pend.length≤500)(hB:B≤w.heap.size) :
 Calls Tryz.prog 22 #[.pointer (some ⟨b,0,none⟩)] w (tQ B b n h st w):=by
 unfold tQ;have HD:=Aa hd;have HG:=Aa hg;have HLI:=Aa hl;have HLEN:=Aa hlen;have HP:=Aa hp;obtain⟨a,cap,hc⟩:=hd.Rw;rw[hlen]at hc;have cH:=Zc b n cap a w hc (by omega);rw[hh]at cH;unfold Y1 at cH;have HH:=Aa hh;obtain⟨k,hk⟩:∃k,I8 h st.now=k:=⟨_,rfl⟩;have hnp:=bn b h st.now;rw[hk]at hnp ⊢;have HPK:=Aa hk;obtain⟨E,hE⟩:∃E,AO (st.now.getD (BH h k) ⟨#[]⟩)=E:=⟨_,rfl⟩;rw[hE]at hnp ⊢;have HEP:=Aa hE;have HNP:=Aa hnp;clear hnp hk hE;have JV:=Aa hB;have Ac2:Hid (∀w1,Below w.heap.size w w1→Calls Tryz.prog 46 #[.slice (some ⟨w1.heap.size+1+1,0,none⟩) (3:Nat) (3:Nat)] (((w1.alloc (.cells #[.pointer (some ⟨b,0,none⟩),.int .i64 0,.int .i64 h,.int .i64 1,.int .u64 0] 82)).alloc (.cells #[.pointer (some ⟨b,0,none⟩),.int .i64 h,.int .i64 h,.int .i64 1,.int .u64 0] 82)).alloc (.cells #[.func (.func 47) #[.pointer (some ⟨w1.heap.size,0,none⟩)] #[],.func (.func 48) #[.pointer (some ⟨w1.heap.size,0,none⟩)] #[],.func (.func 48) #[.pointer (some ⟨w1.heap.size+1,0,none⟩)] #[]] 169)) fun e w'=>∃q:Int,e=.returned (.int .i64 q)∧Below w.heap.size w w'∧Off [82] w w'∧((q=1∧n<4)∨(q=0∧4≤n∧Af w' w1.heap.size 82 b 0 h 1 (AO (st.now.getD 0 ⟨#[]⟩)) []∧Af w' (w1.heap.size+1) 82 b h h 1 (AO (st.now.getD h ⟨#[]⟩)) []))):=Aa (fun w1 hb1=>by
  have hB2:Below w.heap.size w (((w1.alloc (.cells #[.pointer (some ⟨b,0,none⟩),.int .i64 0,.int .i64 h,.int .i64 1,.int .u64 0] 82)).alloc (.cells #[.pointer (some ⟨b,0,none⟩),.int .i64 h,.int .i64 h,.int .i64 1,.int .u64 0] 82)).alloc (.cells #[.func (.func 47) #[.pointer (some ⟨w1.heap.size,0,none⟩)] #[],.func (.func 48) #[.pointer (some ⟨w1.heap.size,0,none⟩)] #[],.func (.func 48) #[.pointer (some ⟨w1.heap.size+1,0,none⟩)] #[]] 169)):=((hb1.alloc hb1.size _).alloc (by have:=hb1.size;simp;omega) _).alloc (by have:=hb1.size;simp;omega) _;have h1:=oW (B:=w.heap.size) (fb:=w1.heap.size) (sb:=w1.heap.size+1) (g:=w1.heap.size+1+1) (hd.below hB2) hg hl hlen hh hn2 hB2.size (by unfold Af;rw[Ct _ _ _ (by simp;omega),Ct _ _ _ (by simp)];exact Ai _ _) (by unfold Af;rw[Ct _ _ _ (by simp)];exact heap_alloc2_new _ _ _) (by omega) hb1.size (by have:=hb1.size;omega) (IZ _ _ _ _);refine h1.mono ?_;rintro e w' ⟨q,he,hb,ho,hq⟩;exact⟨q,he,hB2.trans hb,(Off.Ar hB2 _).trans ho,hq⟩)
 clear hd hg hl hlen hc hp hh;go_enter Tryz.func22,Tryz.ntmps22;go_wp2_with fail;refine cH.mono ?_;rintro e w1 ⟨rfl,hb1⟩;have HB1:=Aa hb1;clear hb1 cH;go_wp2_with fail;refine(Ac2.out w1 HB1.out).mono ?_;rintro e w3 ⟨q,rfl,hb3,ho3,hq⟩;have HB3:=Aa hb3;have Jf:=Aa ho3;clear hb3 ho3;rcases hq with⟨rfl,Kv⟩|⟨rfl,Kv,hf3,hs3⟩
 · have HN4:=Aa Kv;clear Kv;go_wp2;go_ret2;exact⟨HB3.out.mono JV.out,⟨Jf.out.mono (by simp),Gt.Ar HB3.out⟩,Or.inl ⟨HN4.out,rfl,HD.out.off Jf.out (by decide) (by decide) (by decide)⟩⟩
 · have HN4:=Aa Kv;obtain⟨f0,f1,f2,f3,f4⟩:=hf3.cells;obtain⟨s0,s1,s2,s3,s4⟩:=hs3.cells;have cN:=wy b 0 h 1 (AO (st.now.getD 0 ⟨#[]⟩)) h h 1 (AO (st.now.getD h ⟨#[]⟩)) w3;rw[HNP.out]at cN;unfold Y1 at cN;have HDO:Hid (∀W,Below w3.heap.size w3 W→Calls Tryz.prog 50 #[.pointer (some ⟨W.heap.size,0,none⟩),.slice (some ⟨W.heap.size+1,0,none⟩) (3:Nat) (3:Nat)] ((W.alloc (.cells #[.pointer (some ⟨b,0,none⟩),.int .i64 (BH h k),.int .i64 h,.int .i64 1,.int .u64 E,.string ⟨#[]⟩,.slice none 0 0,.bool true] 84)).alloc (.cells #[.func (.func 51) #[.pointer (some ⟨W.heap.size,0,none⟩)] #[],.func (.func 52) #[.pointer (some ⟨W.heap.size,0,none⟩)] #[],.func (.func 53) #[.pointer (some ⟨b,0,none⟩)] #[]] 169)) fun e w'=>∃q:Int,e=.returned (.int .i64 q)∧Below B w w'∧(Off DT w w'∧Gt w.heap.size w w')∧w.heap.size≤W.heap.size∧((q=2∧gD h st.now=false∧Dev B w' b st)∨(q=0∧gD h st.now=true∧∃A img rs rv,AaQ B b W.heap.size n h st k E A img rs rv w.heap.size w'))):=Aa (fun W hW=>by
    have hwW:w.heap.size≤W.heap.size:=Ao HB3.out.size hW.size;have hB2:Below w.heap.size w ((W.alloc (.cells #[.pointer (some ⟨b,0,none⟩),.int .i64 (BH h k),.int .i64 h,.int .i64 1,.int .u64 E,.string ⟨#[]⟩,.slice none 0 0,.bool true] 84)).alloc (.cells #[.func (.func 51) #[.pointer (some ⟨W.heap.size,0,none⟩)] #[],.func (.func 52) #[.pointer (some ⟨W.heap.size,0,none⟩)] #[],.func (.func 53) #[.pointer (some ⟨b,0,none⟩)] #[]] 169)):=((HB3.out.trans (hW.mono HB3.out.size)).alloc hwW _).alloc (by simp;omega) _;have hO2:Off [82] w ((W.alloc (.cells #[.pointer (some ⟨b,0,none⟩),.int .i64 (BH h k),.int .i64 h,.int .i64 1,.int .u64 E,.string ⟨#[]⟩,.slice none 0 0,.bool true] 84)).alloc (.cells #[.func (.func 51) #[.pointer (some ⟨W.heap.size,0,none⟩)] #[],.func (.func 52) #[.pointer (some ⟨W.heap.size,0,none⟩)] #[],.func (.func 53) #[.pointer (some ⟨b,0,none⟩)] #[]] 169)):=((Jf.out.trans (Off.Ar hW _)).alloc _).alloc _;have h2h:2≤h∧2*h≤n:=by have:=HH.out;have:=HN4.out;omega
    have h1:=vX (B:=B) (vb:=W.heap.size) (g:=W.heap.size+1) (k:=k) (E:=E) (n:=n) (h:=h) (HD.out.off hO2 (by decide) (by decide) (by decide)) HG.out HLI.out HLEN.out h2h.1 h2h.2 hn2 HP.out (Ao JV.out hB2.size) HPK.out HEP.out (by unfold Ay Af;rw[Ct _ _ _ (by simp)];exact Ai _ _) (Ao JV.out hwW) (heap_alloc2_new _ _ _);refine h1.mono ?_;rintro e w' ⟨q,he,hb,ho,hq⟩;refine⟨q,he,(hB2.mono JV.out).trans hb,⟨(hO2.mono (by simp)).trans ho.1,(Gt.Ar hB2).trans (ho.2.mono hwW)⟩,hwW,?_⟩;rcases hq with⟨h3,h4,h5⟩|⟨h3,h4,A,img,rs,rv,h5⟩
    · exact Or.inl ⟨h3,h4,h5⟩
    · exact Or.inr ⟨h3,h4,A,img,rs,rv,h5.rd,h5.end_,h5.room,h5.Md,h5.row.base hB2.size,h5.dev⟩)
   clear hf3 hs3 Kv;go_wp2_with fail;refine cN.mono ?_;rintro e w4 ⟨rfl,hb4⟩;have LY:=Aa hb4;clear hb4 cN f0 f1 f2 f3 f4 s0 s1 s2 s3 s4;go_wp2_with fail;refine(HDO.out w4 LY.out).mono ?_;rintro e w5 ⟨q,rfl,hb5,Xn,hvw,hq⟩;have I4:=Aa hb5;have ZX:=Aa Xn;have mq:=Aa hvw;clear hb5 Xn hvw;rcases hq with⟨rfl,h3,h4⟩|⟨rfl,h3,h4⟩
   · have H3:=Aa h3;have H4:=Aa h4;clear h3 h4;go_wp2;go_ret2;exact⟨I4.out,ZX.out,Or.inr (Or.inl ⟨HN4.out,H3.out,rfl,H4.out⟩)⟩
   · have H3:=Aa h3;have H4:=Aa h4;clear h3 h4;go_wp2;go_ret2;obtain⟨A,img,rs,rv,h6⟩:=H4.out;exact⟨I4.out,ZX.out,Or.inr (Or.inr ⟨HN4.out,H3.out,w4.heap.size,A,img,rs,rv,rfl,mq.out,h6⟩)⟩
end Go.Proofs.YtdmkhmeaphaapaaGreat.V
