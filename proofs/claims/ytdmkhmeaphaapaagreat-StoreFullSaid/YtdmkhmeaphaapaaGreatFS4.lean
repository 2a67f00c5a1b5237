/- Kit. -/
import Derived.Test.YtdmkhmeaphaapaaGreatFJ3
import Derived.Deep.RegionLaw
set_option maxRecDepth 100000
namespace Go.Proofs.YtdmkhmeaphaapaaGreat.V.St
open Go.RowKit Go.Sort
set_option linter.unusedVariables false
set_option linter.unusedSimpArgs false
variable {X:List Value}
abbrev VaultAt (X:List Value)(w:World)(vb b F S A E:Nat)(img:ByteArray)(rv:Value)(op:Bool):Prop:=HalfAt w vb 98 b F S A E ([.string img,rv,.bool op]++X)
section
variable {vb b F S A E:Nat}{img:ByteArray}{rv:Value}{op:Bool}{w:World}
theorem VaultAt.more (h:VaultAt X w vb b F S A E img rv op):w.cell? ⟨vb,5,none⟩=some (.string img)∧w.cell? ⟨vb,6,none⟩=some rv∧w.cell? ⟨vb,7,none⟩=some (.bool op):=by
  refine⟨?_,?_,?_⟩<;>(rw[cell_of_row w vb _ _ _ _ h];rfl)
theorem VaultAt.setOpen (h:VaultAt X w vb b F S A E img rv op)(x:Bool):VaultAt X (w.setCell ⟨vb,7,none⟩ (.bool x)) vb b F S A E img rv x:=by
  unfold VaultAt HalfAt;rw[heap_setCell_same w vb 7 _ _ _ h];simp[hvL]
theorem VaultAt.setImg (h:VaultAt X w vb b F S A E img rv op)(x:ByteArray):VaultAt X (w.setCell ⟨vb,5,none⟩ (.string x)) vb b F S A E x rv op:=by
  unfold VaultAt HalfAt;rw[heap_setCell_same w vb 5 _ _ _ h];simp[hvL]
theorem VaultAt.setRecs (h:VaultAt X w vb b F S A E img rv op)(x:Value):VaultAt X (w.setCell ⟨vb,6,none⟩ x) vb b F S A E img x op:=by
  unfold VaultAt HalfAt;rw[heap_setCell_same w vb 6 _ _ _ h];simp[hvL]
set_option maxHeartbeats 1000000 in
theorem over_c (h:VaultAt X w vb b F S A E img rv op):Calls Tryz.prog 32 #[.pointer (some ⟨vb,0,none⟩)] w fun e w'=>e=.returned (.bool (!op))∧w=w':=by
  obtain⟨c5,c6,c7⟩:=h.more;clear h;cases op
  · go_enter Tryz.func32,Tryz.ntmps32;go_wp2;go_ret;exact⟨rfl,rfl⟩
  · go_enter Tryz.func32,Tryz.ntmps32;go_wp2;go_ret;exact⟨rfl,rfl⟩
set_option maxHeartbeats 1000000 in
theorem vroom_c (h:VaultAt X w vb b F S A E img rv op)(hS:S≤100000)(hA:A≤100000):Calls Tryz.prog 43 #[.pointer (some ⟨vb,0,none⟩)] w fun e w'=>e=.returned (.int .i64 ((S:Int)-(A:Int)))∧Below w.heap.size w w':=by
  have cR:=room_c h hS hA;clear h;go_enter Tryz.func43,Tryz.ntmps43;go_wp2_with fail;refine cR.mono ?_;rintro e w1 ⟨rfl,hb⟩;have HB:=Lib.hid hb;clear hb cR;go_wp2;go_ret;exact⟨rfl,HB.out⟩
set_option maxHeartbeats 1000000 in
theorem do_over (g n:Nat)(h:VaultAt X w vb b F S A E img rv false):Calls Tryz.prog 50 #[.pointer (some ⟨vb,0,none⟩),.slice (some ⟨g,0,none⟩) n n] w fun e w'=>e=.returned (.int .i64 13)∧w=w':=by
  obtain⟨c5,c6,c7⟩:=h.more;clear h;go_enter Tryz.func50,Tryz.ntmps50;go_wp2;go_ret;exact⟨rfl,rfl⟩
set_option maxHeartbeats 1000000 in
theorem do_c (g n:Nat)(ks:List (Nat×Value))(I:Nat→World→Prop)(Q:Int→World→Prop)(h:VaultAt X w vb b F S A E img rv true)(hn:ks.length=n)(hn9:n≤1000)(hc:∀k∈ks,Callable k.1)(h0:I 0 w)(hg:∀i W,I i W→StepsAt W g ks)
    (hs:∀i k W,ks[i]?=some k→I i W→Calls Tryz.prog k.1 #[k.2] W fun e w'=>∃q:Int,e=.returned (.int .i64 q)∧(q=0∧I (i+1) w'∨q≠0∧Q q w'))
    (hV:∀q W,(q=0∧I n W∨q≠0∧Q q W)→∃b F S A E img rv op,VaultAt X W vb b F S A E img rv op) :
    Calls Tryz.prog 50 #[.pointer (some ⟨vb,0,none⟩),.slice (some ⟨g,0,none⟩) n n] w fun e w'=>∃(q:Int) (w1:World),e=.returned (.int .i64 q)∧(q=0∧I n w1∨q≠0∧Q q w1)∧w'=w1.setCell ⟨vb,7,none⟩ (.bool (decide (q≠13))):=by
  obtain⟨c5,c6,c7⟩:=h.more;have cO:=inOrder_c g n ks w I Q hn hn9 hc h0 hg hs;unfold OrderPost at cO;have HV:=Lib.hid hV;clear h hs hg hc h0 hV hn;go_enter Tryz.func50,Tryz.ntmps50;go_wp2_with fail;refine cO.mono ?_;rintro e w1 ⟨q,rfl,hq⟩;have HQ:=Lib.hid hq;obtain⟨b',F',S',A',E',img',rv',op',hv'⟩:=HV.out q w1 hq;have k7:=hv'.more.2.2;have f7:=hv'.frozen 7;clear hq hv' cO c5 c6 c7;by_cases h13:q=13
  · subst h13;go_wp2;go_ret;exact⟨13,w1,rfl,HQ.out,by simp⟩
  · have hqz:(q==13)=false:=by simpa using h13
    go_wp2;go_ret;exact⟨q,w1,rfl,HQ.out,by simp[h13,bne,hqz]⟩
end
structure LiveR (X:List Value)(B b vb n h:Nat)(k:Bool)(E A:Nat)(img:ByteArray)(rs r1 r2:List ByteArray)(lm:Bool)(st:St)(rv:Value)(W:World):Prop where
  live:LiveS n h k E A img rs r1 r2 lm st
  dev:Dev B W b st
  vlt:VaultAt X W vb b (bkF h k) h A E img rv true
  row:RowAt B W rv rs
  hvb:B≤vb
structure DeadR (X:List Value)(B b vb n h:Nat)(k:Bool)(E:Nat)(r1 r2:List ByteArray)(fresh:ByteArray)(st:St)(W:World):Prop where
  dead:DeadS n h k E r1 r2 fresh st
  dev:Dev B W b st
  vlt:∃A img rv,VaultAt X W vb b (bkF h k) h A E img rv false
  hvb:B≤vb
section
variable {B b vb n h:Nat}{k:Bool}{E A:Nat}{img fresh:ByteArray}{rs r1 r2:List ByteArray}{lm:Bool}{st:St}{rv:Value}{W W':World}
theorem LiveR.below (hL:LiveR X B b vb n h k E A img rs r1 r2 lm st rv W)(hb:Below W.heap.size W W'):LiveR X B b vb n h k E A img rs r1 r2 lm st rv W':=
  ⟨hL.live,hL.dev.below hb,HalfAt.below hL.vlt hb,hL.row.below hb,hL.hvb⟩
theorem DeadR.below (hD:DeadR X B b vb n h k E r1 r2 fresh st W)(hb:Below W.heap.size W W'):DeadR X B b vb n h k E r1 r2 fresh st W':=by
  obtain⟨A,img,rv,hv⟩:=hD.vlt;exact⟨hD.dead,hD.dev.below hb,⟨A,img,rv,HalfAt.below hv hb⟩,hD.hvb⟩
end
end Go.Proofs.YtdmkhmeaphaapaaGreat.V.St
namespace Go.Proofs.YtdmkhmeaphaapaaGreat.V.St
open Go.RowKit Go.Sort
set_option linter.unusedVariables false
set_option linter.unusedSimpArgs false
variable {X:List Value}
def tailF (h A:Nat)(s:ByteArray):List ByteArray:=if fitsI h A s=0 then [s] else []
def AppX (X:List Value)(B b vb n h:Nat)(k:Bool)(E A:Nat)(img:ByteArray)(rs r1 r2:List ByteArray)(lm:Bool)(st:St)(rv:Value)(s:ByteArray)(op:Bool)(q:Int)(W:World):Prop:=
  (q=0∧fitsI h A s=0∧VaultAt X W vb b (bkF h k) h (A+(s.size+61)/62) E img rv op∧∃st',Dev B W b st'∧LiveS n h k E (A+(s.size+61)/62) img (rs++[s]) r1 (r2++[s]) lm st') ∨
  (q=13∧lm=true∧VaultAt X W vb b (bkF h k) h A E img rv op∧∃st',Dev B W b st'∧DeadS n h k E r1 (r2++tailF h A s) ⟨#[]⟩ st') ∨
  (q≠0∧q≠13∧fitsI h A s=q∧VaultAt X W vb b (bkF h k) h A E img rv op∧Dev B W b st)
theorem AppX.vault {B b vb n h:Nat}{k:Bool}{E A:Nat}{img:ByteArray}{rs r1 r2:List ByteArray}{lm:Bool}{st:St}{rv:Value}{s:ByteArray}{op:Bool}{q:Int}{W:World}(hx:AppX X B b vb n h k E A img rs r1 r2 lm st rv s op q W):∃A',VaultAt X W vb b (bkF h k) h A' E img rv op:=by
  rcases hx with⟨_,_,h,_⟩|⟨_,_,h,_⟩|⟨_,_,_,h,_⟩<;>exact⟨_,h⟩
theorem AppX.setOpen {B b vb n h:Nat}{k:Bool}{E A:Nat}{img:ByteArray}{rs r1 r2:List ByteArray}{lm:Bool}{st:St}{rv:Value}{s:ByteArray}{op:Bool}{q:Int}{W:World}(hx:AppX X B b vb n h k E A img rs r1 r2 lm st rv s op q W)(x:Bool):AppX X B b vb n h k E A img rs r1 r2 lm st rv s x q (W.setCell ⟨vb,7,none⟩ (.bool x)):=by
  rcases hx with⟨h0,h1,h2,st',h3,h4⟩|⟨h0,h1,h2,st',h3,h4⟩|⟨h0,h00,h1,h2,h3⟩
  · exact Or.inl ⟨h0,h1,h2.setOpen x,st',h3.vset h2 (by simp),h4⟩
  · exact Or.inr (Or.inl ⟨h0,h1,h2.setOpen x,st',h3.vset h2 (by simp),h4⟩)
  · exact Or.inr (Or.inr ⟨h0,h00,h1,h2.setOpen x,h3.vset h2 (by simp)⟩)
set_option maxHeartbeats 4000000 in
theorem append_do {B b vb n h g:Nat}{k:Bool}{E A:Nat}{img:ByteArray}{rs r1 r2:List ByteArray}{lm:Bool}{st:St}{rv:Value}{W:World}(s:ByteArray)(hL:LiveR X B b vb n h k E A img rs r1 r2 lm st rv W)(hs:s.size≤9223372036854775807)(hB:B≤W.heap.size)
    (hg:StepsAt W g [(54,.agg #[.pointer (some ⟨vb,0,none⟩),.string s])]) :
    Calls Tryz.prog 50 #[.pointer (some ⟨vb,0,none⟩),.slice (some ⟨g,0,none⟩) (1:Nat) (1:Nat)] W fun e w'=>∃q:Int,e=.returned (.int .i64 q)∧AppX X B b vb n h k E A img rs r1 r2 lm st rv s (decide (q≠13)) q w'∧Below B W w'∧Off vaTs W w':=by
  have hl:=hL.live;have hpd:=hl.pndh;have h9:=hl.n2;have h8:=hl.hn;have hle:=bkF_le hl.hn k;have hlen:=hl.len;have hroom:=hl.room;have h2:=hl.h2;have hend:=hl.end_;refine(do_c g 1 [(54,.agg #[.pointer (some ⟨vb,0,none⟩),.string s])]
    (fun i W'=>(i=0∧W'=W)∨(i=1∧AppX X B b vb n h k E A img rs r1 r2 lm st rv s true 0 W'∧Below B W W'∧Off vaTs W W'))
    (fun q W'=>AppX X B b vb n h k E A img rs r1 r2 lm st rv s true q W'∧Below B W W'∧Off vaTs W W')
    hL.vlt rfl (by decide) (fun k hk=>by rw[List.mem_singleton.1 hk];exact call_write) (Or.inl ⟨rfl,rfl⟩) ?_ ?_ ?_).mono ?_
  · rintro i W' (⟨_,rfl⟩|⟨_,_,_,ho⟩)
    · exact hg
    · exact ho _ (by decide) _ _ _ hg
  · intro i kk W' hk hI;rcases hI with⟨rfl,rfl⟩|⟨rfl,_⟩
    · injection hk with hk;subst hk;refine(ewrite_c s (Ps:=fun x q w1=>WrP B b st (bkF h k) A h s x q w1∧Below B W' w1∧Off devTs W' w1) hL.vlt (by decide) (fun W2 hW2=>?_)).mono ?_
      · refine(writeq_c (hL.dev.below hW2) hl.good (by omega) (by omega) (by omega) hroom (by omega) (by omega) (Nat.le_trans hB hW2.size)).mono ?_;rintro e w' ⟨x,q,he,⟨h1,h3,h4⟩,h5⟩;exact⟨x,q,he,⟨h1,(hW2.mono hB).trans h3,(Off.ofBelow hW2 _).trans h4⟩,h5⟩
      · rintro e w' ⟨x,q,w1,rfl,⟨hw,hb,ho⟩,hv,hq⟩;refine⟨q,rfl,?_⟩;rcases hq with⟨rfl,rfl⟩|⟨hq,rfl⟩
        · refine Or.inl ⟨rfl,Or.inr ⟨rfl,?_,hb.setCell (p:=⟨vb,3,none⟩) hL.hvb _,ho.va.setCell hv (by decide) _⟩⟩;rcases hw with⟨h1,_⟩|⟨h1,_⟩|⟨hfit,j,hj,hc,hr,hd⟩
          · cases h1
          · exact absurd rfl h1
          · rcases hc with⟨_,rfl,rfl⟩|⟨h1,_⟩
            · obtain⟨f1,f2,f3⟩:=fits_ok hfit;have htl:(framesL s).take ((s.size+61)/62)=framesL s:=List.take_of_length_le (by rw[framesL_length];exact Nat.le_refl _);rw[htl]at hr hd;exact Or.inl ⟨rfl,hfit,hv.setEnd _,_,hd.vset hv (by simp),hl.append f1 f2 f3 hr⟩
            · cases h1
        · refine Or.inr ⟨hq,?_,hb,ho.va⟩;rcases hw with⟨h1,hgo,hd⟩|⟨h1,h13,hgo,hfit,hd⟩|⟨hfit,j,hj,hc,hr,hd⟩
          · exact Or.inr (Or.inl ⟨h1,gone_lim hgo hl.lim,hv,_,hd,hl.dead _ _⟩)
          · exact Or.inr (Or.inr ⟨h1,h13,hfit,hv,hd⟩)
          · rcases hc with⟨h1,_⟩|⟨h1,hgo⟩
            · exact absurd h1 hq
            · obtain⟨f1,f2,f3⟩:=fits_ok hfit;have hpl:=hl.append_lost f1 f2 f3 hj hr ⟨#[]⟩;have hlim:(putsSt st (bkF h k+A) ((framesL s).take j)).lim=st.lim:=by
                have hp:=puts_any (st:=st) (i:=bkF h k+A) (fs:=(framesL s).take j) hl.good (by rw[List.length_take,framesL_length];omega) (fun f hf=>framesL_size s f (List.mem_of_mem_take hf)) hr _ (Nat.le_refl _);rw[List.take_length]at hp;exact hp.2.1
              refine Or.inr (Or.inl ⟨h1,gone_lim hgo (fun e=>hlim.trans (hl.lim e)),hv,_,hd,?_⟩);unfold tailF;rw[if_pos hfit];exact hpl
    · cases hk
  · rintro q W' (⟨_,⟨h1,_⟩|⟨_,hx,_⟩⟩|⟨_,hx,_⟩)
    · cases h1
    · obtain⟨A',hv⟩:=hx.vault;exact⟨_,_,_,_,_,_,_,_,hv⟩
    · obtain⟨A',hv⟩:=hx.vault;exact⟨_,_,_,_,_,_,_,_,hv⟩
  · rintro e w' ⟨q,w1,rfl,hq,rfl⟩;refine⟨q,rfl,?_⟩;have key:∀q,AppX X B b vb n h k E A img rs r1 r2 lm st rv s true q w1∧Below B W w1∧Off vaTs W w1→AppX X B b vb n h k E A img rs r1 r2 lm st rv s (decide (q≠13)) q (w1.setCell ⟨vb,7,none⟩ (.bool (decide (q≠13))))∧Below B W (w1.setCell ⟨vb,7,none⟩ (.bool (decide (q≠13))))∧Off vaTs W (w1.setCell ⟨vb,7,none⟩ (.bool (decide (q≠13)))):=fun q h=>by
      obtain⟨A',hv⟩:=h.1.vault;exact⟨h.1.setOpen _,h.2.1.setCell (p:=⟨vb,7,none⟩) hL.hvb _,h.2.2.setCell hv (by decide) _⟩
    rcases hq with⟨rfl,⟨h1,_⟩|⟨_,hx⟩⟩|⟨_,hx⟩
    · cases h1
    · exact key 0 hx
    · exact key q hx
def AppPost (X:List Value)(B b vb n h:Nat)(k:Bool)(E A:Nat)(img:ByteArray)(rs r1 r2:List ByteArray)(lm:Bool)(st:St)(rv:Value)(s:ByteArray)(w:World)(e:Ending)(w':World):Prop:=
  ∃q:Int,e=.returned (.int .i64 q)∧Below B w w'∧OffRow (rowBlk rv) w w' ∧
   ((q=0∧fitsI h A s=0∧∃st' rv',LiveR X B b vb n h k E (A+(s.size+61)/62) img (rs++[s]) r1 (r2++[s]) lm st' rv' w'∧(rowBlk rv'=rowBlk rv∨∃g,w.heap.size≤g∧rowBlk rv'=some g)) ∨
    (q=13∧lm=true∧∃st',DeadR X B b vb n h k E r1 (r2++tailF h A s) ⟨#[]⟩ st' w') ∨
    (q≠0∧q≠13∧fitsI h A s=q∧LiveR X B b vb n h k E A img rs r1 r2 lm st rv w'))
set_option maxHeartbeats 4000000 in
theorem append_c {B b vb n h:Nat}{k:Bool}{E A:Nat}{img:ByteArray}{rs r1 r2:List ByteArray}{lm:Bool}{st:St}{rv:Value}{w:World}(s:ByteArray)(hL:LiveR X B b vb n h k E A img rs r1 r2 lm st rv w)(hs:s.size≤9223372036854775807)(hn:rs.length≤1000)(hB:B≤w.heap.size) :
    Calls Tryz.prog 24 #[.pointer (some ⟨vb,0,none⟩),.string s] w (AppPost X B b vb n h k E A img rs r1 r2 lm st rv s w):=by
  unfold AppPost;have HL:=Lib.hid hL;obtain⟨W1,hW1⟩:∃W1,(w.alloc (.cells #[.pointer (some ⟨vb,0,none⟩),.string s] 119)).alloc (.cells #[.func (.func 54) #[.agg #[.pointer (some ⟨vb,0,none⟩),.string s]] #[]] 169)=W1:=⟨_,rfl⟩;have HB1:Hid (Below w.heap.size w W1):=Lib.hid (by rw[←hW1];exact((Below.refl _ _).alloc (Nat.le_refl _) _).alloc (by simp) _);have hst:StepsAt W1 (w.heap.size+1) [(54,.agg #[.pointer (some ⟨vb,0,none⟩),.string s])]:=by rw[←hW1];exact heap_alloc2_new _ _ _
  have cD:=append_do s (hL.below HB1.out) hs (Nat.le_trans hB HB1.out.size) hst;have cC:=fun(hq:s.size≤60000) W=>sclone_c s W (by omega)
  clear hL hst;go_enter Tryz.func24,Tryz.ntmps24;go_wp2_with fail
  try rw[hW1]
  clear hW1;refine cD.mono ?_;rintro e w2 ⟨q,rfl,hx,hb2,ho2⟩;have HX:=Lib.hid hx;have HB2:Hid (Below B w w2):=Lib.hid ((HB1.out.mono hB).trans hb2);have HO2:Hid (Off vaTs w w2):=Lib.hid ((Off.ofBelow HB1.out _).trans ho2);clear hx hb2 ho2 cD;by_cases hq:q=0
  · subst hq;have hrow:RowAt B w2 rv rs:=HL.out.row.off HO2.out;have HROW:=Lib.hid hrow;obtain⟨hfit,hv,st',hd,hl'⟩:fitsI h A s=0∧VaultAt X w2 vb b (bkF h k) h (A+(s.size+61)/62) E img rv true∧∃st',Dev B w2 b st'∧LiveS n h k E (A+(s.size+61)/62) img (rs++[s]) r1 (r2++[s]) lm st':=by
      rcases HX.out with⟨_,h1,h2,h3⟩|⟨h1,_⟩|⟨h1,_⟩
      · exact⟨h1,h2,h3⟩
      · cases h1
      · exact absurd rfl h1
    have HV:=Lib.hid hv;have HD:=Lib.hid hd;have HLL:=Lib.hid hl';have HFIT:=Lib.hid hfit;have cC:=cC (fits_ok hfit).2.1;obtain⟨va,vn,vc,rfl⟩:∃a m c,rv=.slice a m c:=by
      rcases hrow with⟨_,h1⟩|⟨g,off,cap,cur,h1,_⟩<;>exact⟨_,_,_,h1⟩
    have c6:=hv.more.2.1;have f6:=hv.frozen 6;have HV6:Hid (∀W,Below w2.heap.size w2 W→VaultAt X W vb b (bkF h k) h (A+(s.size+61)/62) E img (.slice va vn vc) true∧RowAt B W (.slice va vn vc) rs):=Lib.hid (fun W hW=>⟨HalfAt.below HV.out hW,HROW.out.below hW⟩);have HC6:Hid (∀W,Below w2.heap.size w2 W→W.cell? ⟨vb,6,none⟩=some (.slice va vn vc)∧W.frozen? ⟨vb,6,none⟩=false):=Lib.hid (fun W hW=>⟨(HV6.out W hW).1.more.2.1,(HV6.out W hW).1.frozen 6⟩);have HAP:Hid (∀(W W9:World),Below w2.heap.size w2 W→(∀j,j<W.heap.size→some j≠rowBlk (.slice va vn vc)→W9.heap[j]?=W.heap[j]?)→VaultAt X W9 vb b (bkF h k) h (A+(s.size+61)/62) E img (.slice va vn vc) true):=Lib.hid (fun W W9 hW hk=>by
      obtain⟨hv9,hr9⟩:=HV6.out W hW;have hne:some vb≠rowBlk (.slice va vn vc):=fun e=>by
        rcases hr9 with⟨_,h1⟩|⟨g,off,cap,cur,h1,_,_,_,hg,_⟩
        · rw[h1]at e;cases e
        · rw[h1]at e;injection e with e;have e2:vb=g:=e;subst e2;have hv10:W.heap[vb]?=_:=hv9;rw[hv10]at hg;injection hg with hg;injection hg with _ hT _
          revert hT
          decide
      show W9.heap[vb]?=_
      rw[hk vb (lt_of_get hv9) hne];exact hv9)
    have HEND:Hid (∀(W W9:World) (v9:Value),Below w2.heap.size w2 W→RowAt B W9 v9 (rs++[s])→(rowBlk v9=rowBlk (.slice va vn vc)∨∃g,W.heap.size≤g∧rowBlk v9=some g)→Below B W W9→(∀j,j<W.heap.size→some j≠rowBlk (.slice va vn vc)→W9.heap[j]?=W.heap[j]?) →
        Below B w (W9.setCell ⟨vb,6,none⟩ v9)∧OffRow (rowBlk (.slice va vn vc)) w (W9.setCell ⟨vb,6,none⟩ v9)∧∃st' rv',LiveR X B b vb n h k E (A+(s.size+61)/62) img (rs++[s]) r1 (r2++[s]) lm st' rv' (W9.setCell ⟨vb,6,none⟩ v9)∧(rowBlk rv'=rowBlk (.slice va vn vc)∨∃g,w.heap.size≤g∧rowBlk rv'=some g)):=Lib.hid (fun W W9 v9 hW hr9 hbl hb9 hk9=>by
      have hv9:=HAP.out W W9 hW hk9;have hwW:w.heap.size≤W.heap.size:=Nat.le_trans HB2.out.size hW.size;have hoW:OffRow (rowBlk (.slice va vn vc)) W W9:=fun T hT j cs fr hj hk=>by rw[hk9 j (lt_of_get hk) hj];exact hk
      have hset:Off vaTs W9 (W9.setCell ⟨vb,6,none⟩ v9):=va_set hv9 (by decide);have hw2:w2.heap.size≤W.heap.size:=hW.size;refine⟨(HB2.out.trans ((hW.mono (Nat.le_trans hB HB2.out.size)).trans hb9)).setCell (p:=⟨vb,6,none⟩) HL.out.hvb _,(OffRow.ofOff (HO2.out.trans (Off.ofBelow hW _))).trans (hoW.trans (OffRow.ofOff hset)),st',v9,⟨HLL.out,?_,hv9.setRecs v9,hr9.off hset,HL.out.hvb⟩,?_⟩
      · have hd1:Dev B W b st':=HD.out.below hW;have hd2:Dev B W9 b st':=hd1.off (ex:=[9]) (fun T hT j cs fr hk=>by
          rw[hk9 j (lt_of_get hk) (fun e=>by
            rcases(HV6.out W hW).2 with⟨_,h1⟩|⟨g,off,cap,cur,h1,_,_,_,hg,_⟩
            · rw[h1]at e;cases e
            · rw[h1]at e;injection e with e;have e2:j=g:=e;subst e2;rw[hk]at hg;injection hg with hg;injection hg with _ h3 _;exact hT (by rw[h3];simp))]
          exact hk) (by decide) (by decide) (by decide)
        exact hd2.vset hv9 (by simp)
      · rcases hbl with h1|⟨g,h1,h2⟩
        · exact Or.inl h1
        · exact Or.inr ⟨g,by omega,h2⟩)
    clear hrow hv hd hl' hfit HX;go_wp2_with fail;go_region_law (first|(refine step_callee rfl 55 _ _ rfl (fun xs W=>Tryz.call55 xs W) (.string s) (.string s) rfl (fun W9=>Below w2.drew.heap.size w2.drew W9) (cC w2.drew) ?_;intro w8 hb8;have hB8:Below w2.heap.size w2 w8:=(Below.refl _ _).drew.trans hb8;have q8:=(HC6.out _ hB8).1;have g8:=(HC6.out _ hB8).2;have hB9:Below w2.heap.size w2 (w8.alloc (.cells #[.string s] 9)):=hB8.alloc hB8.size _;have q9:=(HC6.out _ hB9).1;have g9:=(HC6.out _ hB9).2;have hr9:=(HV6.out _ hB9).2)|(refine step_append_row rfl _ _ rfl B (.slice va vn vc) rs rfl hr9 ⟨w8.heap.size,0,none⟩ 1 s rfl (by rw[cell_of_row _ _ _ _ _ _ (heap_alloc_new _ _)];rfl) (by omega) (Nat.le_trans (Nat.le_trans hB HB2.out.size) hB9.size) ?_;intro v7 w7 hr7 hbl7 hb7 hk7 hsl7;obtain⟨a7,n7,c7,rfl⟩:=hsl7;have hv7:=HAP.out _ _ hB9 hk7;have q7:=hv7.more.2.1;have g7:=hv7.frozen 6))
    all_goals
      have HE:=Lib.hid (HEND.out _ _ _ hB9 hr7 hbl7 hb7 hk7);clear hB9 hr7 hbl7 hb7 hk7 hr9 hB8 q8 g8 q9 g9 hv7 q7 g7;go_wp2;go_ret;exact⟨0,rfl,HE.out.1,HE.out.2.1,Or.inl ⟨rfl,HFIT.out,HE.out.2.2⟩⟩
  · have hqz:(q==0)=false:=by simpa using hq
    have HE:Hid ((q=13∧lm=true∧∃st',DeadR X B b vb n h k E r1 (r2++tailF h A s) ⟨#[]⟩ st' w2)∨(q≠0∧q≠13∧fitsI h A s=q∧LiveR X B b vb n h k E A img rs r1 r2 lm st rv w2)):=Lib.hid (by
      rcases HX.out with⟨h0,_⟩|⟨h13,h1,hv,st',hd,hD⟩|⟨h0,h13,h1,hv,hd⟩
      · exact absurd h0 hq
      · refine Or.inl ⟨h13,h1,st',hD,hd,?_,HL.out.hvb⟩;rw[h13]at hv;exact⟨_,_,_,hv⟩
      · refine Or.inr ⟨h0,h13,h1,HL.out.live,hd,?_,HL.out.row.off HO2.out,HL.out.hvb⟩;rw[decide_eq_true h13]at hv;exact hv)
    clear HX;go_wp2;go_ret;exact⟨q,rfl,HB2.out,OffRow.ofOff HO2.out,Or.inr HE.out⟩
end Go.Proofs.YtdmkhmeaphaapaaGreat.V.St
namespace Go.Proofs.YtdmkhmeaphaapaaGreat.V.St
open Go.RowKit Go.Sort
set_option linter.unusedVariables false
set_option linter.unusedSimpArgs false
variable {X:List Value}
def SyX (X:List Value)(B b vb n h:Nat)(k:Bool)(E A:Nat)(img:ByteArray)(rs r1 r2:List ByteArray)(lm:Bool)(rv:Value)(op:Bool)(q:Int)(W:World):Prop:=
  VaultAt X W vb b (bkF h k) h A E img rv op∧∃st',Dev B W b st'∧((q=0∧LiveS n h k E A img rs (r1++r2) [] lm st')∨(q=13∧lm=true∧DeadS n h k E r1 r2 ⟨#[]⟩ st'))
set_option maxHeartbeats 4000000 in
theorem sync_do {B b vb n h g:Nat}{k:Bool}{E A:Nat}{img:ByteArray}{rs r1 r2:List ByteArray}{lm:Bool}{st:St}{rv:Value}{W:World}(hL:LiveR X B b vb n h k E A img rs r1 r2 lm st rv W)(hB:B≤W.heap.size)
    (hg:StepsAt W g [(53,.pointer (some ⟨b,0,none⟩))]) :
    Calls Tryz.prog 50 #[.pointer (some ⟨vb,0,none⟩),.slice (some ⟨g,0,none⟩) (1:Nat) (1:Nat)] W fun e w'=>∃q:Int,e=.returned (.int .i64 q)∧SyX X B b vb n h k E A img rs r1 r2 lm rv (decide (q≠13)) q w'∧Below B W w'∧Off vaTs W w':=by
  have hl:=hL.live;have hpd:=hl.pndh;have h9:=hl.n2;have h8:=hl.hn;refine(do_c g 1 [(53,.pointer (some ⟨b,0,none⟩))]
    (fun i W'=>(i=0∧W'=W)∨(i=1∧SyX X B b vb n h k E A img rs r1 r2 lm rv true 0 W'∧Below B W W'∧Off vaTs W W'))
    (fun q W'=>SyX X B b vb n h k E A img rs r1 r2 lm rv true q W'∧Below B W W'∧Off vaTs W W')
    hL.vlt rfl (by decide) (fun k hk=>by rw[List.mem_singleton.1 hk];exact call_flush) (Or.inl ⟨rfl,rfl⟩) ?_ ?_ ?_).mono ?_
  · rintro i W' (⟨_,rfl⟩|⟨_,_,_,ho⟩)
    · exact hg
    · exact ho _ (by decide) _ _ _ hg
  · intro i kk W' hk hI;rcases hI with⟨rfl,rfl⟩|⟨rfl,_⟩
    · injection hk with hk;subst hk;refine(flushq_c hL.dev hl.good (by omega) hB).mono ?_;rintro e w' ⟨q,rfl,hq,hb,ho⟩;refine⟨q,rfl,?_⟩;have hv:VaultAt X w' vb b (bkF h k) h A E img rv true:=HalfAt.base_off hL.vlt ho (by simp);rcases hq with⟨rfl,hgo,hd⟩|⟨rfl,hgo,hd⟩
      · exact Or.inr ⟨by decide,⟨hv,st,hd,Or.inr ⟨rfl,gone_lim hgo hl.lim,by have:=hl.dead [] ⟨#[]⟩;rwa[List.append_nil]at this⟩⟩,hb,ho.va⟩
      · exact Or.inl ⟨rfl,Or.inr ⟨rfl,⟨hv,_,hd,Or.inl ⟨rfl,hl.flush⟩⟩,hb,ho.va⟩⟩
    · cases hk
  · rintro q W' (⟨_,⟨h1,_⟩|⟨_,hx,_⟩⟩|⟨_,hx,_⟩)
    · cases h1
    · exact⟨_,_,_,_,_,_,_,_,hx.1⟩
    · exact⟨_,_,_,_,_,_,_,_,hx.1⟩
  · rintro e w' ⟨q,w1,rfl,hq,rfl⟩;refine⟨q,rfl,?_⟩;have key:∀q,SyX X B b vb n h k E A img rs r1 r2 lm rv true q w1∧Below B W w1∧Off vaTs W w1→SyX X B b vb n h k E A img rs r1 r2 lm rv (decide (q≠13)) q (w1.setCell ⟨vb,7,none⟩ (.bool (decide (q≠13))))∧Below B W (w1.setCell ⟨vb,7,none⟩ (.bool (decide (q≠13))))∧Off vaTs W (w1.setCell ⟨vb,7,none⟩ (.bool (decide (q≠13)))):=fun q h=>by
      obtain⟨⟨hv,st',hd,hx⟩,hb,ho⟩:=h;exact⟨⟨hv.setOpen _,st',hd.vset hv (by simp),hx⟩,hb.setCell (p:=⟨vb,7,none⟩) hL.hvb _,ho.setCell hv (by decide) _⟩
    rcases hq with⟨rfl,⟨h1,_⟩|⟨_,hx⟩⟩|⟨_,hx⟩
    · cases h1
    · exact key 0 hx
    · exact key q hx
def SyPost (X:List Value)(B b vb n h:Nat)(k:Bool)(E A:Nat)(img:ByteArray)(rs r1 r2:List ByteArray)(lm:Bool)(rv:Value)(w:World)(e:Ending)(w':World):Prop:=
  ∃q:Int,e=.returned (.int .i64 q)∧Below B w w'∧Off vaTs w w' ∧
    ((q=0∧∃st',LiveR X B b vb n h k E A img rs (r1++r2) [] lm st' rv w')∨(q=13∧lm=true∧∃st',DeadR X B b vb n h k E r1 r2 ⟨#[]⟩ st' w'))
set_option maxHeartbeats 4000000 in
theorem sync_c {B b vb n h:Nat}{k:Bool}{E A:Nat}{img:ByteArray}{rs r1 r2:List ByteArray}{lm:Bool}{st:St}{rv:Value}{w:World}(hL:LiveR X B b vb n h k E A img rs r1 r2 lm st rv w)(hB:B≤w.heap.size) :
    Calls Tryz.prog 33 #[.pointer (some ⟨vb,0,none⟩)] w (SyPost X B b vb n h k E A img rs r1 r2 lm rv w):=by
  unfold SyPost;have HL:=Lib.hid hL;obtain⟨W1,hW1⟩:∃W1,w.alloc (.cells #[.func (.func 53) #[.pointer (some ⟨b,0,none⟩)] #[]] 169)=W1:=⟨_,rfl⟩;have HB1:Hid (Below w.heap.size w W1):=Lib.hid (by rw[←hW1];exact(Below.refl _ _).alloc (Nat.le_refl _) _);have hst:StepsAt W1 w.heap.size [(53,.pointer (some ⟨b,0,none⟩))]:=by rw[←hW1];exact heap_alloc_new _ _
  have cD:=sync_do (hL.below HB1.out) (Nat.le_trans hB HB1.out.size) hst;have c0:=(HalfAt.cells hL.vlt).1;clear hL hst;go_enter Tryz.func33,Tryz.ntmps33;go_wp2_with fail
  try rw[hW1]
  clear hW1;refine cD.mono ?_;rintro e w2 ⟨q,rfl,hx,hb2,ho2⟩;have HB2:Hid (Below B w w2):=Lib.hid ((HB1.out.mono hB).trans hb2);have HO2:Hid (Off vaTs w w2):=Lib.hid ((Off.ofBelow HB1.out _).trans ho2);have HE:Hid ((q=0∧∃st',LiveR X B b vb n h k E A img rs (r1++r2) [] lm st' rv w2)∨(q=13∧lm=true∧∃st',DeadR X B b vb n h k E r1 r2 ⟨#[]⟩ st' w2)):=Lib.hid (by
    obtain⟨hv,st',hd,⟨rfl,h1⟩|⟨rfl,h1,h2⟩⟩:=hx
    · exact Or.inl ⟨rfl,st',h1,hd,hv,HL.out.row.off HO2.out,HL.out.hvb⟩
    · exact Or.inr ⟨rfl,h1,st',h2,hd,⟨_,_,_,hv⟩,HL.out.hvb⟩)
  clear hx hb2 ho2 cD c0;go_wp2;go_ret;exact⟨q,rfl,HB2.out,HO2.out,HE.out⟩
set_option maxHeartbeats 4000000 in
theorem sync_over {vb b F S A E:Nat}{img:ByteArray}{rv:Value}{w:World}(hv:VaultAt X w vb b F S A E img rv false) :
    Calls Tryz.prog 33 #[.pointer (some ⟨vb,0,none⟩)] w fun e w'=>e=.returned (.int .i64 13)∧Below w.heap.size w w':=by
  obtain⟨W1,hW1⟩:∃W1,w.alloc (.cells #[.func (.func 53) #[.pointer (some ⟨b,0,none⟩)] #[]] 169)=W1:=⟨_,rfl⟩;have HB1:Hid (Below w.heap.size w W1):=Lib.hid (by rw[←hW1];exact(Below.refl _ _).alloc (Nat.le_refl _) _);have cD:=do_over (w:=W1) w.heap.size 1 (HalfAt.below hv HB1.out);have c0:=(HalfAt.cells hv).1;clear hv;go_enter Tryz.func33,Tryz.ntmps33;go_wp2_with fail
  try rw[hW1]
  clear hW1;refine cD.mono ?_;rintro e w2 ⟨rfl,rfl⟩;clear cD c0;go_wp2;go_ret;exact⟨rfl,HB1.out⟩
end Go.Proofs.YtdmkhmeaphaapaaGreat.V.St
