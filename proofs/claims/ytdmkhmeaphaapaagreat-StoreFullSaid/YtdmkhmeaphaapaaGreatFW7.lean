/- Kit. -/
import Derived.Test.YtdmkhmeaphaapaaGreatFW6
set_option maxRecDepth 100000
namespace Go.Proofs.YtdmkhmeaphaapaaGreat.V
open Go.RowKit Go.Sort
set_option linter.unusedVariables false
def Runs (st:St)(i:Nat)(fs:List ByteArray):Prop:=∀j,j<fs.length→goneB (putsSt st i (fs.take j))=false
theorem puts_take_succ {fs:List ByteArray}{j:Nat}{f:ByteArray}(st:St)(i:Nat)(hf:fs[j]?=some f):putsSt st i (fs.take (j+1))=putSt (putsSt st i (fs.take j)) (i+j) f:=by
  have hj:=(List.getElem?_eq_some_iff.1 hf).1;rw[List.take_add_one,hf];show putsSt st i (fs.take j++[f])=_
  rw[putsSt_snoc,List.length_take,Nat.min_eq_left (by omega)]
theorem puts_any {st:St}{i:Nat}{fs:List ByteArray}(hg:Good st)(hi:i+fs.length≤st.now.length)(hs:∀f∈fs,f.size=64)(hr:Runs st i fs):∀j,j≤fs.length →
    Good (putsSt st i (fs.take j))∧(putsSt st i (fs.take j)).lim=st.lim∧(putsSt st i (fs.take j)).now.length=st.now.length∧(putsSt st i (fs.take j)).pend.length=st.pend.length+j∧(putsSt st i (fs.take j)).safe=st.safe
  | 0,_=>⟨hg,rfl,rfl,rfl,rfl⟩
  | j+1,hj=>by
    obtain⟨g1,g2,g3,g4,g5⟩:=puts_any hg hi hs hr j (by omega);obtain⟨f,hf⟩:∃f,fs[j]?=some f:=⟨_,List.getElem?_eq_getElem (by omega)⟩;rw[puts_take_succ st i hf];refine⟨good_put g1 (ask_ok (hr j (by omega)) (by omega)) (hs f (List.mem_of_getElem? hf)),g2,by rw[←g3];simp[putSt],?_,g5⟩;simp[putSt];omega
theorem bput_any (B b:Nat)(st:St)(F A j:Nat)(sz:Int)(f:ByteArray)(W:World)(h:Dev B W b st)(hg:Good st)(hgo:goneB st=false)(hp:st.pend.length≤1000)(hB:B≤W.heap.size)(hi:F+A+j<st.now.length)(hf:f.size=64) :
    Calls Tryz.prog 135 #[.agg #[.pointer (some ⟨b,0,none⟩),.int .i64 F,.int .i64 sz],.int .i64 ((A:Int)+(j:Int)),.string f] W fun e w'=>e=.returned (.int .i64 0)∧Dev B w' b (putSt st (F+A+j) f)∧Below B W w'∧Off devTs W w':=by
  have hq:putI st ((F+A+j:Nat):Int) f=0:=by
    unfold putI;rw[if_pos (ask_ok hgo hi),if_pos hf]
  have hfew:=hg.few;have h1:=bput_c B b st F sz ((A:Int)+(j:Int)) ((F+A+j:Nat):Int) f W h hg hp hB (by omega) (by omega);unfold PutPost at h1;rw[hq,if_pos rfl,Int.toNat_natCast]at h1;exact h1
theorem ask_gone {st:St}(h:goneB st=true)(n:Nat)(i:Int):askI n st.lim st.left i=13:=by
  unfold goneB at h;unfold askI;rw[if_pos h]
theorem bput_gone (B b:Nat)(st:St)(F A j:Nat)(sz:Int)(f:ByteArray)(W:World)(h:Dev B W b st)(hg:Good st)(hgo:goneB st=true)(hp:st.pend.length≤1000)(hB:B≤W.heap.size)(hi:F+A+j≤1000000) :
    Calls Tryz.prog 135 #[.agg #[.pointer (some ⟨b,0,none⟩),.int .i64 F,.int .i64 sz],.int .i64 ((A:Int)+(j:Int)),.string f] W fun e w'=>e=.returned (.int .i64 13)∧Dev B w' b st∧Below B W w'∧Off devTs W w':=by
  have hq:putI st ((F+A+j:Nat):Int) f=13:=by
    unfold putI;rw[ask_gone hgo,if_neg (by decide)]
  have h1:=bput_c B b st F sz ((A:Int)+(j:Int)) ((F+A+j:Nat):Int) f W h hg hp hB (by omega) (by omega);unfold PutPost at h1;rw[hq,if_neg (by decide)]at h1;exact h1
def AnyPost (B b:Nat)(st:St)(F A k:Nat)(fs:List ByteArray)(w:World)(e:Ending)(w':World):Prop:=
  ∃j,j≤k∧(e=.returned (.tuple #[.int .i64 ((A+k:Nat):Int),.int .i64 0])∧j=k∨e=.returned (.tuple #[.int .i64 0,.int .i64 13])∧j<k∧goneB (putsSt st (F+A) (fs.take j))=true)∧Runs st (F+A) (fs.take j)∧Dev B w' b (putsSt st (F+A) (fs.take j))∧Below B w w'∧Off devTs w w'
set_option maxHeartbeats 8000000 in
theorem write_any (B b:Nat)(st:St)(F S A:Nat)(s:ByteArray)(w:World)(h:Dev B w b st)(hg:Good st)(ho:openI st F S=0)(hS:F+S≤st.now.length)(hA:1≤A)(hn1:1≤s.size)(hn6:s.size≤60000)(hkA:A+(s.size+61)/62≤S)(hp:st.pend.length+(s.size+61)/62≤1000)(hB:B≤w.heap.size) :
    Calls Tryz.prog 95 #[.pointer (some ⟨b,0,none⟩),.int .i64 F,.int .i64 S,.int .i64 A,.string s] w (AnyPost B b st F A ((s.size+61)/62) (framesL s) w):=by
  unfold AnyPost;have cO:=open_ok B b st F S w h hg ho;have hf:=hg.few;have hS4:S≤4096:=by omega
  obtain⟨n,hn⟩:∃n,s.size=n:=⟨_,rfl⟩;have hfl:=framesL_length s;have hfs:=framesL_size s;have cR:Hid (∀W,Calls Tryz.prog 134 #[.string s] W fun e w'=>∃v,e=.returned v∧w'.ownsRow W.heap.size 9 1 v (cutB s.data.toList).length (frV (cutB s.data.toList))∧Below W.heap.size W w'):=Lib.hid (fun W=>frames_c s W hn6);have HSO:Hid (∀(B:Nat) W v,W.ownsRow B 9 1 v (cutB s.data.toList).length (frV (cutB s.data.toList))→StrsIs W v (framesL s)):=Lib.hid (fun B W v hv=>strs_of_owns hv);rw[hn]at hn1 hn6 hkA hp hfl ⊢;have HN:=Lib.hid hn;obtain⟨k,hk⟩:∃k,(n+61)/62=k:=⟨_,rfl⟩;have cF:=fun W=>frames_n (n:Int) W (by omega)
  rw[framesI_nat]at cF;rw[hk]at hkA hp hfl cF ⊢;obtain⟨fs,hfsd⟩:∃fs,framesL s=fs:=⟨_,rfl⟩;rw[hfsd]at hfl hfs HSO ⊢;have HFL:=Lib.hid hfl;have HTL:Hid (∀j,j≤k→(fs.take j).length=j):=Lib.hid (fun j hj=>by rw[List.length_take];omega);have HST:Hid (∀j,j≤k→Runs st (F+A) (fs.take j)→Good (putsSt st (F+A) (fs.take j))∧(putsSt st (F+A) (fs.take j)).now.length=st.now.length∧(putsSt st (F+A) (fs.take j)).pend.length=st.pend.length+j):=Lib.hid (fun j hj hr=>by
    have hl:=HTL.out j hj;have h1:=puts_any (st:=st) (i:=F+A) (fs:=fs.take j) hg (by omega) (fun f hf=>hfs f (List.mem_of_mem_take hf)) hr j (by omega);rw[List.take_take,Nat.min_self]at h1;exact⟨h1.1,h1.2.2.1,h1.2.2.2.1⟩)
  have HPUT:Hid (∀(j:Nat) (f:ByteArray) W,fs[j]?=some f→Runs st (F+A) (fs.take j)→goneB (putsSt st (F+A) (fs.take j))=false→Dev B W b (putsSt st (F+A) (fs.take j))→B≤W.heap.size→Calls Tryz.prog 135 #[.agg #[.pointer (some ⟨b,0,none⟩),.int .i64 F,.int .i64 S],.int .i64 ((A:Int)+(j:Int)),.string f] W fun e w'=>e=.returned (.int .i64 0)∧Dev B w' b (putsSt st (F+A) (fs.take (j+1)))∧Below B W w'∧Off devTs W w'):=Lib.hid (fun j f W hj hr hgo hd hBW=>by
    have hjk:j<k:=by have:=(List.getElem?_eq_some_iff.1 hj).1;omega
    obtain⟨g1,g3,g4⟩:=HST.out j (by omega) hr;have h1:=bput_any B b (putsSt st (F+A) (fs.take j)) F A j S f W hd g1 hgo (by omega) hBW (by omega) (hfs f (List.mem_of_getElem? hj));rw[puts_take_succ st (F+A) hj];exact h1)
  have HGONE:Hid (∀(j:Nat) (f:ByteArray) W,j<k→Runs st (F+A) (fs.take j)→goneB (putsSt st (F+A) (fs.take j))=true→Dev B W b (putsSt st (F+A) (fs.take j))→B≤W.heap.size→Calls Tryz.prog 135 #[.agg #[.pointer (some ⟨b,0,none⟩),.int .i64 F,.int .i64 S],.int .i64 ((A:Int)+(j:Int)),.string f] W fun e w'=>e=.returned (.int .i64 13)∧Dev B w' b (putsSt st (F+A) (fs.take j))∧Below B W w'∧Off devTs W w'):=Lib.hid (fun j f W hjk hr hgo hd hBW=>by
    obtain⟨g1,g3,g4⟩:=HST.out j (by omega) hr;exact bput_gone B b (putsSt st (F+A) (fs.take j)) F A j S f W hd g1 hgo (by omega) hBW (by omega))
  have HRN:Hid (∀(j:Nat),j<k→Runs st (F+A) (fs.take j)→goneB (putsSt st (F+A) (fs.take j))=false→Runs st (F+A) (fs.take (j+1))):=Lib.hid (fun j hjk hr hgo i hi=>by
    rw[HTL.out (j+1) (by omega)]at hi;rw[List.take_take,Nat.min_eq_left (by omega)];by_cases hij:i=j
    · rw[hij];exact hgo
    · have h1:=hr i (by rw[HTL.out j (by omega)];omega);rw[List.take_take,Nat.min_eq_left (by omega)]at h1;exact h1)
  have HR0:Hid (Runs st (F+A) (fs.take 0)):=Lib.hid (fun j hj=>by simp at hj);have cH:=fun W=>has_c (some ⟨b,0,none⟩) F S A k W (by omega)
  rw[decide_eq_true (by omega)]at cH;have HDB:Hid (∀W,Below w.heap.size w W→Dev B W b (putsSt st (F+A) (fs.take 0))):=Lib.hid (fun W hW=>h.below hW);have h1z:¬((A:Int)<1):=by omega
  have h2z:¬((n:Int)<1):=by omega
  have hd2:decide ((n:Int)<1)=false:=decide_eq_false h2z;have h3z:¬((60000:Int)<(n:Int)):=by omega
  have hd3:decide ((60000:Int)<(n:Int))=false:=decide_eq_false h3z;have HCL:Hid ((cutB s.data.toList).length=k):=Lib.hid (by rw[cutB_length,Array.length_toList];show(s.size+61)/62=k;rw[hn];exact hk);clear h hg ho hS hf hfs hfsd hfl;go_enter Tryz.func95,Tryz.ntmps95;go_wp2_with fail;refine cO.mono ?_;rintro e w1 ⟨rfl,hb1⟩;have HB1:=Lib.hid hb1;clear hb1 cO;go_upto_region 8 with fail;obtain⟨W0,hW0⟩:∃W0,w1.alloc (.cells #[.pointer (some ⟨b,0,none⟩),.int .i64 F,.int .i64 S] 218)=W0:=⟨_,rfl⟩;have HB2:Hid (Below w.heap.size w W0):=Lib.hid (by rw[←hW0];exact HB1.out.alloc HB1.out.size _);have hC0:W0.heap[w1.heap.size]?=some (.cells #[.pointer (some ⟨b,0,none⟩),.int .i64 F,.int .i64 S] 218 (0,0)):=by rw[←hW0];exact heap_alloc_new _ _
  have hgS:w1.heap.size<W0.heap.size:=lt_of_get hC0;have HC0:=Lib.hid hC0;have hS0:Below W0.heap.size W0 W0∧W0.cell? ⟨w1.heap.size,0,none⟩=some (.pointer (some ⟨b,0,none⟩))∧W0.cell? ⟨w1.heap.size,1,none⟩=some (.int .i64 F)∧W0.cell? ⟨w1.heap.size,2,none⟩=some (.int .i64 S):=⟨Below.refl _ _,by rw[cell_of_row _ _ _ _ _ _ hC0];rfl,by rw[cell_of_row _ _ _ _ _ _ hC0];rfl,by rw[cell_of_row _ _ _ _ _ _ hC0];rfl⟩;have j0:=hS0.2.1;have j1:=hS0.2.2.1;have j2:=hS0.2.2.2;rw[hW0];clear hC0 hW0;generalize w1.heap.size=g at *;go_region_held3 (fun W=>Below W0.heap.size W0 W∧W.cell? ⟨g,0,none⟩=some (.pointer (some ⟨b,0,none⟩))∧W.cell? ⟨g,1,none⟩=some (.int .i64 F)∧W.cell? ⟨g,2,none⟩=some (.int .i64 S)) (first|assumption|exact box_drew ‹_›|exact box_step hgS ‹_› ‹_›) (first|(go_at_call 133;refine(cF _).mono ?_;rintro e w' ⟨rfl,rfl⟩)|(go_at_call 132;refine(cH _).mono ?_;rintro e w' ⟨rfl,hb⟩));rename_i hHeld;have HH9:=Lib.hid hHeld.1;clear hS0 j0 j1 j2 hb hHeld cH;go_wp2_with fail;refine(cR.out _).mono ?_;rintro e w3 ⟨v,rfl,hown,hb3⟩;have HB3:Hid (Below W0.heap.size W0 w3):=Lib.hid (HH9.out.trans (hb3.mono HH9.out.size));have HBw:Hid (Below w.heap.size w w3):=Lib.hid (HB2.out.trans (HB3.out.mono HB2.out.size));have HOW:=Lib.hid hown;have HC3:Hid (w3.heap[g]?=some (.cells #[.pointer (some ⟨b,0,none⟩),.int .i64 F,.int .i64 S] 218 (0,0))):=Lib.hid (by rw[HB3.out.block _ hgS];exact HC0.out);obtain⟨va,vc,rfl⟩:=(HSO.out _ _ _ hown).len;rw[HFL.out]at HOW;clear hown hb3;rw[HFL.out];go_wp2;go_loopw [47] (fun iv wr=>∃j:Nat,j≤k∧iv=.int .i64 j∧Runs st (F+A) (fs.take j)∧Dev B wr b (putsSt st (F+A) (fs.take j))∧Below B w3 wr∧Off devTs w3 wr) (fun iv _=>k-(intOf iv).toNat)
  case atStart=>exact⟨0,by omega,rfl,HR0.out,HDB.out _ HBw.out,Below.refl _ _,Off.refl _ _⟩
  case round =>
    obtain⟨j,hj,rfl,hr,hd,hb,hoff⟩:=hrel;have HD:=Lib.hid hd;have HB:=Lib.hid hb;have HOf:=Lib.hid hoff;have HR:=Lib.hid hr;have HBE:Hid (Below B w wr):=Lib.hid ((HBw.out.mono hB).trans hb);have HOE:Hid (Off devTs w wr):=Lib.hid ((Off.ofBelow HBw.out _).trans hoff);by_cases hjk:j<k
    · have hjz:(j:Int)<(k:Int):=by omega
      obtain⟨f,hfj⟩:∃f,fs[j]?=some f:=⟨_,List.getElem?_eq_getElem (by rw[HFL.out];exact hjk)⟩;have hst:=HSO.out _ _ _ (own_off HOW.out (by decide) hoff);rw[show(Value.slice va k vc)=.slice va fs.length vc by rw[HFL.out]]at hst;rw[HFL.out]at hst;obtain⟨g2,o2,rfl,_,kc⟩:=hst.at hfj;have hbox:=hoff 218 (by decide) _ _ _ HC3.out;have k0:wr.cell? ⟨g,0,none⟩=some (.pointer (some ⟨b,0,none⟩)):=by rw[cell_of_row _ _ _ _ _ _ hbox];rfl
      have k1:wr.cell? ⟨g,1,none⟩=some (.int .i64 F):=by rw[cell_of_row _ _ _ _ _ _ hbox];rfl
      have k2:wr.cell? ⟨g,2,none⟩=some (.int .i64 S):=by rw[cell_of_row _ _ _ _ _ _ hbox];rfl
      have hAj:IntKind.i64.wrap ((A:Int)+(j:Int))=(A:Int)+(j:Int):=by rw[IntKind.wrap_i64];omega
      have HFJ:=Lib.hid hfj;have HBsz:Hid (B≤wr.heap.size):=Lib.hid (Nat.le_trans hB (Nat.le_trans HBw.out.size HB.out.size));clear hst hbox hfj hd hb hoff hr;cases hgo:goneB (putsSt st (F+A) (fs.take j)) with
      | false =>
        have HGO:=Lib.hid hgo;clear hgo;go_wp2_with fail;refine(HPUT.out j f wr HFJ.out HR.out HGO.out HD.out HBsz.out).mono ?_;rintro e w5 ⟨rfl,hd5,hb5,ho5⟩;have HD5:=Lib.hid hd5;have HB5:Hid (Below B w3 w5):=Lib.hid (HB.out.trans hb5);have HO5:Hid (Off devTs w3 w5):=Lib.hid (HOf.out.trans ho5);have HR5:=Lib.hid (HRN.out j hjk HR.out HGO.out);clear hd5 hb5 ho5 k0 k1 k2 kc;go_wp2;go_roundw
        case rel=>exact⟨j+1,by omega,by first|rfl|go_num,HR5.out,HD5.out,HB5.out,HO5.out⟩
        case measure=>simp[intOf];omega
      | true =>
        have HGO:=Lib.hid hgo;clear hgo;go_wp2_with fail;refine(HGONE.out j f wr hjk HR.out HGO.out HD.out HBsz.out).mono ?_;rintro e w5 ⟨rfl,hd5,hb5,ho5⟩;have HD5:=Lib.hid hd5;have HB5:Hid (Below B w w5):=Lib.hid (HBE.out.trans hb5);have HO5:Hid (Off devTs w w5):=Lib.hid (HOE.out.trans ho5);clear hd5 hb5 ho5 k0 k1 k2 kc;go_wp2;go_ret2;exact⟨j,by omega,Or.inr ⟨rfl,hjk,HGO.out⟩,HR.out,HD5.out,HB5.out,HO5.out⟩
    · have hjz:¬((j:Int)<(k:Int)):=by omega
      have hjk2:j=k:=by omega
      have hAk:IntKind.i64.wrap ((A:Int)+(k:Int))=(A:Int)+(k:Int):=by rw[IntKind.wrap_i64];omega
      have hAk2:((A+k:Nat):Int)=(A:Int)+(k:Int):=by omega
      have HJK:=Lib.hid hjk2;clear hd hb hoff hr hjk2;go_wp2_with fail;refine(cF _).mono ?_;rintro e w5 ⟨rfl,rfl⟩;go_wp2;go_ret2;exact⟨j,hj,Or.inl ⟨by rw[hAk2];rfl,HJK.out⟩,HR.out,HD.out,HBE.out,HOE.out⟩
end Go.Proofs.YtdmkhmeaphaapaaGreat.V
namespace Go.Proofs.YtdmkhmeaphaapaaGreat.V
open Go.RowKit Go.Sort
set_option linter.unusedVariables false
def RunsW (st:St)(i k:Nat):Prop:=∀j,j<k→goneB (wipesSt st i j)=false
theorem wipe1_any {st:St}{i:Nat}(hg:Good st)(hgo:goneB st=false)(hi:i<st.now.length) :
    Good (wipe1 st i)∧(wipe1 st i).lim=st.lim∧(wipe1 st i).now=st.now.set i zero64∧(wipe1 st i).pend.length≤st.pend.length+1∧(wipe1 st i).safe=st.safe:=by
  unfold wipe1;split
  · rename_i hz;refine⟨hg,rfl,?_,by omega,rfl⟩;apply List.ext_getElem?;intro j;by_cases hj:i=j
    · subst hj;rw[List.getElem?_set_self hi,List.getElem?_eq_getElem hi];rw[List.getD_eq_getElem?_getD,List.getElem?_eq_getElem hi]at hz;exact congrArg some hz
    · rw[List.getElem?_set_ne hj]
  · exact⟨good_put hg (ask_ok hgo hi) rfl,rfl,rfl,by simp[putSt],rfl⟩
theorem wipes_any {st:St}{i:Nat}(hg:Good st):∀k,i+k≤st.now.length→RunsW st i k →
    Good (wipesSt st i k)∧(wipesSt st i k).lim=st.lim∧(wipesSt st i k).now=st.now.take i++List.replicate k zero64++st.now.drop (i+k)∧(wipesSt st i k).pend.length≤st.pend.length+k∧(wipesSt st i k).safe=st.safe
  | 0,_,_=>⟨hg,rfl,by simp[wipesSt],by simp[wipesSt],rfl⟩
  | k+1,hk,hr=>by
    obtain⟨g1,g2,g3,g4,g5⟩:=wipes_any (i:=i) hg k (by omega) (fun j hj=>hr j (by omega));have hlen:(wipesSt st i k).now.length=st.now.length:=by
      rw[g3];simp;omega
    obtain⟨e1,e2,e3,e4,e5⟩:=wipe1_any g1 (hr k (by omega)) (show i+k<(wipesSt st i k).now.length by omega);refine⟨e1,e2.trans g2,?_,?_,e5.trans g5⟩
    · show(wipe1 (wipesSt st i k) (i+k)).now=_
      rw[e3,g3];have hl1:(st.now.take i).length=i:=by rw[List.length_take];omega
      rw[List.append_assoc,List.set_append,if_neg (by omega),hl1,show i+k-i=k by omega,List.set_append,if_neg (by simp),List.length_replicate,Nat.sub_self];have hgp:i+k<st.now.length:=by omega
      rw[List.drop_eq_getElem_cons hgp,List.set_cons_zero,List.replicate_succ'];simp[Nat.add_assoc]
    · show(wipe1 (wipesSt st i k) (i+k)).pend.length≤_
      omega
set_option maxHeartbeats 4000000 in
theorem bwipe_any (B b:Nat)(st:St)(F i:Nat)(sz:Int)(w:World)(h:Dev B w b st)(hg:Good st)(hgo:goneB st=false)(hp:st.pend.length≤1000)(hB:B≤w.heap.size)(hi:F+i<st.now.length) :
    Calls Tryz.prog 131 #[.agg #[.pointer (some ⟨b,0,none⟩),.int .i64 F,.int .i64 sz],.int .i64 i] w fun e w'=>e=.returned (.int .i64 0)∧Dev B w' b (wipe1 st (F+i))∧Below B w w'∧Off devTs w w':=by
  have hf:=hg.few;obtain⟨x,hx⟩:∃x,st.now.getD (F+i) ⟨#[]⟩=x:=⟨_,rfl⟩;unfold wipe1;rw[hx];have cG:Hid (∀W,Below w.heap.size w W→Calls Tryz.prog 162 #[.agg #[.pointer (some ⟨b,0,none⟩),.int .i64 F,.int .i64 sz],.int .i64 i] W fun e w'=>e=.returned (.tuple #[.string x,.int .i64 0])∧Below W.heap.size W w'):=Lib.hid (fun W hW=>by
    have h1:=bget_c B b st F sz i ((F+i:Nat):Int) W (h.below hW) hg (by omega) (by omega);rw[ask_ok hgo hi,if_pos rfl,Int.toNat_natCast,hx]at h1;exact h1)
  have cP:Hid (∀W,Below w.heap.size w W→Calls Tryz.prog 135 #[.agg #[.pointer (some ⟨b,0,none⟩),.int .i64 F,.int .i64 sz],.int .i64 i,.string zero64] W fun e w'=>e=.returned (.int .i64 0)∧Dev B w' b (putSt st (F+i) zero64)∧Below B W w'∧Off devTs W w'):=Lib.hid (fun W hW=>by
    have h1:=bput_any B b st F i 0 sz zero64 W (h.below hW) hg hgo hp (Nat.le_trans hB hW.size) hi rfl;rw[show(i:Int)+((0:Nat):Int)=(i:Int) by omega]at h1;exact h1)
  have HD:Hid (∀W,Below w.heap.size w W→Dev B W b st):=Lib.hid (fun W hW=>h.below hW);have cN:=noughts_c;obtain⟨W0,hW0⟩:∃W0,w.alloc (.cells #[.pointer (some ⟨b,0,none⟩),.int .i64 F,.int .i64 sz] 218)=W0:=⟨_,rfl⟩;have HB0:Hid (Below w.heap.size w W0):=Lib.hid (by rw[←hW0];exact(Below.refl _ _).alloc (Nat.le_refl _) _);have HS0:Hid (W0.heap.size=w.heap.size+1):=Lib.hid (by rw[←hW0];simp);have HC0:Hid (W0.heap[w.heap.size]?=some (.cells #[.pointer (some ⟨b,0,none⟩),.int .i64 F,.int .i64 sz] 218 (0,0))):=Lib.hid (by rw[←hW0];exact heap_alloc_new _ _);have HBX:Hid (Below W0.heap.size W0 W0∧W0.cell? ⟨w.heap.size,0,none⟩=some (.pointer (some ⟨b,0,none⟩))∧W0.cell? ⟨w.heap.size,1,none⟩=some (.int .i64 F)∧W0.cell? ⟨w.heap.size,2,none⟩=some (.int .i64 sz)):=Lib.hid ⟨Below.refl _ _,by rw[cell_of_row _ _ _ _ _ _ HC0.out];rfl,by rw[cell_of_row _ _ _ _ _ _ HC0.out];rfl,by rw[cell_of_row _ _ _ _ _ _ HC0.out];rfl⟩;have hgS:w.heap.size<W0.heap.size:=by rw[HS0.out];omega
  have HBW:Hid (∀W,Below W0.heap.size W0 W→Below w.heap.size w W):=Lib.hid (fun W hW=>HB0.out.trans (hW.mono (by rw[HS0.out];omega)));obtain⟨_,k0,k1,k2⟩:=HBX.out;clear h hg hgo hp hi hf hx;by_cases hz:x=zero64
  · subst hz;rw[if_pos rfl];clear cP;generalize hZ:zero64=Z at *;go_enter Tryz.func131,Tryz.ntmps131;go_wp2_with fail;refine(cG.out _ HB0.out).mono ?_;rintro e w1 ⟨rfl,hb1⟩;have HS1:=Lib.hid (box_step hgS HBX.out hb1);clear hb1 k0 k1 k2;go_wp2_with fail;refine(cN _).mono ?_;rintro e w2 ⟨rfl,hb2⟩;have HS2:=Lib.hid (box_step hgS HS1.out hb2);have HBw:=Lib.hid (HBW.out _ HS2.out.1);clear hb2 cN;go_wp2;go_ret;exact⟨rfl,HD.out _ HBw.out,HBw.out.mono hB,Off.ofBelow HBw.out _⟩
  · rw[if_neg hz];have hne:=toList_ne hz;generalize zero64=Z at *;clear hz;go_enter Tryz.func131,Tryz.ntmps131;go_wp2_with fail;refine(cG.out _ HB0.out).mono ?_;rintro e w1 ⟨rfl,hb1⟩;have HS1:=Lib.hid (box_step hgS HBX.out hb1);clear hb1 k0 k1 k2;go_wp2_with fail;refine(cN _).mono ?_;rintro e w2 ⟨rfl,hb2⟩;have HS2:=Lib.hid (box_step hgS HS1.out hb2);clear hb2;obtain⟨_,j0,j1,j2⟩:=HS2.out;have q0:w2.drew.cell? ⟨w.heap.size,0,none⟩=some (.pointer (some ⟨b,0,none⟩)):=j0;have q1:w2.drew.cell? ⟨w.heap.size,1,none⟩=some (.int .i64 F):=j1;have q2:w2.drew.cell? ⟨w.heap.size,2,none⟩=some (.int .i64 sz):=j2;have HKK:Hid (∀w3,Below w2.drew.heap.size w2.drew w3→(w3.cell? ⟨w.heap.size,0,none⟩=some (.pointer (some ⟨b,0,none⟩))∧w3.cell? ⟨w.heap.size,1,none⟩=some (.int .i64 F)∧w3.cell? ⟨w.heap.size,2,none⟩=some (.int .i64 sz))∧Below w.heap.size w w3):=Lib.hid (fun w3 hb3=>by
      have h1:=box_step hgS (box_drew HS2.out) hb3;exact⟨h1.2,HBW.out _ h1.1⟩)
    go_wp2;go_region_with (first|(go_at_call 163;refine(cN _).mono ?_;rintro e w3 ⟨rfl,hb3⟩;obtain⟨⟨p0,p1,p2⟩,hbw⟩:=HKK.out _ hb3)|(go_at_call 135;refine(cP.out _ (by assumption)).mono ?_;rintro e w4 ⟨rfl,hd4,hb4,ho4⟩))
    all_goals (try go_wp2)
    all_goals go_ret
    all_goals exact⟨rfl,hd4,(hbw.mono hB).trans hb4,(Off.ofBelow hbw _).trans ho4⟩
set_option maxHeartbeats 4000000 in
theorem bwipe_gone (B b:Nat)(st:St)(F i:Nat)(sz:Int)(w:World)(h:Dev B w b st)(hg:Good st)(hgo:goneB st=true)(hi:F+i≤1000000) :
    Calls Tryz.prog 131 #[.agg #[.pointer (some ⟨b,0,none⟩),.int .i64 F,.int .i64 sz],.int .i64 i] w fun e w'=>e=.returned (.int .i64 13)∧Below w.heap.size w w':=by
  have cG:Hid (∀W,Below w.heap.size w W→Calls Tryz.prog 162 #[.agg #[.pointer (some ⟨b,0,none⟩),.int .i64 F,.int .i64 sz],.int .i64 i] W fun e w'=>e=.returned (.tuple #[.string ⟨#[]⟩,.int .i64 13])∧Below W.heap.size W w'):=Lib.hid (fun W hW=>by
    have h1:=bget_c B b st F sz i ((F+i:Nat):Int) W (h.below hW) hg (by omega) (by omega);rw[ask_gone hgo,if_neg (by decide)]at h1;exact h1)
  obtain⟨W0,hW0⟩:∃W0,w.alloc (.cells #[.pointer (some ⟨b,0,none⟩),.int .i64 F,.int .i64 sz] 218)=W0:=⟨_,rfl⟩;have HB0:Hid (Below w.heap.size w W0):=Lib.hid (by rw[←hW0];exact(Below.refl _ _).alloc (Nat.le_refl _) _);have HC0:Hid (W0.heap[w.heap.size]?=some (.cells #[.pointer (some ⟨b,0,none⟩),.int .i64 F,.int .i64 sz] 218 (0,0))):=Lib.hid (by rw[←hW0];exact heap_alloc_new _ _);have k0:W0.cell? ⟨w.heap.size,0,none⟩=some (.pointer (some ⟨b,0,none⟩)):=by rw[cell_of_row _ _ _ _ _ _ HC0.out];rfl
  have k1:W0.cell? ⟨w.heap.size,1,none⟩=some (.int .i64 F):=by rw[cell_of_row _ _ _ _ _ _ HC0.out];rfl
  have k2:W0.cell? ⟨w.heap.size,2,none⟩=some (.int .i64 sz):=by rw[cell_of_row _ _ _ _ _ _ HC0.out];rfl
  clear h hg hgo hi;go_enter Tryz.func131,Tryz.ntmps131;go_wp2_with fail;refine(cG.out _ HB0.out).mono ?_;rintro e w1 ⟨rfl,hb1⟩;have HB1:Hid (Below w.heap.size w w1):=Lib.hid (HB0.out.trans (hb1.mono HB0.out.size));clear hb1 k0 k1 k2;go_wp2;go_ret;exact⟨rfl,HB1.out⟩
def AnyWipe (B b:Nat)(st:St)(i k:Nat)(w:World)(e:Ending)(w':World):Prop:=
  ∃j,j≤k∧(e=.returned (.int .i64 0)∧j=k∨e=.returned (.int .i64 13)∧j<k∧goneB (wipesSt st i j)=true)∧RunsW st i j∧Dev B w' b (wipesSt st i j)∧Below B w w'∧Off devTs w w'
set_option maxHeartbeats 8000000 in
theorem wipe_any (B b:Nat)(st:St)(F S a:Nat)(at_:Int)(w:World)(h:Dev B w b st)(hg:Good st)(ho:openI st F S=0)(hS:F+S≤st.now.length)(ha:max at_ 1=(a:Int))(hat:at_≤9223372036854775807)(hp:st.pend.length+S≤1000)(hB:B≤w.heap.size) :
    Calls Tryz.prog 94 #[.pointer (some ⟨b,0,none⟩),.int .i64 F,.int .i64 S,.int .i64 at_] w (AnyWipe B b st (F+a) (S-a) w):=by
  unfold AnyWipe;have cO:=open_ok B b st F S w h hg ho;have hf:=hg.few;have hS4:S≤4096:=by omega
  obtain⟨k,hk⟩:∃k,S-a=k:=⟨_,rfl⟩;rw[hk];have HW:Hid (∀j W,j<k→RunsW st (F+a) j→goneB (wipesSt st (F+a) j)=false→Dev B W b (wipesSt st (F+a) j)→B≤W.heap.size→Calls Tryz.prog 131 #[.agg #[.pointer (some ⟨b,0,none⟩),.int .i64 F,.int .i64 S],.int .i64 ((a:Int)+(j:Int))] W fun e w'=>e=.returned (.int .i64 0)∧Dev B w' b (wipesSt st (F+a) (j+1))∧Below B W w'∧Off devTs W w'):=Lib.hid (fun j W hj hr hgo hd hBW=>by
    obtain⟨g1,g2,g3,g4,_⟩:=wipes_any (i:=F+a) hg j (by omega) hr;have hlen:(wipesSt st (F+a) j).now.length=st.now.length:=by
      rw[g3];simp;omega
    have h1:=bwipe_any B b (wipesSt st (F+a) j) F (a+j) S W hd g1 hgo (by omega) hBW (by omega);rw[show((a+j:Nat):Int)=(a:Int)+(j:Int) by omega,show F+(a+j)=F+a+j by omega]at h1;exact h1)
  have HWG:Hid (∀j W,j<k→RunsW st (F+a) j→goneB (wipesSt st (F+a) j)=true→Dev B W b (wipesSt st (F+a) j)→Calls Tryz.prog 131 #[.agg #[.pointer (some ⟨b,0,none⟩),.int .i64 F,.int .i64 S],.int .i64 ((a:Int)+(j:Int))] W fun e w'=>e=.returned (.int .i64 13)∧Below W.heap.size W w'):=Lib.hid (fun j W hj hr hgo hd=>by
    obtain⟨g1,g2,g3,g4,_⟩:=wipes_any (i:=F+a) hg j (by omega) hr;have h1:=bwipe_gone B b (wipesSt st (F+a) j) F (a+j) S W hd g1 hgo (by omega);rw[show((a+j:Nat):Int)=(a:Int)+(j:Int) by omega]at h1;exact h1)
  have HRN:Hid (∀j,RunsW st (F+a) j→goneB (wipesSt st (F+a) j)=false→RunsW st (F+a) (j+1)):=Lib.hid (fun j hr hgo i hi=>by
    by_cases hij:i=j
    · rw[hij];exact hgo
    · exact hr i (by omega))
  have HR0:Hid (RunsW st (F+a) 0):=Lib.hid (fun j hj=>by omega);have HDB:Hid (∀W,Below w.heap.size w W→Dev B W b (wipesSt st (F+a) 0)):=Lib.hid (fun W hW=>h.below hW);have ha9:(a:Int)≤9223372036854775807:=by omega
  have ha1:1≤a:=by omega
  clear h hg ho hS hf hp;go_enter Tryz.func94,Tryz.ntmps94;go_wp2_with fail;refine cO.mono ?_;rintro e w1 ⟨rfl,hb1⟩;have HB1:=Lib.hid hb1;clear hb1 cO;go_wp2;obtain⟨W0,hW0⟩:∃W0,w1.alloc (.cells #[.pointer (some ⟨b,0,none⟩),.int .i64 F,.int .i64 S] 218)=W0:=⟨_,rfl⟩;have HB0:Hid (Below w.heap.size w W0):=Lib.hid (by rw[←hW0];exact HB1.out.alloc HB1.out.size _);have HC0:Hid (W0.heap[w1.heap.size]?=some (.cells #[.pointer (some ⟨b,0,none⟩),.int .i64 F,.int .i64 S] 218 (0,0))):=Lib.hid (by rw[←hW0];exact heap_alloc_new _ _);rw[hW0];clear hW0;generalize w1.heap.size=g at *
  try rw[ha]
  clear hat;go_loopw [11] (fun iv wr=>∃j:Nat,j≤k∧iv=.int .i64 ((a:Int)+(j:Int))∧RunsW st (F+a) j∧Dev B wr b (wipesSt st (F+a) j)∧Below B w wr∧Off devTs W0 wr) (fun iv _=>S-(intOf iv).toNat)
  case atStart=>exact⟨0,by omega,by first|rfl|(rw[ha];congr 1)|(congr 1;omega),HR0.out,HDB.out _ HB0.out,HB0.out.mono hB,Off.refl _ _⟩
  case round =>
    obtain⟨j,hj,rfl,hr,hd,hb,hoff⟩:=hrel;have HR:=Lib.hid hr;have HD:=Lib.hid hd;have HB:=Lib.hid hb;have HOf:=Lib.hid hoff;have hbox:=hoff 218 (by decide) _ _ _ HC0.out;have k0:wr.cell? ⟨g,0,none⟩=some (.pointer (some ⟨b,0,none⟩)):=by rw[cell_of_row _ _ _ _ _ _ hbox];rfl
    have k1:wr.cell? ⟨g,1,none⟩=some (.int .i64 F):=by rw[cell_of_row _ _ _ _ _ _ hbox];rfl
    have k2:wr.cell? ⟨g,2,none⟩=some (.int .i64 S):=by rw[cell_of_row _ _ _ _ _ _ hbox];rfl
    clear hbox hd hb hoff hr;by_cases hjk:a+j<S
    · have hjz:(a:Int)+(j:Int)<(S:Int):=by omega
      have haw:IntKind.i64.wrap ((a:Int)+(j:Int)+1)=(a:Int)+(j:Int)+1:=by rw[IntKind.wrap_i64];omega
      have HBsz:Hid (B≤wr.heap.size):=Lib.hid (Nat.le_trans hB HB.out.size);have HJK:Hid (j<k):=Lib.hid (by omega);cases hgo:goneB (wipesSt st (F+a) j) with
      | false =>
        have HGO:=Lib.hid hgo;clear hgo;go_wp2_with fail;refine(HW.out j wr HJK.out HR.out HGO.out HD.out HBsz.out).mono ?_;rintro e w5 ⟨rfl,hd5,hb5,ho5⟩;have HD5:=Lib.hid hd5;have HR5:=Lib.hid (HRN.out j HR.out HGO.out);have HB5:Hid (Below B w w5):=Lib.hid (HB.out.trans hb5);have HO5:Hid (Off devTs W0 w5):=Lib.hid (HOf.out.trans ho5);clear hd5 hb5 ho5 k0 k1 k2;go_wp2;go_roundw
        case rel=>exact⟨j+1,by omega,by congr 1,HR5.out,HD5.out,HB5.out,HO5.out⟩
        case measure=>simp[intOf];omega
      | true =>
        have HGO:=Lib.hid hgo;clear hgo;go_wp2_with fail;refine(HWG.out j wr HJK.out HR.out HGO.out HD.out).mono ?_;rintro e w5 ⟨rfl,hb5⟩;have HD5:=Lib.hid (HD.out.below hb5);have HB5:Hid (Below B w w5):=Lib.hid (HB.out.trans (hb5.mono HBsz.out));have HO5:Hid (Off devTs w w5):=Lib.hid (((Off.ofBelow HB0.out _).trans HOf.out).trans (Off.ofBelow hb5 _));clear hb5 k0 k1 k2;go_wp2;go_ret;exact⟨j,Nat.le_of_lt HJK.out,Or.inr ⟨rfl,HJK.out,HGO.out⟩,HR.out,HD5.out,HB5.out,HO5.out⟩
    · have hjz:¬((a:Int)+(j:Int)<(S:Int)):=by omega
      have hjk2:j=k∨(k=0∧j=0):=by omega
      have HJK:Hid (j=k):=Lib.hid (by omega);clear hjk2;have HOE:Hid (Off devTs w wr):=Lib.hid ((Off.ofBelow HB0.out _).trans HOf.out);go_wp2;go_ret;exact⟨j,hj,Or.inl ⟨rfl,HJK.out⟩,HR.out,HD.out,HB.out,HOE.out⟩
end Go.Proofs.YtdmkhmeaphaapaaGreat.V
namespace Go.Proofs.YtdmkhmeaphaapaaGreat.V
open Go.RowKit Go.Sort
set_option linter.unusedVariables false
set_option maxHeartbeats 2000000 in
theorem epoch_any (B b:Nat)(st:St)(k:Nat)(w:World)(h:Dev B w b st)(hg:Good st)(hgo:goneB st=false)(hk:k<st.now.length) :
    Calls Tryz.prog 92 #[.pointer (some ⟨b,0,none⟩),.int .i64 k] w fun e w'=>e=.returned (.tuple #[.int .u64 (epochI (st.now.getD k ⟨#[]⟩)),.int .i64 0])∧Below w.heap.size w w':=by
  have cG:=get_c B b st k w h hg;unfold GetPost at cG;have ha:askI st.now.length st.lim st.left k=0:=ask_ok hgo hk;rw[ha,if_pos rfl,Int.toNat_natCast]at cG;have hx:st.now[k]?=some (st.now.getD k ⟨#[]⟩):=by rw[List.getD_eq_getElem?_getD,List.getElem?_eq_getElem hk];rfl
  have hxs:=hg.szn _ (List.mem_of_getElem? hx);generalize st.now.getD k ⟨#[]⟩=x at *;have cE:=epochOf_c x w hxs;generalize epochI x=E at *;clear h hg hgo hk ha hx;go_enter Tryz.func92,Tryz.ntmps92;go_wp2_with fail;refine cG.mono ?_;rintro e w1 ⟨rfl,rfl⟩;go_wp2_with fail;refine cE.mono ?_;rintro e w2 ⟨rfl,hb2⟩;have HB2:=Lib.hid hb2;clear hb2;go_wp2;go_ret2;exact⟨rfl,HB2.out⟩
set_option maxHeartbeats 2000000 in
theorem setEpoch_any (B b:Nat)(st:St)(k N:Nat)(w:World)(h:Dev B w b st)(hg:Good st)(hgo:goneB st=false)(hk:k<st.now.length)(hp:st.pend.length≤1000)(hB:B≤w.heap.size)(hN:N<18446744073709551616) :
    Calls Tryz.prog 153 #[.pointer (some ⟨b,0,none⟩),.int .i64 k,.int .u64 N] w fun e w'=>e=.returned (.int .i64 0)∧Dev B w' b (putSt st k (headB N))∧Below B w w'∧Off devTs w w':=by
  have ha:askI st.now.length st.lim st.left k=0:=ask_ok hgo hk;have hq:putI st k (headB N)=0:=by
    unfold putI;rw[if_pos ha,if_pos (headB_size N)]
  have cP:Hid (∀W,Below w.heap.size w W→Calls Tryz.prog 165 #[.pointer (some ⟨b,0,none⟩),.int .i64 k,.string (headB N)] W fun e w'=>e=.returned (.int .i64 0)∧Dev B w' b (putSt st k (headB N))∧Below B W w'∧Off devTs W w'):=Lib.hid (fun W hW=>by
    have h1:=put_c B b st k (headB N) W (h.below hW) hg hp (Nat.le_trans hB hW.size);unfold PutPost at h1;rw[hq,if_pos rfl,Int.toNat_natCast]at h1;exact h1)
  have cH:=head_c N w hN;generalize headB N=Z at *;clear h hg hgo hk ha hq hp;go_enter Tryz.func153,Tryz.ntmps153;go_wp2_with fail;refine cH.mono ?_;rintro e w1 ⟨rfl,hb1⟩;have HB1:=Lib.hid hb1;clear hb1;go_wp2_with fail;refine(cP.out _ HB1.out).mono ?_;rintro e w2 ⟨rfl,hd,hb,ho⟩;have HD:=Lib.hid hd;have HB2:Hid (Below B w w2):=Lib.hid ((HB1.out.mono hB).trans hb);have HO2:Hid (Off devTs w w2):=Lib.hid ((Off.ofBelow HB1.out _).trans ho);clear hd hb ho;go_wp2;go_ret;exact⟨rfl,HD.out,HB2.out,HO2.out⟩
set_option maxHeartbeats 2000000 in
theorem setEpoch_gone (B b:Nat)(st:St)(k:Int)(N:Nat)(w:World)(h:Dev B w b st)(hg:Good st)(hgo:goneB st=true)(hp:st.pend.length≤1000)(hB:B≤w.heap.size)(hN:N<18446744073709551616) :
    Calls Tryz.prog 153 #[.pointer (some ⟨b,0,none⟩),.int .i64 k,.int .u64 N] w fun e w'=>e=.returned (.int .i64 13)∧Dev B w' b st∧Below B w w'∧Off devTs w w':=by
  have hq:putI st k (headB N)=13:=by
    unfold putI;rw[ask_gone hgo,if_neg (by decide)]
  have cP:Hid (∀W,Below w.heap.size w W→Calls Tryz.prog 165 #[.pointer (some ⟨b,0,none⟩),.int .i64 k,.string (headB N)] W fun e w'=>e=.returned (.int .i64 13)∧Dev B w' b st∧Below B W w'∧Off devTs W w'):=Lib.hid (fun W hW=>by
    have h1:=put_c B b st k (headB N) W (h.below hW) hg hp (Nat.le_trans hB hW.size);unfold PutPost at h1;rw[hq,if_neg (by decide)]at h1;exact h1)
  have cH:=head_c N w hN;generalize headB N=Z at *;clear h hg hgo hq hp;go_enter Tryz.func153,Tryz.ntmps153;go_wp2_with fail;refine cH.mono ?_;rintro e w1 ⟨rfl,hb1⟩;have HB1:=Lib.hid hb1;clear hb1;go_wp2_with fail;refine(cP.out _ HB1.out).mono ?_;rintro e w2 ⟨rfl,hd,hb,ho⟩;have HD:=Lib.hid hd;have HB2:Hid (Below B w w2):=Lib.hid ((HB1.out.mono hB).trans hb);have HO2:Hid (Off devTs w w2):=Lib.hid ((Off.ofBelow HB1.out _).trans ho);clear hd hb ho;go_wp2;go_ret;exact⟨rfl,HD.out,HB2.out,HO2.out⟩
end Go.Proofs.YtdmkhmeaphaapaaGreat.V
namespace Go.Proofs.YtdmkhmeaphaapaaGreat.V
open Go.RowKit Go.Sort
set_option linter.unusedVariables false
def DevG (B b n p:Nat)(W:World):Prop:=∃st,Dev B W b st∧Good st∧st.lim=false∧st.now.length=n∧st.pend.length≤p
def DevC (B b:Nat)(W:World):Prop:=∃st,Dev B W b st∧Good st∧st.lim=true∧st.left=0
theorem DevG.below {B b n p:Nat}{W W':World}(h:DevG B b n p W)(hb:Below W.heap.size W W'):DevG B b n p W':=by
  obtain⟨st,hd,r⟩:=h;exact⟨st,hd.below hb,r⟩
theorem DevC.below {B b:Nat}{W W':World}(h:DevC B b W)(hb:Below W.heap.size W W'):DevC B b W':=by
  obtain⟨st,hd,r⟩:=h;exact⟨st,hd.below hb,r⟩
theorem DevG.base {B B' b n p:Nat}{W:World}(h:DevG B b n p W)(hB:B'≤B):DevG B' b n p W:=by
  obtain⟨st,hd,r⟩:=h;exact⟨st,hd.base hB,r⟩
end Go.Proofs.YtdmkhmeaphaapaaGreat.V
namespace Go.Proofs.YtdmkhmeaphaapaaGreat.V
open Go.RowKit Go.Sort
set_option linter.unusedVariables false
theorem bankL_puts {st:St}{F S A:Nat}{fs:List ByteArray}(hS:F+S≤st.now.length)(hA:A+fs.length≤S):bankL (putsSt st (F+A) fs) F S=(bankL st F S).take A++fs++(bankL st F S).drop (A+fs.length):=by
  unfold bankL;rw[puts_now fs st (F+A) (by omega)];have e1:(st.now.take (F+A)++fs++st.now.drop (F+A+fs.length)).drop F=(st.now.drop F).take A++fs++(st.now.drop F).drop (A+fs.length):=by
    rw[List.append_assoc,List.drop_append,List.length_take,Nat.min_eq_left (by omega),show F-(F+A)=0 by omega,List.drop_zero,List.drop_take,show F+A-F=A by omega,List.drop_drop,List.append_assoc,show F+(A+fs.length)=F+A+fs.length by omega]
  rw[e1];have hl:(st.now.drop F).length=st.now.length-F:=List.length_drop;generalize st.now.drop F=N at *;rw[List.take_append,List.take_append,List.length_append,List.length_take,Nat.min_eq_left (by omega),List.take_of_length_le (l:=N.take A) (by rw[List.length_take];omega),List.take_of_length_le (l:=fs) (by omega),List.take_take,Nat.min_eq_left (by omega),List.drop_take]
theorem bytesL_append (a b:List ByteArray):bytesL (a++b)=bytesL a++bytesL b:=by unfold bytesL;rw[List.map_append]
def recs (rs:List ByteArray):List (List UInt8):=bytesL rs
theorem scanB_zeros:∀m,scanB (List.replicate m zeroF)=[]
  | 0=>scanB_stop (Or.inl rfl)
  | m+1=>by
    rw[List.replicate_succ];exact scanB_stop (Or.inr (oneB_zero _))
theorem zeros_all (m:Nat):∀f∈List.replicate m zeroF,f.length=64:=fun f hf=>by
  rw[(List.mem_replicate.1 hf).2];rfl
def Holds (st:St)(F k:Nat)(rs:List ByteArray):Prop:=∃h m,bytesL (bankL st F k)=h::(layB (recs rs)++List.replicate m zeroF)
theorem Holds.scan {st:St}{F k:Nat}{rs:List ByteArray}(h:Holds st F k rs)(hr:∀s∈rs,1≤s.size∧s.size≤60000):scanB ((bytesL (bankL st F k)).drop 1)=recs rs:=by
  obtain⟨h0,m,he⟩:=h;rw[he];show scanB (layB (recs rs)++List.replicate m zeroF)=_
  rw[scanB_lay _ _ (fun r hr2=>by
    obtain⟨s,hs,rfl⟩:=List.mem_map.1 hr2;have:=hr s hs;have hl:s.data.toList.length=s.size:=Array.length_toList;exact⟨fun e=>by rw[e]at hl;simp at hl;omega,by omega⟩) (zeros_all m),scanB_zeros,List.append_nil]
theorem recs_append (a b:List ByteArray):recs (a++b)=recs a++recs b:=bytesL_append a b
theorem layB_append (a b:List (List UInt8)):layB (a++b)=layB a++layB b:=by unfold layB;rw[List.flatMap_append]
theorem layB_one (s:ByteArray):layB (recs [s])=cutB s.data.toList:=by
  show(cutB s.data.toList++[])=_
  rw[List.append_nil]
theorem Holds.put {st:St}{F k A:Nat}{rs:List ByteArray}{s:ByteArray}(h:Holds st F k rs)(hS:F+k≤st.now.length)(hA:A=1+(layB (recs rs)).length)(hk:A+(s.size+61)/62≤k):Holds (putsSt st (F+A) (framesL s)) F k (rs++[s]):=by
  obtain⟨h0,m,he⟩:=h;have hfl:=framesL_length s;refine⟨h0,m-(s.size+61)/62,?_⟩;rw[bankL_puts hS (by omega),bytesL_append,bytesL_append,bytesL_take,bytesL_drop,he,framesL_bytes,hfl];have hcl:(cutB s.data.toList).length=(s.size+61)/62:=by rw[cutB_length,Array.length_toList];rfl
  rw[hA,Nat.add_comm 1,List.take_succ_cons,List.take_left',show(layB (recs rs)).length+1+(s.size+61)/62=((layB (recs rs)).length+(s.size+61)/62)+1 by omega,List.drop_succ_cons,recs_append,layB_append,layB_one]
  · rw[List.drop_append,List.drop_eq_nil_of_le (by omega),List.nil_append,show(layB (recs rs)).length+(s.size+61)/62-(layB (recs rs)).length=(s.size+61)/62 by omega,List.drop_replicate];simp
  · rfl
theorem holds_new (F k:Nat)(hk:1≤k):Holds (stNew (F+k)) F k []:=by
  refine⟨zeroF,k-1,?_⟩;unfold bankL stNew;simp only[List.drop_replicate,List.take_replicate,Nat.add_sub_cancel_left,Nat.min_self];obtain⟨j,rfl⟩:∃j,k=j+1:=⟨k-1,by omega⟩;unfold bytesL;rw[List.map_replicate,show zero64.data.toList=zeroF by decide +kernel,List.replicate_succ];rfl
structure WrRel (B b F k i:Nat)(rs:List ByteArray)(A:Nat)(st:St)(W:World):Prop where
  dev:Dev B W b st
  good:Good st
  lim:st.lim=false
  len:st.now.length=F+k
  pend:st.pend.length≤7*i
  at_:A=1+(layB (recs rs)).length
  none:k=0→rs=[]
  holds:1≤k→Holds st F k rs
  sizes:∀s∈rs,1≤s.size∧s.size≤400
  few:rs.length≤i
  room:1≤k→A≤k
def WrX (B b F k i:Nat)(rs:List ByteArray)(A:Nat)(W:World):Prop:=∃st,WrRel B b F k i rs A st W
theorem WrX.below {B b F k i A:Nat}{rs:List ByteArray}{W W':World}(h:WrX B b F k i rs A W)(hb:Below W.heap.size W W'):WrX B b F k i rs A W':=by
  obtain⟨st,h⟩:=h;exact⟨st,h.dev.below hb,h.good,h.lim,h.len,h.pend,h.at_,h.none,h.holds,h.sizes,h.few,h.room⟩
theorem WrX.next {B b F k i A:Nat}{rs:List ByteArray}{W:World}(h:WrX B b F k i rs A W):WrX B b F k (i+1) rs A W:=by
  obtain⟨st,h⟩:=h;exact⟨st,h.dev,h.good,h.lim,h.len,by have:=h.pend;omega,h.at_,h.none,h.holds,h.sizes,by have:=h.few;omega,h.room⟩
theorem WrX.base {B B' b F k i A:Nat}{rs:List ByteArray}{W:World}(h:WrX B b F k i rs A W)(hB:B'≤B):WrX B' b F k i rs A W:=by
  obtain⟨st,h⟩:=h;exact⟨st,h.dev.base hB,h.good,h.lim,h.len,h.pend,h.at_,h.none,h.holds,h.sizes,h.few,h.room⟩
end Go.Proofs.YtdmkhmeaphaapaaGreat.V
namespace Go.Proofs.YtdmkhmeaphaapaaGreat.V
open Go.RowKit Go.Sort
set_option linter.unusedVariables false
theorem bytesL_zeros (k:Nat):bytesL (List.replicate k zero64)=List.replicate k zeroF:=by
  unfold bytesL;rw[List.map_replicate,show zero64.data.toList=zeroF by decide +kernel]
def layL (rs:List ByteArray):List ByteArray:=(layB (recs rs)).map fun f=>(⟨f.toArray⟩:ByteArray)
structure LoRel (B b:Nat)(r1 r2:List ByteArray)(A:Nat)(st:St)(W:World):Prop where
  dev:Dev B W b st
  good:Good st
  lim:st.lim=false
  len:st.now.length=80
  at_:A=1+(layB (recs (r1++r2))).length
  room:A≤80
  holds:Holds st 0 80 (r1++r2)
  safe:∃h q,bytesL st.safe=h::(layB (recs r1)++List.replicate q zeroF)
  pend:st.pend=(List.range' (1+(layB (recs r1)).length) (layL r2).length).zip (layL r2)
  sizes:∀s∈r1++r2,1≤s.size∧s.size≤60000
def LoX (B b:Nat)(r1 r2:List ByteArray)(A:Nat)(W:World):Prop:=∃st,LoRel B b r1 r2 A st W
theorem LoX.off {B b A:Nat}{r1 r2:List ByteArray}{W W':World}{ex:List TypeId}(h:LoX B b r1 r2 A W)(ho:Off ex W W')(h1:77∉ex)(h2:165∉ex)(h3:167∉ex):LoX B b r1 r2 A W':=by
  obtain⟨st,h⟩:=h;exact⟨st,h.dev.off ho h1 h2 h3,h.good,h.lim,h.len,h.at_,h.room,h.holds,h.safe,h.pend,h.sizes⟩
theorem LoX.below {B b A:Nat}{r1 r2:List ByteArray}{W W':World}(h:LoX B b r1 r2 A W)(hb:Below W.heap.size W W'):LoX B b r1 r2 A W':=h.off (Off.ofBelow hb []) (by simp) (by simp) (by simp)
theorem LoX.base {B B' b A:Nat}{r1 r2:List ByteArray}{W:World}(h:LoX B b r1 r2 A W)(hB:B'≤B):LoX B' b r1 r2 A W:=by
  obtain⟨st,h⟩:=h;exact⟨st,h.dev.base hB,h.good,h.lim,h.len,h.at_,h.room,h.holds,h.safe,h.pend,h.sizes⟩
theorem LoX.nums {B b A:Nat}{r1 r2:List ByteArray}{W:World}(h:LoX B b r1 r2 A W):1≤A∧A≤80∧(r1++r2).length≤80:=by
  obtain⟨st,h⟩:=h;have h1:=h.at_;have h2:=h.room;refine⟨by omega,h2,?_⟩;have h3:∀rs:List ByteArray,(∀s∈rs,1≤s.size∧s.size≤60000)→rs.length≤(layB (recs rs)).length:=fun rs=>by
    induction rs with
    | nil=>intro _;exact Nat.le_refl _
    | cons s rs ih =>
      intro hs;have hh:=hs s (by simp);show rs.length+1≤(cutB s.data.toList++layB (recs rs)).length
      have hi:=ih (fun t ht=>hs t (by simp[ht]));have hc:(cutB s.data.toList).length=(s.size+61)/62:=by rw[cutB_length,Array.length_toList];rfl
      rw[List.length_append,hc];omega
  have:=h3 _ h.sizes;omega
def LoPost (B b:Nat)(r1 r2:List ByteArray)(W:World):Prop:=∃st h a m,Dev B W b st∧Good st∧st.lim=false∧st.now.length=80∧bytesL (bankL st 0 80)=h::(layB (recs r1)++(a++List.replicate m zeroF))∧LostF (layB (recs r2)) a∧(∀s∈r1++r2,1≤s.size∧s.size≤60000)
theorem LoPost.below {B b:Nat}{r1 r2:List ByteArray}{W W':World}(h:LoPost B b r1 r2 W)(hb:Below W.heap.size W W'):LoPost B b r1 r2 W':=by
  obtain⟨st,h0,a,m,hd,r⟩:=h;exact⟨st,h0,a,m,hd.below hb,r⟩
end Go.Proofs.YtdmkhmeaphaapaaGreat.V
