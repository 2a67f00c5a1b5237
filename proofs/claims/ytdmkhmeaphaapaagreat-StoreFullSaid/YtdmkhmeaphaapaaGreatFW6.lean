/- Kit. -/
import Derived.Test.YtdmkhmeaphaapaaGreatFW5
import Derived.Test.YtdmkhmeaphaapaaGreatFW4
import Derived.Laws.Bits64b
set_option maxRecDepth 100000
namespace Go.Proofs.YtdmkhmeaphaapaaGreat.V
open Go.RowKit Go.Sort
set_option linter.unusedVariables false
def wipe1 (st:St)(i:Nat):St:=if st.now.getD i ⟨#[]⟩=zero64 then st else putSt st i zero64
end Go.Proofs.YtdmkhmeaphaapaaGreat.V
namespace Go.Proofs.YtdmkhmeaphaapaaGreat.V
open Go.RowKit Go.Sort
set_option linter.unusedVariables false
def wipesSt (st:St)(i:Nat):Nat→St
  | 0=>st
  | k+1=>wipe1 (wipesSt st i k) (i+k)
theorem wipe1_good {st:St}{i:Nat}(hg:Good st)(hl:st.lim=false)(hi:i<st.now.length) :
    Good (wipe1 st i)∧(wipe1 st i).lim=false∧(wipe1 st i).now=st.now.set i zero64∧(wipe1 st i).pend.length≤st.pend.length+1∧(wipe1 st i).safe=st.safe:=by
  unfold wipe1;split
  · rename_i hz;refine⟨hg,hl,?_,by omega,rfl⟩;apply List.ext_getElem?;intro j;by_cases hj:i=j
    · subst hj;rw[List.getElem?_set_self hi,List.getElem?_eq_getElem hi];rw[List.getD_eq_getElem?_getD,List.getElem?_eq_getElem hi]at hz;exact congrArg some hz
    · rw[List.getElem?_set_ne hj]
  · have ha:=ask_ok (free_gone hl) hi;exact⟨good_put hg ha rfl,hl,rfl,by simp[putSt],rfl⟩
theorem wipes_good {st:St}{i:Nat}(hg:Good st)(hl:st.lim=false):∀k,i+k≤st.now.length →
    Good (wipesSt st i k)∧(wipesSt st i k).lim=false∧(wipesSt st i k).now=st.now.take i++List.replicate k zero64++st.now.drop (i+k)∧(wipesSt st i k).pend.length≤st.pend.length+k∧(wipesSt st i k).safe=st.safe
  | 0,_=>⟨hg,hl,by simp[wipesSt],by simp[wipesSt],rfl⟩
  | k+1,hk=>by
    obtain⟨g1,g2,g3,g4,g5⟩:=wipes_good (i:=i) hg hl k (by omega);have hlen:(wipesSt st i k).now.length=st.now.length:=by
      rw[g3];simp;omega
    obtain⟨e1,e2,e3,e4,e5⟩:=wipe1_good g1 g2 (show i+k<(wipesSt st i k).now.length by omega);refine⟨e1,e2,?_,?_,e5.trans g5⟩
    · show(wipe1 (wipesSt st i k) (i+k)).now=_
      rw[e3,g3];have hl1:(st.now.take i).length=i:=by rw[List.length_take];omega
      rw[List.append_assoc,List.set_append,if_neg (by omega),hl1,show i+k-i=k by omega,List.set_append,if_neg (by simp),List.length_replicate,Nat.sub_self];have hgp:i+k<st.now.length:=by omega
      rw[List.drop_eq_getElem_cons hgp,List.set_cons_zero,List.replicate_succ'];simp[Nat.add_assoc]
    · show(wipe1 (wipesSt st i k) (i+k)).pend.length≤_
      omega
set_option maxHeartbeats 2000000 in
theorem wipe_no (B b:Nat)(st:St)(fr sz at_ q:Int)(w:World)(h:Dev B w b st)(hg:Good st)(ho:openI st fr sz=q)(hne:q≠0) :
    Calls Tryz.prog 94 #[.pointer (some ⟨b,0,none⟩),.int .i64 fr,.int .i64 sz,.int .i64 at_] w fun e w'=>e=.returned (.int .i64 q)∧Below w.heap.size w w':=by
  have cO:=open_no B b st fr sz q w h hg ho hne;have hne2:(q==0)=false:=by simpa using hne
  clear h hg ho hne;go_enter Tryz.func94,Tryz.ntmps94;go_wp2_with fail;refine cO.mono ?_;rintro e w1 ⟨rfl,hb1⟩;have HB1:Hid (Below w.heap.size w (w1.alloc (.cells #[.pointer none,.int .i64 0,.int .i64 0] 218))):=Lib.hid (hb1.alloc hb1.size _);clear hb1 cO;go_wp2;go_ret;exact⟨rfl,HB1.out⟩
end Go.Proofs.YtdmkhmeaphaapaaGreat.V
namespace Go.Proofs.YtdmkhmeaphaapaaGreat.V
open Go.RowKit Go.Sort
set_option linter.unusedVariables false
def headP (N:Nat):Nat→List UInt8
  | 0=>List.replicate 64 0
  | i+1=>((headP N i).set i (UInt8.ofNat (N/256^(7-i)%256))).set (8+i) (UInt8.ofNat (255-N/256^(7-i)%256))
theorem headP_length (N:Nat):∀k,(headP N k).length=64
  | 0=>by simp[headP]
  | k+1=>by rw[headP,List.length_set,List.length_set,headP_length N k]
def hpS (c d:Nat→UInt8):Nat→List UInt8
  | 0=>List.replicate 64 0
  | i+1=>((hpS c d i).set i (c (7-i))).set (8+i) (d (7-i))
def hkS (c d:Nat→UInt8):Nat→List UInt8
  | 0=>List.replicate 64 0
  | k+1=>((hkS c d k).set (7-k) (c k)).set (8+(7-k)) (d k)
theorem hpS_hkS (c d:Nat→UInt8):hpS c d 8=hkS c d 8:=by kernel_rfl
theorem headP_S (N:Nat):∀i,headP N i=hpS (fun k=>UInt8.ofNat (N/256^k%256)) (fun k=>UInt8.ofNat (255-N/256^k%256)) i
  | 0=>rfl
  | i+1=>by rw[headP,hpS,headP_S N i]
theorem headK_S (N:Nat):∀i,headK N i=hkS (fun k=>UInt8.ofNat (N/256^k%256)) (fun k=>UInt8.ofNat (255-N/256^k%256)) i
  | 0=>rfl
  | i+1=>by rw[headK,hkS,headK_S N i]
theorem headP_K (N:Nat):headP N 8=headK N 8:=by rw[headP_S,headK_S,hpS_hkS]
theorem set_arr {W:World}{g o c:Nat}{T:TypeId}{l:List UInt8}(ho:o<l.length)(hc:c<256)(h:W.heap[g]?=some (.cells (bcells l).toArray T (0,0))):(W.setCell ⟨g,o,none⟩ (.int .u8 (c:Int))).heap[g]?=some (.cells (bcells (l.set o (UInt8.ofNat c))).toArray T (0,0)):=by
  have hlen:(bcells l).length=l.length:=by unfold bcells;rw[List.length_map]
  have h1:=heap_setCells_at g T [.int .u8 (c:Int)] o W _ h (by rw[hlen];show o+1≤_;omega);refine h1.trans ?_;congr 3;unfold bcells;rw[List.map_set,UInt8.toNat_ofNat',Nat.mod_eq_of_lt (by omega),List.set_eq_take_append_cons_drop,if_pos (by simpa using ho)];simp
theorem cell_arr {W:World}{g o:Nat}{T:TypeId}{l:List UInt8}(ho:o<l.length)(h:W.heap[g]?=some (.cells (bcells l).toArray T (0,0))):∃v,W.cell? ⟨g,o,none⟩=some (.int .u8 v):=by
  rw[cell_of_row _ _ _ _ _ _ h];exact⟨((l[o]'ho).toNat:Int),by unfold bcells;simp[ho]⟩
theorem pow_256 (k:Nat):(2:Nat)^(8*k)=256^k:=by rw[Nat.pow_mul]
set_option maxHeartbeats 4000000 in
theorem head_c (N:Nat)(w:World)(hN:N<18446744073709551616):Calls Tryz.prog 160 #[.int .u64 N] w fun e w'=>e=.returned (.string (headB N))∧Below w.heap.size w w':=by
  by_cases h0:N=0
  · subst h0;have cN:=noughts_c w;rw[show headB 0=zero64 from zero64_eq];generalize zero64=Z at *;go_enter Tryz.func160,Tryz.ntmps160;go_wp2_with fail;refine cN.mono ?_;rintro e w1 ⟨rfl,hb1⟩;have HB1:=Lib.hid hb1;clear hb1 cN;go_wp2;go_ret;exact⟨rfl,HB1.out⟩
  · have hnz:((N:Int)==0)=false:=by rw[beq_eq_false_iff_ne];omega
    go_enter Tryz.func160,Tryz.ntmps160;go_wp2;have HC0:Hid ((w.alloc (.cells (bcells (List.replicate 64 0)).toArray 164)).heap[w.heap.size]?=some (.cells (bcells (headP N 0)).toArray 164 (0,0))):=Lib.hid (heap_alloc_new _ _);go_loopw [8] (fun iv wr=>∃i:Nat,i≤8∧iv=.int .i64 (i:Int)∧wr.heap[w.heap.size]?=some (.cells (bcells (headP N i)).toArray 164 (0,0))∧Below w.heap.size w wr) (fun iv _=>8-(intOf iv).toNat)
    case atStart=>exact⟨0,by omega,rfl,HC0.out,(Below.refl _ _).alloc (Nat.le_refl _) _⟩
    case round =>
      obtain⟨i,hi,rfl,hrow,hb⟩:=hrel;have HR:=Lib.hid hrow;have HB:=Lib.hid hb;clear hrow hb;by_cases hi8:i<8
      · have hi8z:(i:Int)<8:=by omega
        obtain⟨C,hC⟩:∃C,N/256^(7-i)%256=C:=⟨_,rfl⟩;have hC1:(N:Int)/2^(8*(7-i))%256=(C:Int):=by
          rw[←hC,←pow_256]
          norm_cast
        have hCl:C<256:=by rw[←hC];exact Nat.mod_lt _ (by decide)
        obtain⟨D,hD⟩:∃D:Nat,255-C=D:=⟨_,rfl⟩;have hD1:(255:Int)-(C:Int)=(D:Int):=by omega
        have hDl:D<256:=by omega
        have hDw:IntKind.u8.wrap ((255:Int)-(C:Int))=(D:Int):=by rw[IntKind.wrap_u8];omega
        have HC:=Lib.hid hC;have HD:=Lib.hid hD;clear hC hD;have h8i:IntKind.i64.wrap ((8:Int)+(i:Int))=8+(i:Int):=by rw[IntKind.wrap_i64];omega
        have h8l:(8:Int)+(i:Int)<64:=by omega
        have hi64:(i:Int)<64:=by omega
        obtain⟨v0,c0⟩:=cell_arr (o:=i) (by rw[headP_length];omega) HR.out;have f0:wr.frozen? ⟨w.heap.size,i,none⟩=false:=frozen_of_row wr _ i _ _ HR.out;have HR1:Hid ((wr.setCell ⟨w.heap.size,i,none⟩ (.int .u8 (C:Int))).heap[w.heap.size]?=some (.cells (bcells ((headP N i).set i (UInt8.ofNat C))).toArray 164 (0,0))):=Lib.hid (set_arr (by rw[headP_length];omega) hCl HR.out);obtain⟨v1,c1⟩:=cell_arr (o:=8+i) (by rw[List.length_set,headP_length];omega) HR1.out;have f1:(wr.setCell ⟨w.heap.size,i,none⟩ (.int .u8 (C:Int))).frozen? ⟨w.heap.size,8+i,none⟩=false:=frozen_of_row _ _ _ _ _ HR1.out;have HR2:Hid (((wr.setCell ⟨w.heap.size,i,none⟩ (.int .u8 (C:Int))).setCell ⟨w.heap.size,8+i,none⟩ (.int .u8 (D:Int))).heap[w.heap.size]?=some (.cells (bcells (headP N (i+1))).toArray 164 (0,0))):=Lib.hid (by
          have h1:=set_arr (o:=8+i) (c:=D) (by rw[List.length_set,headP_length];omega) hDl HR1.out;rw[h1,headP,HC.out,HD.out])
        have HB2:Hid (Below w.heap.size w ((wr.setCell ⟨w.heap.size,i,none⟩ (.int .u8 (C:Int))).setCell ⟨w.heap.size,8+i,none⟩ (.int .u8 (D:Int)))):=Lib.hid ((HB.out.setCell (p:=⟨w.heap.size,i,none⟩) (Nat.le_refl _) _).setCell (p:=⟨w.heap.size,8+i,none⟩) (Nat.le_refl _) _);go_wp2;go_roundw
        case rel=>exact⟨i+1,by omega,by first|rfl|go_num,HR2.out,HB2.out⟩
        case measure=>simp[intOf];omega
      · have hi8z:¬((i:Int)<8):=by omega
        have hie:i=8:=by omega
        subst hie;have hcv:=conv_arr (headP_length N 8) HR.out;have HHB:Hid ((⟨(headP N 8).toArray⟩:ByteArray)=headB N):=Lib.hid (by rw[headP_K];unfold headB;rw[if_neg h0]);go_wp2;go_ret;exact⟨by rw[←HHB.out];rfl,HB.out⟩
end Go.Proofs.YtdmkhmeaphaapaaGreat.V
namespace Go.Proofs.YtdmkhmeaphaapaaGreat.V
open Go.RowKit Go.Sort
set_option linter.unusedVariables false
def numP (l:List UInt8):Nat→Nat
  | 0=>0
  | i+1=>numP l i*256+(l.getD i 0).toNat
theorem numP_lt (l:List UInt8):∀i,numP l i<256^i
  | 0=>by simp[numP]
  | i+1=>by
    have h1:=numP_lt l i;have h2:=UInt8.toNat_lt (l.getD i 0);rw[numP,Nat.pow_succ];omega
def epochI (s:ByteArray):Nat:=if s=headB (numP s.data.toList 8) then numP s.data.toList 8 else 0
set_option maxHeartbeats 4000000 in
theorem epochOf_c (s:ByteArray)(w:World)(hs:s.size=64):Calls Tryz.prog 128 #[.string s] w fun e w'=>e=.returned (.int .u64 (epochI s))∧Below w.heap.size w w':=by
  obtain⟨R,hR⟩:∃R,epochI s=R:=⟨_,rfl⟩;rw[hR];have HR:=Lib.hid hR;clear hR;have HS:=Lib.hid hs;go_enter Tryz.func128,Tryz.ntmps128;go_wp2;go_loopw [5,3] (fun iv ev wr=>∃i:Nat,i≤8∧iv=.int .i64 (i:Int)∧ev=.int .u64 (numP s.data.toList i:Nat)∧Below w.heap.size w wr) (fun iv _ _=>8-(intOf iv).toNat)
  case atStart=>exact⟨0,by omega,rfl,rfl,Below.refl _ _⟩
  case round =>
    obtain⟨i,hi,rfl,rfl,hb⟩:=hrel;have HB:=Lib.hid hb;clear hb;by_cases hi8:i<8
    · have hi8z:(i:Int)<8:=by omega
      have his:(i:Int)<(s.size:Int):=by omega
      have HST:Hid (bits BinOp.or IntKind.u64 (IntKind.u64.wrap (((numP s.data.toList i:Nat):Int)*256)) (IntKind.u64.wrap ((s[i]'(by omega)).toNat:Int))=((numP s.data.toList (i+1):Nat):Int)):=Lib.hid (by
        have h1:=numP_lt s.data.toList i;have h2:256^i≤256^7:=Nat.pow_le_pow_right (by decide) (by omega);have h3:(256:Nat)^7=72057594037927936:=by decide
        have hb1:=UInt8.toNat_lt (s[i]'(by omega));have hxi:s.data.toList.getD i 0=s[i]'(by omega):=by
          rw[List.getD_eq_getElem?_getD,List.getElem?_eq_getElem (by rw[Array.length_toList];show i<s.size;omega)];rfl
        rw[numP,hxi];generalize (s[i]'(by omega)).toNat=C at *;generalize numP s.data.toList i=E at *;have e1:IntKind.u64.wrap ((E:Int)*256)=((E*256:Nat):Int):=by rw[IntKind.wrap_u64];omega
        have e2:IntKind.u64.wrap (C:Int)=(C:Int):=by rw[IntKind.wrap_u64];omega
        rw[e1,e2,bits_or_u64_nat _ _ (by omega) (by omega),or_shift _ _ hb1])
      go_wp2;go_roundw
      case rel=>exact⟨i+1,by omega,by first|rfl|go_num,by rw[HST.out],HB.out⟩
      case measure=>simp[intOf];omega
    · have hi8z:¬((i:Int)<8):=by omega
      have hie:i=8:=by omega
      subst hie;obtain⟨E,hE⟩:∃E,numP s.data.toList 8=E:=⟨_,rfl⟩;have hEl:E<18446744073709551616:=by
        have:=numP_lt s.data.toList 8;rw[hE]at this;exact this
      have cH:=fun W=>head_c E W hEl
      have HE:=Lib.hid hE;rw[hE];clear hE hi;by_cases hc:s=headB E
      · have HRE:Hid (E=R):=Lib.hid (by rw[←HR.out];unfold epochI;rw[HE.out,if_pos hc]);have HX:=Lib.hid hc;rw[←hc]at cH;clear hc;go_wp2_with fail;refine(cH _).mono ?_;rintro e w1 ⟨rfl,hb1⟩;have HB1:Hid (Below w.heap.size w w1):=Lib.hid (HB.out.trans (hb1.mono HB.out.size));clear hb1;go_wp2;go_ret;exact⟨by rw[←HRE.out];rfl,HB1.out⟩
      · have HRE:Hid (R=0):=Lib.hid (by rw[←HR.out];unfold epochI;rw[HE.out,if_neg hc]);have hne:=toList_ne hc;generalize headB E=Z at *;clear hc;go_wp2_with fail;refine(cH _).mono ?_;rintro e w1 ⟨rfl,hb1⟩;have HB1:Hid (Below w.heap.size w w1):=Lib.hid (HB.out.trans (hb1.mono HB.out.size));clear hb1;go_wp2;go_ret;exact⟨by rw[HRE.out];rfl,HB1.out⟩
theorem headB_size (N:Nat):(headB N).size=64:=by
  unfold headB;show Array.size _=64
  rw[List.size_toArray];split
  · simp
  · exact headK_length N 8
end Go.Proofs.YtdmkhmeaphaapaaGreat.V
namespace Go.Proofs.YtdmkhmeaphaapaaGreat.V
open Go.RowKit Go.Sort
set_option linter.unusedVariables false
theorem openI_ok {st:St}{F S:Nat}(hgo:goneB st=false)(h1:1≤S)(h:F+S≤st.now.length):openI st F S=0:=by
  unfold openI;rw[if_pos (ask_ok hgo (by omega)),if_neg (by omega)]
end Go.Proofs.YtdmkhmeaphaapaaGreat.V
namespace Go.Proofs.YtdmkhmeaphaapaaGreat.V
open Go.RowKit Go.Sort
set_option linter.unusedVariables false
def BytesAt (W:World)(g:Nat)(l:List UInt8):Prop:=(∃C fr,W.heap[g]?=some (.cells C 5 fr))∧∀j (hj:j<l.length),W.cell? ⟨g,j,none⟩=some (.int .u8 (l[j].toNat:Int))∧W.frozen? ⟨g,j,none⟩=false
theorem BytesAt.lt {W:World}{g:Nat}{l:List UInt8}(h:BytesAt W g l):g<W.heap.size:=by
  obtain⟨⟨C,fr,hb⟩,_⟩:=h;exact lt_of_get hb
theorem BytesAt.same {W W':World}{g:Nat}{l:List UInt8}(h:BytesAt W g l)(he:W'.heap[g]?=W.heap[g]?):BytesAt W' g l:=by
  obtain⟨hb,hc⟩:=h;refine⟨by rw[he];exact hb,fun j hj=>?_⟩;have h1:W'.cell? ⟨g,j,none⟩=W.cell? ⟨g,j,none⟩:=by simp[World.cell?,he]
  have h2:W'.frozen? ⟨g,j,none⟩=W.frozen? ⟨g,j,none⟩:=by simp[World.frozen?,he]
  rw[h1,h2];exact hc j hj
theorem BytesAt.kept {W W':World}{g:Nat}{l:List UInt8}(h:BytesAt W g l)(hb:Below W.heap.size W W'):BytesAt W' g l:=h.same (hb.block g h.lt)
theorem BytesAt.drew {W:World}{g:Nat}{l:List UInt8}(h:BytesAt W g l):BytesAt W.drew g l:=h
theorem BytesAt.conv {W:World}{g cap n:Nat}{l:List UInt8}(h:BytesAt W g l)(hn:l.length=n):(convert 121 9 (.slice (some ⟨g,0,none⟩) n cap)).run Tryz.prog W=.ok (.string ⟨l.toArray⟩) W:=by
  have h9:=run_convert_bytes_back (P:=Tryz.prog) W 121 9 5 ⟨g,0,none⟩ cap l Tryz.underlying121 Tryz.underlying5 Tryz.underlying9 (fun j hj=>by
    rw[Addr.add_mid,Nat.zero_add];exact(h.2 j hj).1)
  rw[hn]at h9;exact h9
theorem hS0 (c d:Nat→UInt8):(hpS c d 8).getD 0 0=c (7-0):=by kernel_rfl
theorem hS1 (c d:Nat→UInt8):(hpS c d 8).getD 1 0=c (7-1):=by kernel_rfl
theorem hS2 (c d:Nat→UInt8):(hpS c d 8).getD 2 0=c (7-2):=by kernel_rfl
theorem hS3 (c d:Nat→UInt8):(hpS c d 8).getD 3 0=c (7-3):=by kernel_rfl
theorem hS4 (c d:Nat→UInt8):(hpS c d 8).getD 4 0=c (7-4):=by kernel_rfl
theorem hS5 (c d:Nat→UInt8):(hpS c d 8).getD 5 0=c (7-5):=by kernel_rfl
theorem hS6 (c d:Nat→UInt8):(hpS c d 8).getD 6 0=c (7-6):=by kernel_rfl
theorem hS7 (c d:Nat→UInt8):(hpS c d 8).getD 7 0=c (7-7):=by kernel_rfl
theorem headS_eight (c d:Nat→UInt8):∀i,i<8→(hpS c d 8).getD i 0=c (7-i):=by
  intro i hi
  match i,hi with
  | 0,_=>exact hS0 c d
  | 1,_=>exact hS1 c d
  | 2,_=>exact hS2 c d
  | 3,_=>exact hS3 c d
  | 4,_=>exact hS4 c d
  | 5,_=>exact hS5 c d
  | 6,_=>exact hS6 c d
  | 7,_=>exact hS7 c d
theorem numP_head (N:Nat)(h:N<18446744073709551616):∀i,i≤8→numP (headP N 8) i=N/256^(8-i)
  | 0,_=>by
    show 0=N/256^8
    rw[Nat.div_eq_of_lt (by simpa using h)]
  | i+1,hi=>by
    rw[numP,numP_head N h i (by omega),headP_S,headS_eight _ _ i (by omega)];have h1:N/256^(8-i)=N/256^(7-i)/256:=by
      rw[show 8-i=(7-i)+1 by omega,Nat.pow_succ,Nat.div_div_eq_div_mul]
    rw[h1,show 8-(i+1)=7-i by omega];generalize N/256^(7-i)=M;rw[UInt8.toNat_ofNat'];omega
theorem epoch_head (N:Nat)(h:N<18446744073709551616):epochI (headB N)=N:=by
  by_cases h0:N=0
  · subst h0;decide +kernel
  · have h1:(headB N).data.toList=headP N 8:=by
      rw[headP_K];unfold headB;rw[if_neg h0]
    have h2:numP (headB N).data.toList 8=N:=by
      rw[h1,numP_head N h 8 (by omega)];simp
    unfold epochI;rw[h2,if_pos rfl]
end Go.Proofs.YtdmkhmeaphaapaaGreat.V
