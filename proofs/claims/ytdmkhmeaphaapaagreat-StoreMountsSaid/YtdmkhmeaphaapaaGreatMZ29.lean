/- Kit. -/
import Derived.Test.YtdmkhmeaphaapaaGreatMZ28
import Derived.Test.YtdmkhmeaphaapaaGreatMZ27
import Derived.Laws.Bits64b
import Derived.Test.YtdmkhmeaphaapaaGreatMZ0
set_option maxRecDepth 100000
set_option linter.unusedVariables false
set_option linter.unusedSimpArgs false
namespace Go.Proofs.YtdmkhmeaphaapaaGreat.V
open Go.RowKit Go.Sort
def Gm (st:St)(i:Nat):St:=if st.now.getD i ⟨#[]⟩=BD then st else BU st i BD
def AP (st:St)(i:Nat):Nat→St
 | 0=>st
 | k+1=>Gm (AP st i k) (i+k)
theorem Zn {st:St}{i:Nat}(hg:Good st)(hl:st.lim=false)(hi:i<st.now.length) :
 Good (Gm st i)∧(Gm st i).lim=false∧(Gm st i).now=st.now.set i BD∧(Gm st i).pend.length≤st.pend.length+1∧(Gm st i).safe=st.safe:=by
 unfold Gm;split
 · rename_i hz;refine⟨hg,hl,?_,by omega,rfl⟩;apply List.ext_getElem?;intro j;by_cases hj:i=j
   · subst hj;rw[List.getElem?_set_self hi,Ci hi];rw[FK,Ci hi]at hz;exact Gu some hz
   · rw[Ji hj]
 · have ha:=EU (Cb hl) hi;exact⟨Ip hg ha rfl,hl,rfl,by simp[BU],rfl⟩
theorem Nw {st:St}{i:Nat}(hg:Good st)(hl:st.lim=false):∀k,i+k≤st.now.length →
 Good (AP st i k)∧(AP st i k).lim=false∧(AP st i k).now=st.now.take i++List.replicate k BD++st.now.drop (i+k)∧(AP st i k).pend.length≤st.pend.length+k∧(AP st i k).safe=st.safe
 | 0,_=>⟨hg,hl,by simp[AP],by simp[AP],rfl⟩
 | k+1,hk=>by
  obtain⟨g1,g2,g3,g4,g5⟩:=Nw (i:=i) hg hl k (by omega);have hlen:(AP st i k).now.length=st.now.length:=by
   rw[g3];simp;omega
  obtain⟨e1,e2,e3,e4,e5⟩:=Zn g1 g2 (show i+k<(AP st i k).now.length by omega);refine⟨e1,e2,?_,?_,e5.trans g5⟩
  · show(Gm (AP st i k) (i+k)).now=_
    rw[e3,g3];have hl1:(st.now.take i).length=i:=by rw[BV];omega
    rw[Cc,List.set_append,if_neg (by omega),hl1,show i+k-i=k by omega,List.set_append,if_neg (by simp),JL,Nat.sub_self];have hgp:i+k<st.now.length:=by omega
    rw[List.drop_eq_getElem_cons hgp,kI,List.replicate_succ'];simp[Nat.add_assoc]
  · show(Gm (AP st i k) (i+k)).pend.length≤_
    omega
set_option maxHeartbeats 2000000 in
theorem sI (B b:Nat)(st:St)(fr sz at_ q:Int)(w:World)(h:Dev B w b st)(hg:Good st)(ho:Dt st fr sz=q)(hne:q≠0) :
 Calls Tryz.prog 94 #[.pointer (some ⟨b,0,none⟩),.int .i64 fr,.int .i64 sz,.int .i64 at_] w fun e w'=>e=.returned (.int .i64 q)∧Below w.heap.size w w':=by
 have cO:=dD B b st fr sz q w h hg ho hne;have hne2:(q==0)=false:=by simpa using hne
 clear h hg ho hne;go_enter Tryz.func94,Tryz.ntmps94;go_wp2_with fail;refine cO.mono ?_;rintro e w1 ⟨rfl,hb1⟩;have HB1:Hid (Below w.heap.size w (w1.alloc (.cells #[.pointer none,.int .i64 0,.int .i64 0] 218))):=Aa (hb1.alloc hb1.size _);clear hb1 cO;go_wp2;go_ret;exact⟨rfl,HB1.out⟩
def Jw (N:Nat):Nat→List UInt8
 | 0=>List.replicate 64 0
 | i+1=>((Jw N i).set i (UInt8.ofNat (N/256^(7-i)%256))).set (8+i) (UInt8.ofNat (255-N/256^(7-i)%256))
theorem F9 (N:Nat):∀k,(Jw N k).length=64
 | 0=>by simp[Jw]
 | k+1=>by rw[Jw,List.length_set,List.length_set,F9 N k]
def dY (c d:Nat→UInt8):Nat→List UInt8
 | 0=>List.replicate 64 0
 | i+1=>((dY c d i).set i (c (7-i))).set (8+i) (d (7-i))
def rR (c d:Nat→UInt8):Nat→List UInt8
 | 0=>List.replicate 64 0
 | k+1=>((rR c d k).set (7-k) (c k)).set (8+(7-k)) (d k)
theorem uT (c d:Nat→UInt8):dY c d 8=rR c d 8:=by kernel_rfl
theorem WO (N:Nat):∀i,Jw N i=dY (fun k=>UInt8.ofNat (N/256^k%256)) (fun k=>UInt8.ofNat (255-N/256^k%256)) i
 | 0=>rfl
 | i+1=>by rw[Jw,dY,WO N i]
theorem eB (N:Nat):∀i,QD N i=rR (fun k=>UInt8.ofNat (N/256^k%256)) (fun k=>UInt8.ofNat (255-N/256^k%256)) i
 | 0=>rfl
 | i+1=>by rw[QD,rR,eB N i]
theorem eu (N:Nat):Jw N 8=QD N 8:=by rw[WO,eB,uT]
theorem df {W:World}{g o c:Nat}{T:TypeId}{l:List UInt8}(ho:o<l.length)(hc:c<256)(h:W.heap[g]?=some (.cells (CZ l).toArray T (0,0))):(W.setCell ⟨g,o,none⟩ (.int .u8 (c:Int))).heap[g]?=some (.cells (CZ (l.set o (UInt8.ofNat c))).toArray T (0,0)):=by
 have hlen:(CZ l).length=l.length:=by unfold CZ;rw[Em]
 have h1:=Ch g T [.int .u8 (c:Int)] o W _ h (by rw[hlen];show o+1≤_;omega);refine h1.trans ?_;congr 3;unfold CZ;rw[List.map_set,UInt8.toNat_ofNat',Nat.mod_eq_of_lt (by omega),List.set_eq_take_append_cons_drop,if_pos (by simpa using ho)];simp
theorem YY {W:World}{g o:Nat}{T:TypeId}{l:List UInt8}(ho:o<l.length)(h:W.heap[g]?=some (.cells (CZ l).toArray T (0,0))):∃v,W.cell? ⟨g,o,none⟩=some (.int .u8 v):=by
 rw[AB _ _ _ _ _ _ h];exact⟨((l[o]'ho).toNat:Int),by unfold CZ;simp[ho]⟩
theorem tZ (k:Nat):(2:Nat)^(8*k)=256^k:=by rw[Nat.pow_mul]
set_option maxHeartbeats 4000000 in
theorem ai (N:Nat)(w:World)(hN:N<18446744073709551616):Calls Tryz.prog 160 #[.int .u64 N] w fun e w'=>e=.returned (.string (C8 N))∧Below w.heap.size w w':=by
 by_cases h0:N=0
 · subst h0;have cN:=U7 w;rw[show C8 0=BD from UA];generalize BD=Z at *;go_enter Tryz.func160,Tryz.ntmps160;go_wp2_with fail;refine cN.mono ?_;rintro e w1 ⟨rfl,hb1⟩;have HB1:=Aa hb1;clear hb1 cN;go_wp2;go_ret;exact⟨rfl,HB1.out⟩
 · have hnz:((N:Int)==0)=false:=by rw[A8];omega
   go_enter Tryz.func160,Tryz.ntmps160;go_wp2;have M6:Hid ((w.alloc (.cells (CZ (List.replicate 64 0)).toArray 164)).heap[w.heap.size]?=some (.cells (CZ (Jw N 0)).toArray 164 (0,0))):=Aa (Ai _ _);go_loopw [8] (fun iv wr=>∃i:Nat,i≤8∧iv=.int .i64 (i:Int)∧wr.heap[w.heap.size]?=some (.cells (CZ (Jw N i)).toArray 164 (0,0))∧Below w.heap.size w wr) (fun iv _=>8-(intOf iv).toNat)
   case atStart=>exact⟨0,by omega,rfl,M6.out,(Ad _ _).alloc (Ae _) _⟩
   case round =>
    obtain⟨i,hi,rfl,hrow,hb⟩:=hrel;have HR:=Aa hrow;have HB:=Aa hb;clear hrow hb;by_cases WN:i<8
    · have yQ:(i:Int)<8:=by omega
      obtain⟨C,hC⟩:∃C,N/256^(7-i)%256=C:=⟨_,rfl⟩;have hC1:(N:Int)/2^(8*(7-i))%256=(C:Int):=by
       rw[←hC,←tZ]
       norm_cast
      have hCl:C<256:=by rw[←hC];exact Nat.mod_lt _ (by decide)
      obtain⟨D,hD⟩:∃D:Nat,255-C=D:=⟨_,rfl⟩;have hD1:(255:Int)-(C:Int)=(D:Int):=by omega
      have hDl:D<256:=by omega
      have hDw:IntKind.u8.wrap ((255:Int)-(C:Int))=(D:Int):=by rw[IntKind.wrap_u8];omega
      have HC:=Aa hC;have HD:=Aa hD;clear hC hD;have h8i:IntKind.i64.wrap ((8:Int)+(i:Int))=8+(i:Int):=by rw[El];omega
      have h8l:(8:Int)+(i:Int)<64:=by omega
      have AcR:(i:Int)<64:=by omega
      obtain⟨v0,c0⟩:=YY (o:=i) (by rw[F9];omega) HR.out;have f0:wr.frozen? ⟨w.heap.size,i,none⟩=false:=E8 wr _ i _ _ HR.out;have HR1:Hid ((wr.setCell ⟨w.heap.size,i,none⟩ (.int .u8 (C:Int))).heap[w.heap.size]?=some (.cells (CZ ((Jw N i).set i (UInt8.ofNat C))).toArray 164 (0,0))):=Aa (df (by rw[F9];omega) hCl HR.out);obtain⟨v1,c1⟩:=YY (o:=8+i) (by rw[List.length_set,F9];omega) HR1.out;have f1:(wr.setCell ⟨w.heap.size,i,none⟩ (.int .u8 (C:Int))).frozen? ⟨w.heap.size,8+i,none⟩=false:=E8 _ _ _ _ _ HR1.out;have HR2:Hid (((wr.setCell ⟨w.heap.size,i,none⟩ (.int .u8 (C:Int))).setCell ⟨w.heap.size,8+i,none⟩ (.int .u8 (D:Int))).heap[w.heap.size]?=some (.cells (CZ (Jw N (i+1))).toArray 164 (0,0))):=Aa (by
       have h1:=df (o:=8+i) (c:=D) (by rw[List.length_set,F9];omega) hDl HR1.out;rw[h1,Jw,HC.out,HD.out])
      have HB2:Hid (Below w.heap.size w ((wr.setCell ⟨w.heap.size,i,none⟩ (.int .u8 (C:Int))).setCell ⟨w.heap.size,8+i,none⟩ (.int .u8 (D:Int)))):=Aa ((HB.out.setCell (p:=⟨w.heap.size,i,none⟩) (Ae _) _).setCell (p:=⟨w.heap.size,8+i,none⟩) (Ae _) _);go_wp2;go_roundw
      case rel=>exact⟨i+1,by omega,by first|rfl|go_num,HR2.out,HB2.out⟩
      case measure=>simp[intOf];omega
    · have yQ:¬((i:Int)<8):=by omega
      have hie:i=8:=by omega
      subst hie;have hcv:=YV (F9 N 8) HR.out;have HHB:Hid ((⟨(Jw N 8).toArray⟩:ByteArray)=C8 N):=Aa (by rw[eu];unfold C8;rw[if_neg h0]);go_wp2;go_ret;exact⟨by rw[←HHB.out];rfl,HB.out⟩
def NB (l:List UInt8):Nat→Nat
 | 0=>0
 | i+1=>NB l i*256+(l.getD i 0).toNat
theorem Wt (l:List UInt8):∀i,NB l i<256^i
 | 0=>by simp[NB]
 | i+1=>by
  have h1:=Wt l i;have h2:=UInt8.toNat_lt (l.getD i 0);rw[NB,Nat.pow_succ];omega
def AL (s:ByteArray):Nat:=if s=C8 (NB s.data.toList 8) then NB s.data.toList 8 else 0
set_option maxHeartbeats 4000000 in
theorem jf (s:ByteArray)(w:World)(hs:s.size=64):Calls Tryz.prog 128 #[.string s] w fun e w'=>e=.returned (.int .u64 (AL s))∧Below w.heap.size w w':=by
 obtain⟨R,hR⟩:∃R,AL s=R:=⟨_,rfl⟩;rw[hR];have HR:=Aa hR;clear hR;have HS:=Aa hs;go_enter Tryz.func128,Tryz.ntmps128;go_wp2;go_loopw [5,3] (fun iv ev wr=>∃i:Nat,i≤8∧iv=.int .i64 (i:Int)∧ev=.int .u64 (NB s.data.toList i:Nat)∧Below w.heap.size w wr) (fun iv _ _=>8-(intOf iv).toNat)
 case atStart=>exact⟨0,by omega,rfl,rfl,Ad _ _⟩
 case round =>
  obtain⟨i,hi,rfl,rfl,hb⟩:=hrel;have HB:=Aa hb;clear hb;by_cases WN:i<8
  · have yQ:(i:Int)<8:=by omega
    have his:(i:Int)<(s.size:Int):=by omega
    have HST:Hid (bits BinOp.or IntKind.u64 (IntKind.u64.wrap (((NB s.data.toList i:Nat):Int)*256)) (IntKind.u64.wrap ((s[i]'(by omega)).toNat:Int))=((NB s.data.toList (i+1):Nat):Int)):=Aa (by
     have h1:=Wt s.data.toList i;have h2:256^i≤256^7:=Nat.pow_le_pow_right (by decide) (by omega);have h3:(256:Nat)^7=72057594037927936:=by decide
     have hb1:=UInt8.toNat_lt (s[i]'(by omega));have hxi:s.data.toList.getD i 0=s[i]'(by omega):=by
      rw[FK,Ci (by rw[BP];show i<s.size;omega)];rfl
     rw[NB,hxi];generalize (s[i]'(by omega)).toNat=C at *;generalize NB s.data.toList i=E at *;have e1:IntKind.u64.wrap ((E:Int)*256)=((E*256:Nat):Int):=by rw[IntKind.wrap_u64];omega
     have e2:IntKind.u64.wrap (C:Int)=(C:Int):=by rw[IntKind.wrap_u64];omega
     rw[e1,e2,bits_or_u64_nat _ _ (by omega) (by omega),X3 _ _ hb1])
    go_wp2;go_roundw
    case rel=>exact⟨i+1,by omega,by first|rfl|go_num,by rw[HST.out],HB.out⟩
    case measure=>simp[intOf];omega
  · have yQ:¬((i:Int)<8):=by omega
    have hie:i=8:=by omega
    subst hie;obtain⟨E,hE⟩:∃E,NB s.data.toList 8=E:=⟨_,rfl⟩;have hEl:E<18446744073709551616:=by
     have:=Wt s.data.toList 8;rw[hE]at this;exact this
    have cH:=fun W=>ai E W hEl
    have HE:=Aa hE;rw[hE];clear hE hi;by_cases hc:s=C8 E
    · have HRE:Hid (E=R):=Aa (by rw[←HR.out];unfold AL;rw[HE.out,if_pos hc]);have HX:=Aa hc;rw[←hc]at cH;clear hc;go_wp2_with fail;refine(cH _).mono ?_;rintro e w1 ⟨rfl,hb1⟩;have HB1:Hid (Below w.heap.size w w1):=Aa (HB.out.trans (hb1.mono HB.out.size));clear hb1;go_wp2;go_ret;exact⟨by rw[←HRE.out];rfl,HB1.out⟩
    · have HRE:Hid (R=0):=Aa (by rw[←HR.out];unfold AL;rw[HE.out,if_neg hc]);have hne:=MJ hc;generalize C8 E=Z at *;clear hc;go_wp2_with fail;refine(cH _).mono ?_;rintro e w1 ⟨rfl,hb1⟩;have HB1:Hid (Below w.heap.size w w1):=Aa (HB.out.trans (hb1.mono HB.out.size));clear hb1;go_wp2;go_ret;exact⟨by rw[HRE.out];rfl,HB1.out⟩
theorem H9 (N:Nat):(C8 N).size=64:=by
 unfold C8;show Array.size _=64
 rw[FN];split
 · simp
 · exact O1 N 8
theorem GV {st:St}{F S:Nat}(hgo:BJ st=false)(h1:1≤S)(h:F+S≤st.now.length):Dt st F S=0:=by
 unfold Dt;rw[if_pos (EU hgo (by omega)),if_neg (by omega)]
def BytesAt (W:World)(g:Nat)(l:List UInt8):Prop:=(∃C fr,W.heap[g]?=some (.cells C 5 fr))∧∀j (hj:j<l.length),W.cell? ⟨g,j,none⟩=some (.int .u8 (l[j].toNat:Int))∧W.frozen? ⟨g,j,none⟩=false
theorem BytesAt.conv {W:World}{g cap n:Nat}{l:List UInt8}(h:BytesAt W g l)(hn:l.length=n):(convert 121 9 (.slice (some ⟨g,0,none⟩) n cap)).run Tryz.prog W=.ok (.string ⟨l.toArray⟩) W:=by
 have h9:=run_convert_bytes_back (P:=Tryz.prog) W 121 9 5 ⟨g,0,none⟩ cap l Tryz.underlying121 Tryz.underlying5 Tryz.underlying9 (fun j hj=>by
  rw[Addr.add_mid,Gl];exact(h.2 j hj).1)
 rw[hn]at h9;exact h9
theorem hS0 (c d:Nat→UInt8):(dY c d 8).getD 0 0=c (7-0):=by kernel_rfl
theorem hS1 (c d:Nat→UInt8):(dY c d 8).getD 1 0=c (7-1):=by kernel_rfl
theorem hS2 (c d:Nat→UInt8):(dY c d 8).getD 2 0=c (7-2):=by kernel_rfl
theorem oM (c d:Nat→UInt8):(dY c d 8).getD 3 0=c (7-3):=by kernel_rfl
theorem rT (c d:Nat→UInt8):(dY c d 8).getD 4 0=c (7-4):=by kernel_rfl
theorem hS5 (c d:Nat→UInt8):(dY c d 8).getD 5 0=c (7-5):=by kernel_rfl
theorem hS6 (c d:Nat→UInt8):(dY c d 8).getD 6 0=c (7-6):=by kernel_rfl
theorem hS7 (c d:Nat→UInt8):(dY c d 8).getD 7 0=c (7-7):=by kernel_rfl
theorem Yt (c d:Nat→UInt8):∀i,i<8→(dY c d 8).getD i 0=c (7-i):=by
 intro i hi
 match i,hi with
 | 0,_=>exact hS0 c d
 | 1,_=>exact hS1 c d
 | 2,_=>exact hS2 c d
 | 3,_=>exact oM c d
 | 4,_=>exact rT c d
 | 5,_=>exact hS5 c d
 | 6,_=>exact hS6 c d
 | 7,_=>exact hS7 c d
theorem U6 (N:Nat)(h:N<18446744073709551616):∀i,i≤8→NB (Jw N 8) i=N/256^(8-i)
 | 0,_=>by
  show 0=N/256^8
  rw[Nat.div_eq_of_lt (by simpa using h)]
 | i+1,hi=>by
  rw[NB,U6 N h i (by omega),WO,Yt _ _ i (by omega)];have h1:N/256^(8-i)=N/256^(7-i)/256:=by
   rw[show 8-i=(7-i)+1 by omega,Nat.pow_succ,Nat.div_div_eq_div_mul]
  rw[h1,show 8-(i+1)=7-i by omega];generalize N/256^(7-i)=M;rw[UInt8.toNat_ofNat'];omega
theorem Jz (N:Nat)(h:N<18446744073709551616):AL (C8 N)=N:=by
 by_cases h0:N=0
 · subst h0;decide +kernel
 · have h1:(C8 N).data.toList=Jw N 8:=by
    rw[eu];unfold C8;rw[if_neg h0]
   have h2:NB (C8 N).data.toList 8=N:=by
    rw[h1,U6 N h 8 (by omega)];simp
   unfold AL;rw[h2,if_pos rfl]
end Go.Proofs.YtdmkhmeaphaapaaGreat.V
