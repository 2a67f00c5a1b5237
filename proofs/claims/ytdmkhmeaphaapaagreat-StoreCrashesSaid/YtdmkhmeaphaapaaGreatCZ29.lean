/- Kit. -/
import Derived.Test.YtdmkhmeaphaapaaGreatCZ28
import Derived.Test.YtdmkhmeaphaapaaGreatCZ27
import Derived.Laws.Bits64b
import Derived.Test.YtdmkhmeaphaapaaGreatCZ0
set_option maxRecDepth 100000
set_option linter.unusedVariables false
set_option linter.unusedSimpArgs false
namespace Go.Proofs.YtdmkhmeaphaapaaGreat.V
open Go.RowKit Go.Sort
def Gv (st:St)(i:Nat):St:=if st.now.getD i ⟨#[]⟩=BC then st else BV st i BC
def AQ (st:St)(i:Nat):Nat→St
 | 0=>st
 | k+1=>Gv (AQ st i k) (i+k)
theorem ai {st:St}{i:Nat}(hg:Good st)(hl:st.lim=false)(hi:i<st.now.length) :
 Good (Gv st i)∧(Gv st i).lim=false∧(Gv st i).now=st.now.set i BC∧(Gv st i).pend.length≤st.pend.length+1∧(Gv st i).safe=st.safe:=by
 unfold Gv;split
 · rename_i hz;refine⟨hg,hl,?_,by omega,rfl⟩;apply List.ext_getElem?;intro j;by_cases hj:i=j
   · subst hj;rw[List.getElem?_set_self hi,Co hi];rw[Gi,Co hi]at hz;exact Gu some hz
   · rw[Jr hj]
 · have ha:=E9 (Cf hl) hi;exact⟨IG hg ha rfl,hl,rfl,by simp[BV],rfl⟩
theorem NQ {st:St}{i:Nat}(hg:Good st)(hl:st.lim=false):∀k,i+k≤st.now.length →
 Good (AQ st i k)∧(AQ st i k).lim=false∧(AQ st i k).now=st.now.take i++List.replicate k BC++st.now.drop (i+k)∧(AQ st i k).pend.length≤st.pend.length+k∧(AQ st i k).safe=st.safe
 | 0,_=>⟨hg,hl,by simp[AQ],by simp[AQ],rfl⟩
 | k+1,hk=>by
  obtain⟨g1,g2,g3,g4,g5⟩:=NQ (i:=i) hg hl k (by omega);have hlen:(AQ st i k).now.length=st.now.length:=by
   rw[g3];simp;omega
  obtain⟨e1,e2,e3,e4,e5⟩:=ai g1 g2 (show i+k<(AQ st i k).now.length by omega);refine⟨e1,e2,?_,?_,e5.trans g5⟩
  · show(Gv (AQ st i k) (i+k)).now=_
    rw[e3,g3];have hl1:(st.now.take i).length=i:=by rw[Cc];omega
    rw[Ch,List.set_append,if_neg (by omega),hl1,show i+k-i=k by omega,List.set_append,if_neg (by simp),JX,Nat.sub_self];have hgp:i+k<st.now.length:=by omega
    rw[List.drop_eq_getElem_cons hgp,mJ,List.replicate_succ'];simp[Nat.add_assoc]
  · show(Gv (AQ st i k) (i+k)).pend.length≤_
    omega
set_option maxHeartbeats 2000000 in
theorem uZ (B b:Nat)(st:St)(fr sz at_ q:Int)(w:World)(h:Dev B w b st)(hg:Good st)(ho:Du st fr sz=q)(hne:q≠0) :
 Calls Tryz.prog 94 #[.pointer (some ⟨b,0,none⟩),.int .i64 fr,.int .i64 sz,.int .i64 at_] w fun e w'=>e=.returned (.int .i64 q)∧Below w.heap.size w w':=by
 have cO:=fM B b st fr sz q w h hg ho hne;have hne2:(q==0)=false:=by simpa using hne
 clear h hg ho hne;go_enter Tryz.func94,Tryz.ntmps94;go_wp2_with fail;refine cO.mono ?_;rintro e w1 ⟨rfl,hb1⟩;have HB1:Hid (Below w.heap.size w (w1.alloc (.cells #[.pointer none,.int .i64 0,.int .i64 0] 218))):=Aa (hb1.alloc hb1.size _);clear hb1 cO;go_wp2;go_ret;exact⟨rfl,HB1.out⟩
def JG (N:Nat):Nat→List UInt8
 | 0=>List.replicate 64 0
 | i+1=>((JG N i).set i (UInt8.ofNat (N/256^(7-i)%256))).set (8+i) (UInt8.ofNat (255-N/256^(7-i)%256))
theorem Gl (N:Nat):∀k,(JG N k).length=64
 | 0=>by simp[JG]
 | k+1=>by rw[JG,List.length_set,List.length_set,Gl N k]
def gK (c d:Nat→UInt8):Nat→List UInt8
 | 0=>List.replicate 64 0
 | i+1=>((gK c d i).set i (c (7-i))).set (8+i) (d (7-i))
def uL (c d:Nat→UInt8):Nat→List UInt8
 | 0=>List.replicate 64 0
 | k+1=>((uL c d k).set (7-k) (c k)).set (8+(7-k)) (d k)
theorem wY (c d:Nat→UInt8):gK c d 8=uL c d 8:=by kernel_rfl
theorem Xp (N:Nat):∀i,JG N i=gK (fun k=>UInt8.ofNat (N/256^k%256)) (fun k=>UInt8.ofNat (255-N/256^k%256)) i
 | 0=>rfl
 | i+1=>by rw[JG,gK,Xp N i]
theorem gP (N:Nat):∀i,QP N i=uL (fun k=>UInt8.ofNat (N/256^k%256)) (fun k=>UInt8.ofNat (255-N/256^k%256)) i
 | 0=>rfl
 | i+1=>by rw[QP,uL,gP N i]
theorem gN (N:Nat):JG N 8=QP N 8:=by rw[Xp,gP,wY]
theorem fA {W:World}{g o c:Nat}{T:TypeId}{l:List UInt8}(ho:o<l.length)(hc:c<256)(h:W.heap[g]?=some (.cells (CY l).toArray T (0,0))):(W.setCell ⟨g,o,none⟩ (.int .u8 (c:Int))).heap[g]?=some (.cells (CY (l.set o (UInt8.ofNat c))).toArray T (0,0)):=by
 have hlen:(CY l).length=l.length:=by unfold CY;rw[DW]
 have h1:=Cm g T [.int .u8 (c:Int)] o W _ h (by rw[hlen];show o+1≤_;omega);refine h1.trans ?_;congr 3;unfold CY;rw[List.map_set,UInt8.toNat_ofNat',Nat.mod_eq_of_lt (by omega),List.set_eq_take_append_cons_drop,if_pos (by simpa using ho)];simp
theorem Zz {W:World}{g o:Nat}{T:TypeId}{l:List UInt8}(ho:o<l.length)(h:W.heap[g]?=some (.cells (CY l).toArray T (0,0))):∃v,W.cell? ⟨g,o,none⟩=some (.int .u8 v):=by
 rw[AB _ _ _ _ _ _ h];exact⟨((l[o]'ho).toNat:Int),by unfold CY;simp[ho]⟩
theorem vS (k:Nat):(2:Nat)^(8*k)=256^k:=by rw[Nat.pow_mul]
set_option maxHeartbeats 4000000 in
theorem bQ (N:Nat)(w:World)(hN:N<18446744073709551616):Calls Tryz.prog 160 #[.int .u64 N] w fun e w'=>e=.returned (.string (C8 N))∧Below w.heap.size w w':=by
 by_cases h0:N=0
 · subst h0;have cN:=Vu w;rw[show C8 0=BC from UZ];generalize BC=Z at *;go_enter Tryz.func160,Tryz.ntmps160;go_wp2_with fail;refine cN.mono ?_;rintro e w1 ⟨rfl,hb1⟩;have HB1:=Aa hb1;clear hb1 cN;go_wp2;go_ret;exact⟨rfl,HB1.out⟩
 · have hnz:((N:Int)==0)=false:=by rw[Ba];omega
   go_enter Tryz.func160,Tryz.ntmps160;go_wp2;have Nn:Hid ((w.alloc (.cells (CY (List.replicate 64 0)).toArray 164)).heap[w.heap.size]?=some (.cells (CY (JG N 0)).toArray 164 (0,0))):=Aa (Ai _ _);go_loopw [8] (fun iv wr=>∃i:Nat,i≤8∧iv=.int .i64 (i:Int)∧wr.heap[w.heap.size]?=some (.cells (CY (JG N i)).toArray 164 (0,0))∧Below w.heap.size w wr) (fun iv _=>8-(intOf iv).toNat)
   case atStart=>exact⟨0,by omega,rfl,Nn.out,(Ad _ _).alloc (Ae _) _⟩
   case round =>
    obtain⟨i,hi,rfl,hrow,hb⟩:=hrel;have HR:=Aa hrow;have HB:=Aa hb;clear hrow hb;by_cases Oz:i<8
    · have Aau:(i:Int)<8:=by omega
      obtain⟨C,hC⟩:∃C,N/256^(7-i)%256=C:=⟨_,rfl⟩;have hC1:(N:Int)/2^(8*(7-i))%256=(C:Int):=by
       rw[←hC,←vS]
       norm_cast
      have hCl:C<256:=by rw[←hC];exact Nat.mod_lt _ (by decide)
      obtain⟨D,hD⟩:∃D:Nat,255-C=D:=⟨_,rfl⟩;have hD1:(255:Int)-(C:Int)=(D:Int):=by omega
      have hDl:D<256:=by omega
      have hDw:IntKind.u8.wrap ((255:Int)-(C:Int))=(D:Int):=by rw[IntKind.wrap_u8];omega
      have HC:=Aa hC;have HD:=Aa hD;clear hC hD;have h8i:IntKind.i64.wrap ((8:Int)+(i:Int))=8+(i:Int):=by rw[El];omega
      have h8l:(8:Int)+(i:Int)<64:=by omega
      have Adv:(i:Int)<64:=by omega
      obtain⟨v0,c0⟩:=Zz (o:=i) (by rw[Gl];omega) HR.out;have f0:wr.frozen? ⟨w.heap.size,i,none⟩=false:=Fp wr _ i _ _ HR.out;have HR1:Hid ((wr.setCell ⟨w.heap.size,i,none⟩ (.int .u8 (C:Int))).heap[w.heap.size]?=some (.cells (CY ((JG N i).set i (UInt8.ofNat C))).toArray 164 (0,0))):=Aa (fA (by rw[Gl];omega) hCl HR.out);obtain⟨v1,c1⟩:=Zz (o:=8+i) (by rw[List.length_set,Gl];omega) HR1.out;have f1:(wr.setCell ⟨w.heap.size,i,none⟩ (.int .u8 (C:Int))).frozen? ⟨w.heap.size,8+i,none⟩=false:=Fp _ _ _ _ _ HR1.out;have HR2:Hid (((wr.setCell ⟨w.heap.size,i,none⟩ (.int .u8 (C:Int))).setCell ⟨w.heap.size,8+i,none⟩ (.int .u8 (D:Int))).heap[w.heap.size]?=some (.cells (CY (JG N (i+1))).toArray 164 (0,0))):=Aa (by
       have h1:=fA (o:=8+i) (c:=D) (by rw[List.length_set,Gl];omega) hDl HR1.out;rw[h1,JG,HC.out,HD.out])
      have HB2:Hid (Below w.heap.size w ((wr.setCell ⟨w.heap.size,i,none⟩ (.int .u8 (C:Int))).setCell ⟨w.heap.size,8+i,none⟩ (.int .u8 (D:Int)))):=Aa ((HB.out.setCell (p:=⟨w.heap.size,i,none⟩) (Ae _) _).setCell (p:=⟨w.heap.size,8+i,none⟩) (Ae _) _);go_wp2;go_roundw
      case rel=>exact⟨i+1,by omega,by first|rfl|go_num,HR2.out,HB2.out⟩
      case measure=>simp[intOf];omega
    · have Aau:¬((i:Int)<8):=by omega
      have hie:i=8:=by omega
      subst hie;have hcv:=Zx (Gl N 8) HR.out;have HHB:Hid ((⟨(JG N 8).toArray⟩:ByteArray)=C8 N):=Aa (by rw[gN];unfold C8;rw[if_neg h0]);go_wp2;go_ret;exact⟨by rw[←HHB.out];rfl,HB.out⟩
def NU (l:List UInt8):Nat→Nat
 | 0=>0
 | i+1=>NU l i*256+(l.getD i 0).toNat
theorem WX (l:List UInt8):∀i,NU l i<256^i
 | 0=>by simp[NU]
 | i+1=>by
  have h1:=WX l i;have h2:=UInt8.toNat_lt (l.getD i 0);rw[NU,Nat.pow_succ];omega
def AO (s:ByteArray):Nat:=if s=C8 (NU s.data.toList 8) then NU s.data.toList 8 else 0
set_option maxHeartbeats 4000000 in
theorem kL (s:ByteArray)(w:World)(hs:s.size=64):Calls Tryz.prog 128 #[.string s] w fun e w'=>e=.returned (.int .u64 (AO s))∧Below w.heap.size w w':=by
 obtain⟨R,hR⟩:∃R,AO s=R:=⟨_,rfl⟩;rw[hR];have HR:=Aa hR;clear hR;have HS:=Aa hs;go_enter Tryz.func128,Tryz.ntmps128;go_wp2;go_loopw [5,3] (fun iv ev wr=>∃i:Nat,i≤8∧iv=.int .i64 (i:Int)∧ev=.int .u64 (NU s.data.toList i:Nat)∧Below w.heap.size w wr) (fun iv _ _=>8-(intOf iv).toNat)
 case atStart=>exact⟨0,by omega,rfl,rfl,Ad _ _⟩
 case round =>
  obtain⟨i,hi,rfl,rfl,hb⟩:=hrel;have HB:=Aa hb;clear hb;by_cases Oz:i<8
  · have Aau:(i:Int)<8:=by omega
    have his:(i:Int)<(s.size:Int):=by omega
    have HST:Hid (bits BinOp.or IntKind.u64 (IntKind.u64.wrap (((NU s.data.toList i:Nat):Int)*256)) (IntKind.u64.wrap ((s[i]'(by omega)).toNat:Int))=((NU s.data.toList (i+1):Nat):Int)):=Aa (by
     have h1:=WX s.data.toList i;have h2:256^i≤256^7:=Nat.pow_le_pow_right (by decide) (by omega);have h3:(256:Nat)^7=72057594037927936:=by decide
     have hb1:=UInt8.toNat_lt (s[i]'(by omega));have hxi:s.data.toList.getD i 0=s[i]'(by omega):=by
      rw[Gi,Co (by rw[BQ];show i<s.size;omega)];rfl
     rw[NU,hxi];generalize (s[i]'(by omega)).toNat=C at *;generalize NU s.data.toList i=E at *;have e1:IntKind.u64.wrap ((E:Int)*256)=((E*256:Nat):Int):=by rw[IntKind.wrap_u64];omega
     have e2:IntKind.u64.wrap (C:Int)=(C:Int):=by rw[IntKind.wrap_u64];omega
     rw[e1,e2,bits_or_u64_nat _ _ (by omega) (by omega),YE _ _ hb1])
    go_wp2;go_roundw
    case rel=>exact⟨i+1,by omega,by first|rfl|go_num,by rw[HST.out],HB.out⟩
    case measure=>simp[intOf];omega
  · have Aau:¬((i:Int)<8):=by omega
    have hie:i=8:=by omega
    subst hie;obtain⟨E,hE⟩:∃E,NU s.data.toList 8=E:=⟨_,rfl⟩;have hEl:E<18446744073709551616:=by
     have:=WX s.data.toList 8;rw[hE]at this;exact this
    have cH:=fun W=>bQ E W hEl
    have HE:=Aa hE;rw[hE];clear hE hi;by_cases hc:s=C8 E
    · have HRE:Hid (E=R):=Aa (by rw[←HR.out];unfold AO;rw[HE.out,if_pos hc]);have HX:=Aa hc;rw[←hc]at cH;clear hc;go_wp2_with fail;refine(cH _).mono ?_;rintro e w1 ⟨rfl,hb1⟩;have HB1:Hid (Below w.heap.size w w1):=Aa (HB.out.trans (hb1.mono HB.out.size));clear hb1;go_wp2;go_ret;exact⟨by rw[←HRE.out];rfl,HB1.out⟩
    · have HRE:Hid (R=0):=Aa (by rw[←HR.out];unfold AO;rw[HE.out,if_neg hc]);have hne:=MV hc;generalize C8 E=Z at *;clear hc;go_wp2_with fail;refine(cH _).mono ?_;rintro e w1 ⟨rfl,hb1⟩;have HB1:Hid (Below w.heap.size w w1):=Aa (HB.out.trans (hb1.mono HB.out.size));clear hb1;go_wp2;go_ret;exact⟨by rw[HRE.out];rfl,HB1.out⟩
theorem Ih (N:Nat):(C8 N).size=64:=by
 unfold C8;show Array.size _=64
 rw[Gq];split
 · simp
 · exact Pj N 8
theorem G9 {st:St}{F S:Nat}(hgo:BJ st=false)(h1:1≤S)(h:F+S≤st.now.length):Du st F S=0:=by
 unfold Du;rw[if_pos (E9 hgo (by omega)),if_neg (by omega)]
def BytesAt (W:World)(g:Nat)(l:List UInt8):Prop:=(∃C fr,W.heap[g]?=some (.cells C 5 fr))∧∀j (hj:j<l.length),W.cell? ⟨g,j,none⟩=some (.int .u8 (l[j].toNat:Int))∧W.frozen? ⟨g,j,none⟩=false
theorem BytesAt.conv {W:World}{g cap n:Nat}{l:List UInt8}(h:BytesAt W g l)(hn:l.length=n):(convert 121 9 (.slice (some ⟨g,0,none⟩) n cap)).run Tryz.prog W=.ok (.string ⟨l.toArray⟩) W:=by
 have h9:=run_convert_bytes_back (P:=Tryz.prog) W 121 9 5 ⟨g,0,none⟩ cap l Tryz.underlying121 Tryz.underlying5 Tryz.underlying9 (fun j hj=>by
  rw[Addr.add_mid,Gh];exact(h.2 j hj).1)
 rw[hn]at h9;exact h9
theorem hS0 (c d:Nat→UInt8):(gK c d 8).getD 0 0=c (7-0):=by kernel_rfl
theorem hS1 (c d:Nat→UInt8):(gK c d 8).getD 1 0=c (7-1):=by kernel_rfl
theorem hS2 (c d:Nat→UInt8):(gK c d 8).getD 2 0=c (7-2):=by kernel_rfl
theorem qL (c d:Nat→UInt8):(gK c d 8).getD 3 0=c (7-3):=by kernel_rfl
theorem uM (c d:Nat→UInt8):(gK c d 8).getD 4 0=c (7-4):=by kernel_rfl
theorem hS5 (c d:Nat→UInt8):(gK c d 8).getD 5 0=c (7-5):=by kernel_rfl
theorem hS6 (c d:Nat→UInt8):(gK c d 8).getD 6 0=c (7-6):=by kernel_rfl
theorem hS7 (c d:Nat→UInt8):(gK c d 8).getD 7 0=c (7-7):=by kernel_rfl
theorem Y6 (c d:Nat→UInt8):∀i,i<8→(gK c d 8).getD i 0=c (7-i):=by
 intro i hi
 match i,hi with
 | 0,_=>exact hS0 c d
 | 1,_=>exact hS1 c d
 | 2,_=>exact hS2 c d
 | 3,_=>exact qL c d
 | 4,_=>exact uM c d
 | 5,_=>exact hS5 c d
 | 6,_=>exact hS6 c d
 | 7,_=>exact hS7 c d
theorem Vt (N:Nat)(h:N<18446744073709551616):∀i,i≤8→NU (JG N 8) i=N/256^(8-i)
 | 0,_=>by
  show 0=N/256^8
  rw[Nat.div_eq_of_lt (by simpa using h)]
 | i+1,hi=>by
  rw[NU,Vt N h i (by omega),Xp,Y6 _ _ i (by omega)];have h1:N/256^(8-i)=N/256^(7-i)/256:=by
   rw[show 8-i=(7-i)+1 by omega,Nat.pow_succ,Nat.div_div_eq_div_mul]
  rw[h1,show 8-(i+1)=7-i by omega];generalize N/256^(7-i)=M;rw[UInt8.toNat_ofNat'];omega
theorem JJ (N:Nat)(h:N<18446744073709551616):AO (C8 N)=N:=by
 by_cases h0:N=0
 · subst h0;decide +kernel
 · have h1:(C8 N).data.toList=JG N 8:=by
    rw[gN];unfold C8;rw[if_neg h0]
   have h2:NU (C8 N).data.toList 8=N:=by
    rw[h1,Vt N h 8 (by omega)];simp
   unfold AO;rw[h2,if_pos rfl]
end Go.Proofs.YtdmkhmeaphaapaaGreat.V
