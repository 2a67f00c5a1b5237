/- Kit. -/
import Derived.Test.YtdmkhmeaphaapaaGreatCZ31
import Derived.Laws.ResultCell
import Derived.StillTailTactics
import Derived.Test.YtdmkhmeaphaapaaGreatCZ5
import Derived.Test.YtdmkhmeaphaapaaGreatCZ0
set_option maxRecDepth 100000
set_option linter.unusedVariables false
set_option linter.unusedSimpArgs false
namespace Go.Proofs.YtdmkhmeaphaapaaGreat.V
open Go.RowKit Go.Sort
def Ye (k:Nat×Value):Value:=.func (.func k.1) #[k.2] #[]
def Fg (k:Nat):Prop:=∀xs W,(callFunc k xs).run Tryz.prog W=.ok (.enter k xs) W
def Hr (w:World)(g:Nat)(ks:List (Nat×Value)):Prop:=w.heap[g]?=some (.cells (ks.map Ye).toArray 169 (0,0))
def Nh (n:Nat)(I:Nat→World→Prop)(Q:Int→World→Prop)(e:Ending)(w':World):Prop:=∃q:Int,e=.returned (.int .i64 q)∧(q=0∧I n w'∨q≠0∧Q q w')
set_option maxHeartbeats 2000000 in
theorem Na (g n:Nat)(ks:List (Nat×Value))(w:World)(I:Nat→World→Prop)(Q:Int→World→Prop)(hn:ks.length=n)(xe:n≤1000)(hc:∀k∈ks,Fg k.1)(h0:I 0 w)(hg:∀i W,I i W→Hr W g ks)
 (hs:∀i k W,ks[i]?=some k→I i W→Calls Tryz.prog k.1 #[k.2] W fun e w'=>∃q:Int,e=.returned (.int .i64 q)∧(q=0∧I (i+1) w'∨q≠0∧Q q w')) :
 Calls Tryz.prog 46 #[.slice (some ⟨g,0,none⟩) n n] w (Nh n I Q):=by
 unfold Nh;have HS:=Aa hs;have HC:=Aa hc;have HG:=Aa hg;have HN:=Aa hn;clear hs hc hg hn;go_enter Tryz.func46,Tryz.ntmps46;go_wp2;go_loopw [8] (fun iv wr=>∃i:Nat,i≤n∧iv=.int .i64 i∧I i wr) (fun iv _=>n-(intOf iv).toNat)
 case atStart=>exact⟨0,by omega,rfl,h0⟩
 case round =>
  obtain⟨i,hi,rfl,hI⟩:=hrel;have HI:=Aa hI;clear hI h0;by_cases hin:i<n
  · have hiz:(i:Int)<(n:Int):=by omega
    obtain⟨k,hk⟩:∃k,ks[i]?=some k:=⟨_,Co (by rw[HN.out];exact hin)⟩;have hcell:wr.cell? ⟨g,i,none⟩=some (.func (.func k.1) #[k.2] #[]):=by
     rw[AB wr g i _ _ _ (HG.out i wr HI.out)];simp[hk,Ye]
    have AcD:∀xs W,(callFunc k.1 xs).run Tryz.prog W=.ok (.enter k.1 xs) W:=HC.out k (CU hk);have hstep:=HS.out i k wr hk HI.out;clear hk;generalize k.1=f at *;generalize k.2=v at *;go_wp2_with fail;refine hstep.mono ?_;rintro e w2 ⟨q,rfl,hq⟩;have HQ:=Aa hq;clear hq hstep hcell AcD;by_cases hq0:q=0
    · subst hq0;have HI2:Hid (I (i+1) w2):=Aa (by
       rcases HQ.out with h|h
       · exact h.2
       · exact absurd rfl h.1)
      go_wp2;go_roundw
      case rel=>exact⟨i+1,by omega,by first|rfl|go_num,HI2.out⟩
      case measure=>simp[intOf];omega
    · have Kh:Hid (Q q w2):=Aa (by
       rcases HQ.out with h|h
       · exact absurd h.1 hq0
       · exact h.2)
      have hqz:(q==0)=false:=by simpa using hq0
      have Ack:¬q=0:=hq0;go_wp2;go_ret;exact⟨q,rfl,Or.inr ⟨Ack,Kh.out⟩⟩
  · have hge:¬((i:Int)<(n:Int)):=by omega
    have hin2:i=n:=by omega
    subst hin2;go_wp2;go_ret;exact⟨0,rfl,Or.inl ⟨rfl,HI.out⟩⟩
def Xl (b F S A E:Nat):List Value:=[.pointer (some ⟨b,0,none⟩),.int .i64 F,.int .i64 S,.int .i64 A,.int .u64 E]
def Af (w:World)(hb:Nat)(T:TypeId)(b F S A E:Nat)(R:List Value):Prop:=w.heap[hb]?=some (.cells (Xl b F S A E++R).toArray T (0,0))
theorem Af.cells {w:World}{hb:Nat}{T:TypeId}{b F S A E:Nat}{R:List Value}(h:Af w hb T b F S A E R) :
 w.cell? ⟨hb,0,none⟩=some (.pointer (some ⟨b,0,none⟩))∧w.cell? ⟨hb,1,none⟩=some (.int .i64 F)∧w.cell? ⟨hb,2,none⟩=some (.int .i64 S)∧w.cell? ⟨hb,3,none⟩=some (.int .i64 A)∧w.cell? ⟨hb,4,none⟩=some (.int .u64 E):=by
 refine⟨?_,?_,?_,?_,?_⟩<;>(rw[AB w hb _ _ _ _ h];rfl)
theorem Af.frozen {w:World}{hb:Nat}{T:TypeId}{b F S A E:Nat}{R:List Value}(h:Af w hb T b F S A E R)(j:Nat):w.frozen? ⟨hb,j,none⟩=false:=Fp w hb j _ _ h
theorem Af.off {w w':World}{hb:Nat}{T:TypeId}{b F S A E:Nat}{R:List Value}(h:Af w hb T b F S A E R){ex:List TypeId}(ho:Off ex w w')(hT:T∉ex):Af w' hb T b F S A E R:=ho T hT _ _ _ h
theorem Af.below {w w':World}{hb:Nat}{T:TypeId}{b F S A E:Nat}{R:List Value}(h:Af w hb T b F S A E R)(hb':Below w.heap.size w w'):Af w' hb T b F S A E R:=h.off (Off.Ar hb' []) (by simp)
theorem Af.WJ {w:World}{hb:Nat}{T:TypeId}{b F S A E:Nat}{R:List Value}(h:Af w hb T b F S A E R)(x:Nat):Af (w.setCell ⟨hb,3,none⟩ (.int .i64 x)) hb T b F S x E R:=by
 unfold Af;rw[Bn w hb 3 _ _ _ h];simp[Xl]
theorem Af.Yl {w:World}{hb:Nat}{T:TypeId}{b F S A E:Nat}{R:List Value}(h:Af w hb T b F S A E R)(x:Nat):Af (w.setCell ⟨hb,4,none⟩ (.int .u64 x)) hb T b F S A x R:=by
 unfold Af;rw[Bn w hb 4 _ _ _ h];simp[Xl]
abbrev DT:List TypeId:=[77,165,167,4,82,84,98]
theorem AaK:∀T∈AZ,T∈DT:=by decide
section
variable {hb:Nat}{T:TypeId}{b F S A E:Nat}{R:List Value}{w:World}
set_option maxHeartbeats 1000000 in
theorem ky (h:Af w hb T b F S A E R):Calls Tryz.prog 158 #[.pointer (some ⟨hb,0,none⟩)] w fun e w'=>e=.returned (.int .i64 (if 9223372036854775808≤E then 12 else 0))∧w=w':=by
 obtain⟨c0,c1,c2,c3,c4⟩:=h.cells;clear h;by_cases hE:9223372036854775808≤E
 · have hEz:(9223372036854775808:Int)≤(E:Int):=by omega
   rw[if_pos hE];go_enter Tryz.func158,Tryz.ntmps158;go_wp2;go_ret;exact⟨rfl,rfl⟩
 · have hEz:¬(9223372036854775808:Int)≤(E:Int):=by omega
   rw[if_neg hE];go_enter Tryz.func158,Tryz.ntmps158;go_wp2;go_ret;exact⟨rfl,rfl⟩
set_option maxHeartbeats 1000000 in
theorem nZ (h:Af w hb T b F S A E R)(hS:S≤100000)(hA:A≤100000):Calls Tryz.prog 89 #[.pointer (some ⟨hb,0,none⟩)] w fun e w'=>e=.returned (.int .i64 ((S:Int)-(A:Int)))∧Below w.heap.size w w':=by
 obtain⟨c0,c1,c2,c3,c4⟩:=h.cells;have hw:IntKind.i64.wrap ((S:Int)-(A:Int))=(S:Int)-(A:Int):=by rw[El];omega
 clear h;go_enter Tryz.func89,Tryz.ntmps89;go_wp2_with fail;go_quiet (fail);go_wp2;go_ret;exact⟨rfl,Below.VU (Ad _ _) _⟩
def FN (st:St)(F S:Nat):Int:=if Fa st.now.length st.lim st.left F=0 then(if S<2 then 1 else 0) else Fa st.now.length st.lim st.left F
set_option maxHeartbeats 1000000 in
theorem Sn {B:Nat}{st:St}(h:Af w hb T b F S A E R)(hd:Dev B w b st)(hg:Good st)(hS:S≤100000) :
 Calls Tryz.prog 47 #[.pointer (some ⟨hb,0,none⟩)] w fun e w'=>e=.returned (.int .i64 (FN st F S))∧Below w.heap.size w w':=by
 have cG:Hid (∀W,Below w.heap.size w W→Calls Tryz.prog 91 #[.pointer (some ⟨b,0,none⟩),.int .i64 F] W (Hu B st F W)):=Aa (fun W hW=>Zg B b st F W (hd.below hW) hg);unfold Hu at cG;unfold FN;have Nj:Hid (∀W W',Af W hb T b F S A E R→Below W.heap.size W W'→Af W' hb T b F S A E R):=Aa (fun W W' h hb=>h.below hb);have HCE:Hid (∀W,Af W hb T b F S A E R→W.cell? ⟨hb,0,none⟩=some (.pointer (some ⟨b,0,none⟩))∧W.cell? ⟨hb,1,none⟩=some (.int .i64 F)∧W.cell? ⟨hb,2,none⟩=some (.int .i64 S)):=Aa (fun W h=>⟨h.cells.1,h.cells.2.1,h.cells.2.2.1⟩);obtain⟨c0,c1,c2,c3,c4⟩:=h.cells;have h0:=Ad w.heap.size w;generalize (if Fa st.now.length st.lim st.left F=0 then st.now.getD ((F:Int)).toNat ⟨#[]⟩ else⟨#[]⟩)=s at *;generalize Fa st.now.length st.lim st.left F=q at *;have hS0:Below w.heap.size w w∧w.cell? ⟨hb,0,none⟩=some (.pointer (some ⟨b,0,none⟩))∧w.cell? ⟨hb,1,none⟩=some (.int .i64 F)∧w.cell? ⟨hb,2,none⟩=some (.int .i64 S):=⟨h0,c0,c1,c2⟩;have HK:Hid (∀W W',(Below w.heap.size w W∧W.cell? ⟨hb,0,none⟩=some (.pointer (some ⟨b,0,none⟩))∧W.cell? ⟨hb,1,none⟩=some (.int .i64 F)∧W.cell? ⟨hb,2,none⟩=some (.int .i64 S))→Below W.heap.size W W'→(Below w.heap.size w W'∧W'.cell? ⟨hb,0,none⟩=some (.pointer (some ⟨b,0,none⟩))∧W'.cell? ⟨hb,1,none⟩=some (.int .i64 F)∧W'.cell? ⟨hb,2,none⟩=some (.int .i64 S))):=Aa (fun W W' hS hbb=>by
  have hW:=Nj.out w W h hS.1;exact⟨hS.1.trans (hbb.mono hS.1.size),HCE.out W' (Nj.out W W' hW hbb)⟩)
 obtain⟨r,hr⟩:∃r:Int,(if q=0 then(if S<2 then 1 else 0) else q)=r:=⟨_,rfl⟩;rw[hr];have HR:=Aa hr;clear h hd hg c3 c4 h0 hr;go_enter Tryz.func47,Tryz.ntmps47;go_wp2_with fail;go_region_held3 (fun W=>Below w.heap.size w W∧W.cell? ⟨hb,0,none⟩=some (.pointer (some ⟨b,0,none⟩))∧W.cell? ⟨hb,1,none⟩=some (.int .i64 F)∧W.cell? ⟨hb,2,none⟩=some (.int .i64 S)) (first|assumption|exact HK.out _ _ ‹_› (Ad _ _).drew|exact HK.out _ _ ‹_› ‹_›) (first|(go_at_call 91;refine(cG.out _ ?_).mono ?_;(first|exact hS0.1|exact hS0.1.drew);rintro e w' ⟨rfl,rfl⟩));rename_i hHeld;have HB:=Aa hHeld.1;have k2:=hHeld.2.2.2;clear hHeld hS0 c0 c1 c2;by_cases hq:q=0
 · subst hq;by_cases hs2:S<2
   · have hsz:(S:Int)<2:=by omega
     obtain rfl:r=1:=by rw[←HR.out,if_pos rfl,if_pos hs2]
     go_wp2;go_ret;exact⟨rfl,HB.out⟩
   · have hsz:¬(S:Int)<2:=by omega
     obtain rfl:r=0:=by rw[←HR.out,if_pos rfl,if_neg hs2]
     go_wp2;go_ret;exact⟨rfl,HB.out⟩
 · obtain rfl:r=q:=by rw[←HR.out,if_neg hq]
   have hqz:(r==0)=false:=by simpa using hq
   go_wp2;go_ret;exact⟨rfl,HB.out⟩
set_option maxHeartbeats 1000000 in
theorem aP {B:Nat}{Ps:Int→World→Prop}(h:Af w hb T b F S A E R)(hT:T∉AZ)
 (hc:∀W,Below w.heap.size w W→Calls Tryz.prog 153 #[.pointer (some ⟨b,0,none⟩),.int .i64 F,.int .u64 0] W fun e w'=>∃q:Int,e=.returned (.int .i64 q)∧Ps q w'∧Off AZ W w') :
 Calls Tryz.prog 111 #[.pointer (some ⟨hb,0,none⟩)] w fun e w'=>∃q:Int,e=.returned (.int .i64 q)∧Ps q w':=by
 have Z0:=Aa hc;have NL:Hid (∀W,Af W hb T b F S A E R→(Af W hb T b F S A E R∧W.cell? ⟨hb,0,none⟩=some (.pointer (some ⟨b,0,none⟩))∧W.cell? ⟨hb,1,none⟩=some (.int .i64 F))):=Aa (fun W h=>by
  obtain⟨c0,c1,c2,c3,c4⟩:=h.cells;exact⟨h,c0,c1⟩)
 have HK:Hid (∀W W',Af W hb T b F S A E R→Off AZ W W'→Af W' hb T b F S A E R):=Aa (fun W W' h ho=>h.off ho hT);have hS0:=NL.out w h;obtain⟨_,c0,c1⟩:=hS0;have hS0:=NL.out w h;clear hc h;go_enter Tryz.func111,Tryz.ntmps111;go_wp2_with fail;go_region_held3 (fun W=>Af W hb T b F S A E R∧W.cell? ⟨hb,0,none⟩=some (.pointer (some ⟨b,0,none⟩))∧W.cell? ⟨hb,1,none⟩=some (.int .i64 F)) (first|assumption|exact NL.out _ (HK.out _ _ (And.left ‹_›) (Off.refl _ _).drew)|exact NL.out _ (HK.out _ _ (And.left ‹_›) ‹_›)) (first|(go_at_call 153;refine(Z0.out _ (Ad _ _).drew).mono ?_;rintro e w' ⟨q,rfl,hps,hof⟩));go_wp2;go_ret;exact⟨q,rfl,hps⟩
set_option maxHeartbeats 1000000 in
theorem nP {B:Nat}{Ps:Int→World→Prop}(h:Af w hb T b F S A E R)(hT:T∉AZ)
 (hc:∀W,Below w.heap.size w W→Calls Tryz.prog 153 #[.pointer (some ⟨b,0,none⟩),.int .i64 F,.int .u64 E] W fun e w'=>∃q:Int,e=.returned (.int .i64 q)∧Ps q w'∧Off AZ W w') :
 Calls Tryz.prog 112 #[.pointer (some ⟨hb,0,none⟩)] w fun e w'=>∃q:Int,e=.returned (.int .i64 q)∧Ps q w':=by
 have Z0:=Aa hc;have NL:Hid (∀W,Af W hb T b F S A E R→(Af W hb T b F S A E R∧W.cell? ⟨hb,0,none⟩=some (.pointer (some ⟨b,0,none⟩))∧W.cell? ⟨hb,1,none⟩=some (.int .i64 F)∧W.cell? ⟨hb,4,none⟩=some (.int .u64 E))):=Aa (fun W h=>by
  obtain⟨c0,c1,c2,c3,c4⟩:=h.cells;exact⟨h,c0,c1,c4⟩)
 have HK:Hid (∀W W',Af W hb T b F S A E R→Off AZ W W'→Af W' hb T b F S A E R):=Aa (fun W W' h ho=>h.off ho hT);have hS0:=NL.out w h;obtain⟨_,c0,c1,c4⟩:=hS0;have hS0:=NL.out w h;clear hc h;go_enter Tryz.func112,Tryz.ntmps112;go_wp2_with fail;go_region_held3 (fun W=>Af W hb T b F S A E R∧W.cell? ⟨hb,0,none⟩=some (.pointer (some ⟨b,0,none⟩))∧W.cell? ⟨hb,1,none⟩=some (.int .i64 F)∧W.cell? ⟨hb,4,none⟩=some (.int .u64 E)) (first|assumption|exact NL.out _ (HK.out _ _ (And.left ‹_›) (Off.refl _ _).drew)|exact NL.out _ (HK.out _ _ (And.left ‹_›) ‹_›)) (first|(go_at_call 153;refine(Z0.out _ (Ad _ _).drew).mono ?_;rintro e w' ⟨q,rfl,hps,hof⟩));go_wp2;go_ret;exact⟨q,rfl,hps⟩
set_option maxHeartbeats 1000000 in
theorem Wu {B:Nat}{Ps:Int→World→Prop}(h:Af w hb T b F S A E R)(hT:T∉AZ)
 (hc:∀W,Below w.heap.size w W→Calls Tryz.prog 94 #[.pointer (some ⟨b,0,none⟩),.int .i64 F,.int .i64 S,.int .i64 A] W fun e w'=>∃q:Int,e=.returned (.int .i64 q)∧Ps q w'∧Off AZ W w') :
 Calls Tryz.prog 52 #[.pointer (some ⟨hb,0,none⟩)] w fun e w'=>∃q:Int,e=.returned (.int .i64 q)∧Ps q w':=by
 have Z0:=Aa hc;have NL:Hid (∀W,Af W hb T b F S A E R→(Af W hb T b F S A E R∧W.cell? ⟨hb,0,none⟩=some (.pointer (some ⟨b,0,none⟩))∧W.cell? ⟨hb,1,none⟩=some (.int .i64 F)∧W.cell? ⟨hb,2,none⟩=some (.int .i64 S)∧W.cell? ⟨hb,3,none⟩=some (.int .i64 A))):=Aa (fun W h=>by
  obtain⟨c0,c1,c2,c3,c4⟩:=h.cells;exact⟨h,c0,c1,c2,c3⟩)
 have HK:Hid (∀W W',Af W hb T b F S A E R→Off AZ W W'→Af W' hb T b F S A E R):=Aa (fun W W' h ho=>h.off ho hT);have hS0:=NL.out w h;obtain⟨_,c0,c1,c2,c3⟩:=hS0;have hS0:=NL.out w h;clear hc h;go_enter Tryz.func52,Tryz.ntmps52;go_wp2_with fail;go_region_held3 (fun W=>Af W hb T b F S A E R∧W.cell? ⟨hb,0,none⟩=some (.pointer (some ⟨b,0,none⟩))∧W.cell? ⟨hb,1,none⟩=some (.int .i64 F)∧W.cell? ⟨hb,2,none⟩=some (.int .i64 S)∧W.cell? ⟨hb,3,none⟩=some (.int .i64 A)) (first|assumption|exact NL.out _ (HK.out _ _ (And.left ‹_›) (Off.refl _ _).drew)|exact NL.out _ (HK.out _ _ (And.left ‹_›) ‹_›)) (first|(go_at_call 94;refine(Z0.out _ (Ad _ _).drew).mono ?_;rintro e w' ⟨q,rfl,hps,hof⟩));go_wp2;go_ret;exact⟨q,rfl,hps⟩
end
def Df (S A:Nat)(s:ByteArray):Int:=if s.size<1∨60000<s.size then 4 else if S<A+(s.size+61)/62 then 11 else 0
section
variable {hb:Nat}{T:TypeId}{b F S A E:Nat}{R:List Value}{w:World}
set_option maxHeartbeats 2000000 in
theorem TJ (s:ByteArray)(h:Af w hb T b F S A E R)(hS:S≤100000)(hA:A≤100000)(hs:s.size≤9223372036854775807) :
 Calls Tryz.prog 110 #[.agg #[.pointer (some ⟨hb,0,none⟩),.string s]] w fun e w'=>e=.returned (.int .i64 (Df S A s))∧Below w.heap.size w w':=by
 obtain⟨n,hn⟩:∃n,s.size=n:=⟨_,rfl⟩;obtain⟨r,hr⟩:∃r:Int,Df S A s=r:=⟨_,rfl⟩;rw[hr];unfold Df at hr;rw[hn]at hr hs;have HR:=Aa hr;clear hr;have HH:=Aa h;clear h;obtain⟨W0,hW0⟩:∃W0,w.alloc (.cells #[.pointer (some ⟨hb,0,none⟩),.string s] 119)=W0:=⟨_,rfl⟩;have HB0:Hid (Below w.heap.size w W0):=Aa (by rw[←hW0];exact(Ad _ _).alloc (Ae _) _);have hC0:W0.heap[w.heap.size]?=some (.cells #[.pointer (some ⟨hb,0,none⟩),.string s] 119 (0,0)):=by rw[←hW0];exact Ai _ _
 have Nn:=Aa hC0;have j0:W0.cell? ⟨w.heap.size,0,none⟩=some (.pointer (some ⟨hb,0,none⟩)):=by rw[AB _ _ _ _ _ _ hC0];rfl
 have j1:W0.cell? ⟨w.heap.size,1,none⟩=some (.string s):=by rw[AB _ _ _ _ _ _ hC0];rfl
 clear hC0;by_cases h1:n<1
 · have h1z:(n:Int)<1:=by omega
   obtain rfl:r=4:=by rw[←HR.out,if_pos (Or.inl h1)]
   go_enter Tryz.func110,Tryz.ntmps110;go_wp2;go_ret;exact⟨rfl,by first|exact HB0.out|(rw[hW0];exact HB0.out)⟩
 · have h1z:¬(n:Int)<1:=by omega
   by_cases h2:60000<n
   · have h2z:(60000:Int)<(n:Int):=by omega
     obtain rfl:r=4:=by rw[←HR.out,if_pos (Or.inr h2)]
     go_enter Tryz.func110,Tryz.ntmps110;go_wp2;go_ret;exact⟨rfl,by first|exact HB0.out|(rw[hW0];exact HB0.out)⟩
   · have h2z:¬(60000:Int)<(n:Int):=by omega
     have hd2:decide ((60000:Int)<(n:Int))=false:=Bb h2z;have hd1:decide ((n:Int)<1)=false:=Bb h1z;have cF:Hid (∀W,Calls Tryz.prog 133 #[.int .i64 n] W fun e w'=>e=.returned (.int .i64 (((n+61)/62:Nat):Int))∧W=w'):=Aa (fun W=>by
      have h1:=KQ (n:Int) W (by omega);rw[GU]at h1;exact h1)
     have cR:Hid (∀W,Below w.heap.size w W→Calls Tryz.prog 89 #[.pointer (some ⟨hb,0,none⟩)] W fun e w'=>e=.returned (.int .i64 ((S:Int)-(A:Int)))∧Below W.heap.size W w'):=Aa (fun W hW=>nZ (HH.out.below hW) hS hA);have NL:Hid (∀W,Below w.heap.size w W∧W.heap[w.heap.size]?=some (.cells #[.pointer (some ⟨hb,0,none⟩),.string s] 119 (0,0))→(Below w.heap.size w W∧W.heap[w.heap.size]?=some (.cells #[.pointer (some ⟨hb,0,none⟩),.string s] 119 (0,0))∧W.cell? ⟨w.heap.size,0,none⟩=some (.pointer (some ⟨hb,0,none⟩))∧W.cell? ⟨w.heap.size,1,none⟩=some (.string s))):=Aa (fun W h=>⟨h.1,h.2,by rw[AB _ _ _ _ _ _ h.2];rfl,by rw[AB _ _ _ _ _ _ h.2];rfl⟩);have HK:Hid (∀W W',(Below w.heap.size w W∧W.heap[w.heap.size]?=some (.cells #[.pointer (some ⟨hb,0,none⟩),.string s] 119 (0,0))∧W.cell? ⟨w.heap.size,0,none⟩=some (.pointer (some ⟨hb,0,none⟩))∧W.cell? ⟨w.heap.size,1,none⟩=some (.string s))→Below W.heap.size W W'→(Below w.heap.size w W'∧W'.heap[w.heap.size]?=some (.cells #[.pointer (some ⟨hb,0,none⟩),.string s] 119 (0,0))∧W'.cell? ⟨w.heap.size,0,none⟩=some (.pointer (some ⟨hb,0,none⟩))∧W'.cell? ⟨w.heap.size,1,none⟩=some (.string s))):=Aa (fun W W' hS hbb=>NL.out W' ⟨hS.1.trans (hbb.mono hS.1.size),by rw[hbb.block _ (Ab hS.2.1)];exact hS.2.1⟩);have hS0:=NL.out W0 ⟨HB0.out,Nn.out⟩;go_enter Tryz.func110,Tryz.ntmps110;go_upto_region 3 with fail
     try rw[hW0]
     clear hW0;obtain⟨k,hk⟩:∃k,(n+61)/62=k:=⟨_,rfl⟩;have HKK:=Aa hk;rw[hk]at cF;go_region_held3 (fun W=>Below w.heap.size w W∧W.heap[w.heap.size]?=some (.cells #[.pointer (some ⟨hb,0,none⟩),.string s] 119 (0,0))∧W.cell? ⟨w.heap.size,0,none⟩=some (.pointer (some ⟨hb,0,none⟩))∧W.cell? ⟨w.heap.size,1,none⟩=some (.string s)) (first|assumption|exact HK.out _ _ ‹_› (Ad _ _).drew|exact HK.out _ _ ‹_› ‹_›) (first|(go_at_call 133;refine(cF.out _).mono ?_;rintro e w' ⟨rfl,rfl⟩)|(go_at_call 89;refine(cR.out _ (And.left ‹_›)).mono ?_;rintro e w' ⟨rfl,hbb⟩));rename_i hHeld;have GN:=Aa hHeld.1;clear hHeld hS0 j0 j1 hbb;by_cases hkz:S<A+k
     · have hlt:((S:Int)-(A:Int))<(k:Int):=by omega
       have hdl:decide (((S:Int)-(A:Int))<(k:Int))=true:=A8 hlt;obtain rfl:r=11:=by rw[←HR.out,if_neg (by omega),HKK.out,if_pos hkz]
       go_wp2;go_ret;exact⟨rfl,GN.out⟩
     · have hlt:¬((S:Int)-(A:Int))<(k:Int):=by omega
       have hdl:decide (((S:Int)-(A:Int))<(k:Int))=false:=Bb hlt;obtain rfl:r=0:=by rw[←HR.out,if_neg (by omega),HKK.out,if_neg hkz]
       go_wp2;go_ret;exact⟨rfl,GN.out⟩
set_option maxHeartbeats 2000000 in
theorem TL (s:ByteArray){Ps:Nat→Int→World→Prop}(h:Af w hb T b F S A E R)(hT:T∉AZ)
 (hc:∀W,Below w.heap.size w W→Calls Tryz.prog 95 #[.pointer (some ⟨b,0,none⟩),.int .i64 F,.int .i64 S,.int .i64 A,.string s] W fun e w'=>∃(x:Nat) (q:Int),e=.returned (.tuple #[.int .i64 x,.int .i64 q])∧Ps x q w'∧Off AZ W w') :
 Calls Tryz.prog 54 #[.agg #[.pointer (some ⟨hb,0,none⟩),.string s]] w fun e w'=>∃(x:Nat) (q:Int) (w1:World),e=.returned (.int .i64 q)∧Ps x q w1∧Af w1 hb T b F S A E R∧(q=0∧w'=w1.setCell ⟨hb,3,none⟩ (.int .i64 x)∨q≠0∧w'=w1):=by
 have Z0:=Aa hc;have HH:=Aa h;have Z7:=Aa hT;clear h hc hT;obtain⟨W0,hW0⟩:∃W0,w.alloc (.cells #[.pointer (some ⟨hb,0,none⟩),.string s] 119)=W0:=⟨_,rfl⟩;have HB0:Hid (Below w.heap.size w W0):=Aa (by rw[←hW0];exact(Ad _ _).alloc (Ae _) _);have hC0:W0.heap[w.heap.size]?=some (.cells #[.pointer (some ⟨hb,0,none⟩),.string s] 119 (0,0)):=by rw[←hW0];exact Ai _ _
 have Nn:=Aa hC0;have j0:W0.cell? ⟨w.heap.size,0,none⟩=some (.pointer (some ⟨hb,0,none⟩)):=by rw[AB _ _ _ _ _ _ hC0];rfl
 clear hC0;have NL:Hid (∀W,Af W hb T b F S A E R∧W.heap[w.heap.size]?=some (.cells #[.pointer (some ⟨hb,0,none⟩),.string s] 119 (0,0))→(Af W hb T b F S A E R∧W.heap[w.heap.size]?=some (.cells #[.pointer (some ⟨hb,0,none⟩),.string s] 119 (0,0))∧W.cell? ⟨hb,0,none⟩=some (.pointer (some ⟨b,0,none⟩))∧W.cell? ⟨hb,1,none⟩=some (.int .i64 F)∧W.cell? ⟨hb,2,none⟩=some (.int .i64 S)∧W.cell? ⟨hb,3,none⟩=some (.int .i64 A)∧W.cell? ⟨w.heap.size,1,none⟩=some (.string s))):=Aa (fun W h=>by
  obtain⟨c0,c1,c2,c3,c4⟩:=h.1.cells;exact⟨h.1,h.2,c0,c1,c2,c3,by rw[AB _ _ _ _ _ _ h.2];rfl⟩)
 have HK:Hid (∀W W',(Af W hb T b F S A E R∧W.heap[w.heap.size]?=some (.cells #[.pointer (some ⟨hb,0,none⟩),.string s] 119 (0,0))∧W.cell? ⟨hb,0,none⟩=some (.pointer (some ⟨b,0,none⟩))∧W.cell? ⟨hb,1,none⟩=some (.int .i64 F)∧W.cell? ⟨hb,2,none⟩=some (.int .i64 S)∧W.cell? ⟨hb,3,none⟩=some (.int .i64 A)∧W.cell? ⟨w.heap.size,1,none⟩=some (.string s))→Off AZ W W'→(Af W' hb T b F S A E R∧W'.heap[w.heap.size]?=some (.cells #[.pointer (some ⟨hb,0,none⟩),.string s] 119 (0,0))∧W'.cell? ⟨hb,0,none⟩=some (.pointer (some ⟨b,0,none⟩))∧W'.cell? ⟨hb,1,none⟩=some (.int .i64 F)∧W'.cell? ⟨hb,2,none⟩=some (.int .i64 S)∧W'.cell? ⟨hb,3,none⟩=some (.int .i64 A)∧W'.cell? ⟨w.heap.size,1,none⟩=some (.string s))):=Aa (fun W W' hS ho=>NL.out W' ⟨hS.1.off ho Z7.out,ho _ (by decide) _ _ _ hS.2.1⟩);have hS0:=NL.out W0 ⟨HH.out.below HB0.out,Nn.out⟩;go_enter Tryz.func54,Tryz.ntmps54;go_upto_region 2 with fail
 try rw[hW0]
 clear hW0;go_region_held3 (fun W=>Af W hb T b F S A E R∧W.heap[w.heap.size]?=some (.cells #[.pointer (some ⟨hb,0,none⟩),.string s] 119 (0,0))∧W.cell? ⟨hb,0,none⟩=some (.pointer (some ⟨b,0,none⟩))∧W.cell? ⟨hb,1,none⟩=some (.int .i64 F)∧W.cell? ⟨hb,2,none⟩=some (.int .i64 S)∧W.cell? ⟨hb,3,none⟩=some (.int .i64 A)∧W.cell? ⟨w.heap.size,1,none⟩=some (.string s)) (first|assumption|exact HK.out _ _ ‹_› (Off.refl _ _).drew|exact HK.out _ _ ‹_› ‹_›) (first|(go_at_call 95;refine(Z0.out _ HB0.out.drew).mono ?_;rintro e w1 ⟨x,q,rfl,hps,hof⟩));rename_i hHeld;have HPS:=Aa hps;have zw:=Aa hHeld.1;have k3:=hHeld.2.2.2.2.2.1;have f3:=hHeld.1.frozen 3;clear hHeld hS0 hps hof j0;by_cases hq:q=0
 · subst hq;go_wp2;go_ret;exact⟨x,0,_,rfl,HPS.out,zw.out,Or.inl ⟨rfl,rfl⟩⟩
 · have hqz:(q==0)=false:=by simpa using hq
   go_wp2;go_ret;exact⟨x,q,_,rfl,HPS.out,zw.out,Or.inr ⟨hq,rfl⟩⟩
end
theorem OV {P:Program}{fn:Func}{p u:Tmp}{ty:TypeId}(h:fn.results=#[.cell p ty,.cell u ty])(tmps:Array Value)(w:World)(g g2:Nat)(t t2:TypeId)(cs cs2:Array Value)(fr fr2:Nat×Nat)(d:TypeDesc)
 (hp:tmps.getD p undef=.pointer (some ⟨g,0,none⟩)) (hp2:tmps.getD u undef=.pointer (some ⟨g2,0,none⟩)) (hg:w.heap[g]?=some (.cells cs t fr)) (hg2:w.heap[g2]?=some (.cells cs2 t2 fr2))
 (hu:P.underlying ty=some d) (hd:(match d with | .struct _ | .array _ _=>true | _=>false)=true) (hi:(P.info? ty).map (·.size)=some cs.size) (hi2:(P.info? ty).map (·.size)=some cs2.size) :
 (results fn tmps).run P w=.ok (.tuple #[.agg cs,.agg cs2]) w:=by
 have hp':tmps[p]?.getD undef=.pointer (some ⟨g,0,none⟩):=by simpa using hp
 have Acl:tmps[u]?.getD undef=.pointer (some ⟨g2,0,none⟩):=by simpa using hp2
 simp[results,h,hp',Acl,asAddr,run_loadVar_row w g t ty cs fr d hg hu hd hi,run_loadVar_row w g2 t2 ty cs2 fr2 d hg2 hu hd hi2,Sem.run_bind,Result.andThen]
theorem MB:(Tryz.prog.info? 82).map (·.size)=some 5:=by kernel_rfl
section
variable {hb:Nat}{T:TypeId}{b F S A E:Nat}{R:List Value}{w:World}
def Y1 (b F S A E:Nat):Value:=.agg #[.pointer (some ⟨b,0,none⟩),.int .i64 F,.int .i64 S,.int .i64 A,.int .u64 E]
set_option maxHeartbeats 2000000 in
theorem Zc (b n cap:Nat)(a:Option Addr)(w:World)(h0:w.cell? ⟨b,0,none⟩=some (.slice a n cap))(hn:n≤100000) :
 Calls Tryz.prog 45 #[.pointer (some ⟨b,0,none⟩)] w fun e w'=>e=.returned (.tuple #[Y1 b 0 (n/2) 1 0,Y1 b (n/2) (n/2) 1 0])∧Below w.heap.size w w':=by
 unfold Y1;obtain⟨h,hh⟩:∃h,n/2=h:=⟨_,rfl⟩;have hq1:(n:Int).tdiv 2=(h:Int):=by rw[Int.tdiv_eq_ediv_of_nonneg (by omega)];omega
 have hq2:(n:Int)/2=(h:Int):=by omega
 have hqw:IntKind.i64.wrap (h:Int)=(h:Int):=by rw[El];omega
 rw[hh];have cS:Hid (∀W,Below w.heap.size w W→Calls Tryz.prog 90 #[.pointer (some ⟨b,0,none⟩)] W fun e w'=>e=.returned (.int .i64 n)∧W=w'):=Aa (fun W hW=>aO b n cap a W (by
  have hb:b<w.heap.size:=by
   rcases Nat.lt_or_ge b w.heap.size with h|h
   · exact h
   · simp[World.cell?,Array.getElem?_eq_none h]at h0
  rw[hW.cell (p:=⟨b,0,none⟩) hb];exact h0))
 clear hh;go_enter Tryz.func45,Tryz.ntmps45;go_wp2_with fail;refine(cS.out _ (((Ad _ _).alloc (Ae _) _).alloc (by simp) _)).mono ?_;rintro e w1 ⟨rfl,rfl⟩;go_wp2;refine Bv (OV (cs:=#[.pointer (some ⟨b,0,none⟩),.int .i64 0,.int .i64 h,.int .i64 1,.int .u64 0]) (cs2:=#[.pointer (some ⟨b,0,none⟩),.int .i64 h,.int .i64 h,.int .i64 1,.int .u64 0]) rfl _ _ _ _ _ _ _ _ _ rfl rfl (by rw[Ct _ _ _ (by simp)];exact Ai _ _) (heap_alloc2_new _ _ _) Tryz.underlying82 rfl MB MB) rfl ⟨rfl,((Ad _ _).alloc (Ae _) _).alloc (by simp) _⟩
theorem IZ (w:World)(A B C:Obj):(((w.alloc A).alloc B).alloc C).heap[w.heap.size+1+1]?=some C:=by
 have h:=Ai ((w.alloc A).alloc B) C;simpa using h
set_option maxHeartbeats 2000000 in
theorem wy (b F1 S1 A1 E1 F2 S2 A2 E2:Nat)(w:World) :
 Calls Tryz.prog 49 #[Y1 b F1 S1 A1 E1,Y1 b F2 S2 A2 E2] w fun e w'=>e=.returned (if E1<E2 then Y1 b F2 S2 A2 E2 else Y1 b F1 S1 A1 E1)∧Below w.heap.size w w':=by
 by_cases hE:E1<E2
 · have hEz:(E1:Int)<(E2:Int):=by omega
   rw[if_pos hE];unfold Y1;clear hE;go_enter Tryz.func49,Tryz.ntmps49;go_wp2;refine Bv (results_cell_row Tryz.results49 _ _ _ _ _ _ _ rfl (IZ _ _ _ _) Tryz.underlying82 rfl MB) rfl ⟨rfl,(((Ad _ _).alloc (Ae _) _).alloc (by simp) _).alloc (by simp;omega) _⟩
 · have hEz:¬(E1:Int)<(E2:Int):=by omega
   rw[if_neg hE];unfold Y1;clear hE;go_enter Tryz.func49,Tryz.ntmps49;go_wp2;refine Bv (results_cell_row Tryz.results49 _ _ _ _ _ _ _ rfl (IZ _ _ _ _) Tryz.underlying82 rfl MB) rfl ⟨rfl,(((Ad _ _).alloc (Ae _) _).alloc (by simp) _).alloc (by simp;omega) _⟩
set_option maxHeartbeats 2000000 in
theorem vV (h:Af w hb T b F S A E R)(hFS:F≤S)(hS:S≤100000)(hE:E+1<18446744073709551616) :
 Calls Tryz.prog 157 #[.pointer (some ⟨hb,0,none⟩)] w fun e w'=>e=.returned (Y1 b (S-F) S 1 (E+1))∧Below w.heap.size w w':=by
 obtain⟨F2,hF2⟩:∃F2,S-F=F2:=⟨_,rfl⟩;rw[hF2];unfold Y1;have hw:IntKind.i64.wrap ((S:Int)-(F:Int))=(F2:Int):=by rw[El];omega
 have hw2:IntKind.u64.wrap ((E:Int)+1)=((E+1:Nat):Int):=by rw[IntKind.wrap_u64];omega
 obtain⟨W0,hW0⟩:∃W0,w.alloc (.cells #[.pointer none,.int .i64 0,.int .i64 0,.int .i64 0,.int .u64 0] 82)=W0:=⟨_,rfl⟩;have hb0:Below w.heap.size w W0:=by rw[←hW0];exact(Ad _ _).alloc (Ae _) _
 have hC0:W0.heap[w.heap.size]?=some (.cells #[.pointer none,.int .i64 0,.int .i64 0,.int .i64 0,.int .u64 0] 82 (0,0)):=by rw[←hW0];exact Ai _ _
 have HB0:=Aa hb0;have Nn:=Aa hC0;obtain⟨c0,c1,c2,c3,c4⟩:=(h.below hb0).cells;clear h hF2 hFS hb0 hC0;go_enter Tryz.func157,Tryz.ntmps157;go_upto_region 1 with fail
 try rw[hW0]
 go_still_tail 22,(by kernel_rfl);change wpList _ _ _ _ _ W0.drew;have hB2:Below w.heap.size w W0.drew:=HB0.out.drew;have hC2:W0.drew.heap[w.heap.size]?=some (.cells #[.pointer none,.int .i64 0,.int .i64 0,.int .i64 0,.int .u64 0] 82 (0,0)):=Nn.out;clear hW0 c0 c1 c2 c3 c4;generalize W0.drew=w2 at *;have HB2:=Aa hB2;have HC2:=Aa hC2;have d0:w2.cell? ⟨w.heap.size,0,none⟩=some (.pointer none):=by rw[AB _ _ _ _ _ _ hC2];rfl
 have d1:w2.cell? ⟨w.heap.size,1,none⟩=some (.int .i64 0):=by rw[AB _ _ _ _ _ _ hC2];rfl
 have d2:w2.cell? ⟨w.heap.size,2,none⟩=some (.int .i64 0):=by rw[AB _ _ _ _ _ _ hC2];rfl
 have d3:w2.cell? ⟨w.heap.size,3,none⟩=some (.int .i64 0):=by rw[AB _ _ _ _ _ _ hC2];rfl
 have d4:w2.cell? ⟨w.heap.size,4,none⟩=some (.int .u64 0):=by rw[AB _ _ _ _ _ _ hC2];rfl
 have z0:w2.frozen? ⟨w.heap.size,0,none⟩=false:=Fp _ _ _ _ _ hC2;have z1:w2.frozen? ⟨w.heap.size,1,none⟩=false:=Fp _ _ _ _ _ hC2;have z2:w2.frozen? ⟨w.heap.size,2,none⟩=false:=Fp _ _ _ _ _ hC2;have z3:w2.frozen? ⟨w.heap.size,3,none⟩=false:=Fp _ _ _ _ _ hC2;have z4:w2.frozen? ⟨w.heap.size,4,none⟩=false:=Fp _ _ _ _ _ hC2;clear hB2 hC2;go_wp2;refine Bv (results_cell_row (cs:=#[.pointer (some ⟨b,0,none⟩),.int .i64 F2,.int .i64 S,.int .i64 1,.int .u64 ((E:Int)+1)]) Tryz.results157 _ _ _ _ _ _ rfl (Cm w.heap.size 82 [.pointer (some ⟨b,0,none⟩),.int .i64 F2,.int .i64 S,.int .i64 1,.int .u64 ((E:Int)+1)] 0 w2 [.pointer none,.int .i64 0,.int .i64 0,.int .i64 0,.int .u64 0] HC2.out (by simp)) Tryz.underlying82 rfl MB) rfl ⟨rfl,Below.setCells HB2.out (Ae _) 0 [.pointer (some ⟨b,0,none⟩),.int .i64 F2,.int .i64 S,.int .i64 1,.int .u64 ((E:Int)+1)]⟩
set_option maxHeartbeats 2000000 in
theorem QC {Ps:Nat→Int→World→Prop}(h:Af w hb T b F S A E R)
 (hc:∀W,Below w.heap.size w W→Calls Tryz.prog 92 #[.pointer (some ⟨b,0,none⟩),.int .i64 F] W fun e w'=>∃(N:Nat) (q:Int),e=.returned (.tuple #[.int .u64 N,.int .i64 q])∧Ps N q w'∧Below W.heap.size W w') :
 Calls Tryz.prog 48 #[.pointer (some ⟨hb,0,none⟩)] w fun e w'=>∃(N:Nat) (q:Int) (w1:World),e=.returned (.int .i64 q)∧Ps N q w1∧Af w1 hb T b F S A E R∧Below w.heap.size w w1∧w'=w1.setCell ⟨hb,4,none⟩ (.int .u64 N):=by
 have Z0:=Aa hc;have HH:=Aa h;have NL:Hid (∀W,Below w.heap.size w W→(Below w.heap.size w W∧W.cell? ⟨hb,0,none⟩=some (.pointer (some ⟨b,0,none⟩))∧W.cell? ⟨hb,1,none⟩=some (.int .i64 F))):=Aa (fun W hW=>⟨hW,(HH.out.below hW).cells.1,(HH.out.below hW).cells.2.1⟩);have hS0:=NL.out w (Ad _ _);obtain⟨_,c0,c1⟩:=hS0;have HK:Hid (∀W W',(Below w.heap.size w W∧W.cell? ⟨hb,0,none⟩=some (.pointer (some ⟨b,0,none⟩))∧W.cell? ⟨hb,1,none⟩=some (.int .i64 F))→Below W.heap.size W W'→(Below w.heap.size w W'∧W'.cell? ⟨hb,0,none⟩=some (.pointer (some ⟨b,0,none⟩))∧W'.cell? ⟨hb,1,none⟩=some (.int .i64 F))):=Aa (fun W W' hS hbb=>NL.out W' (hS.1.trans (hbb.mono hS.1.size)));have hS0:=NL.out w (Ad _ _);clear hc h;go_enter Tryz.func48,Tryz.ntmps48;go_wp2_with fail;go_region_held3 (fun W=>Below w.heap.size w W∧W.cell? ⟨hb,0,none⟩=some (.pointer (some ⟨b,0,none⟩))∧W.cell? ⟨hb,1,none⟩=some (.int .i64 F)) (first|assumption|exact HK.out _ _ ‹_› (Ad _ _).drew|exact HK.out _ _ ‹_› ‹_›) (first|(go_at_call 92;refine(Z0.out _ (And.left ‹_›)).mono ?_;rintro e w1 ⟨N,q,rfl,hps,hof⟩));rename_i hHeld;have HPS:=Aa hps;have HB1:=Aa hHeld.1;have hH1:=HH.out.below HB1.out;have yh:=Aa hH1;have k4:=hH1.cells.2.2.2.2;have f4:=hH1.frozen 4;clear hHeld hS0 hps hof c0 c1 hH1;go_wp2;go_ret;exact⟨N,q,w1,rfl,HPS.out,yh.out,HB1.out,rfl⟩
set_option maxHeartbeats 2000000 in
theorem jb (h:Af w hb T b F S A 0 R) :
 Calls Tryz.prog 93 #[.pointer (some ⟨hb,0,none⟩)] w fun e w'=>e=.returned (.tuple #[.slice none 0 0,.int .i64 2])∧w=w':=by
 obtain⟨c0,c1,c2,c3,c4⟩:=h.cells;clear h;go_enter Tryz.func93,Tryz.ntmps93;go_wp2;go_ret2;exact⟨rfl,rfl⟩
set_option maxHeartbeats 2000000 in
theorem jd {Ps:Option Addr→Nat→Nat→Nat→World→Prop}(h:Af w hb T b F S A E R)(hE:E≠0)
 (hc:∀W,Below w.heap.size w W→Calls Tryz.prog 129 #[.pointer (some ⟨b,0,none⟩),.int .i64 F,.int .i64 S] W fun e w'=>∃a m cap x,e=.returned (.tuple #[.slice a m cap,.int .i64 (x:Nat),.int .i64 0])∧Ps a m cap x w'∧Below W.heap.size W w') :
 Calls Tryz.prog 93 #[.pointer (some ⟨hb,0,none⟩)] w fun e w'=>∃a m cap x w1,Ps a m cap x w1∧Af w1 hb T b F S A E R∧Below w.heap.size w w1∧(m=0∧e=.returned (.tuple #[.slice none 0 0,.int .i64 2])∧w'=w1∨0<m∧e=.returned (.tuple #[.slice a m cap,.int .i64 0])∧w'=w1.setCell ⟨hb,3,none⟩ (.int .i64 (x:Nat))):=by
 have Z0:=Aa hc;have HH:=Aa h;have NL:Hid (∀W,Below w.heap.size w W→(Below w.heap.size w W∧W.cell? ⟨hb,0,none⟩=some (.pointer (some ⟨b,0,none⟩))∧W.cell? ⟨hb,1,none⟩=some (.int .i64 F)∧W.cell? ⟨hb,2,none⟩=some (.int .i64 S))):=Aa (fun W hW=>⟨hW,(HH.out.below hW).cells.1,(HH.out.below hW).cells.2.1,(HH.out.below hW).cells.2.2.1⟩);have hS0:=NL.out w (Ad _ _);obtain⟨_,c0,c1,c2⟩:=hS0;have HK:Hid (∀W W',(Below w.heap.size w W∧W.cell? ⟨hb,0,none⟩=some (.pointer (some ⟨b,0,none⟩))∧W.cell? ⟨hb,1,none⟩=some (.int .i64 F)∧W.cell? ⟨hb,2,none⟩=some (.int .i64 S))→Below W.heap.size W W'→(Below w.heap.size w W'∧W'.cell? ⟨hb,0,none⟩=some (.pointer (some ⟨b,0,none⟩))∧W'.cell? ⟨hb,1,none⟩=some (.int .i64 F)∧W'.cell? ⟨hb,2,none⟩=some (.int .i64 S))):=Aa (fun W W' hS hbb=>NL.out W' (hS.1.trans (hbb.mono hS.1.size)));have hS0:=NL.out w (Ad _ _);have c4:=h.cells.2.2.2.2;have hEz:((E:Int)==0)=false:=by rw[Ba];omega
 clear hc h hE;go_enter Tryz.func93,Tryz.ntmps93;go_wp2_with fail;go_region_held3 (fun W=>Below w.heap.size w W∧W.cell? ⟨hb,0,none⟩=some (.pointer (some ⟨b,0,none⟩))∧W.cell? ⟨hb,1,none⟩=some (.int .i64 F)∧W.cell? ⟨hb,2,none⟩=some (.int .i64 S)) (first|assumption|exact HK.out _ _ ‹_› (Ad _ _).drew|exact HK.out _ _ ‹_› ‹_›) (first|(go_at_call 129;refine(Z0.out _ (And.left ‹_›)).mono ?_;rintro e w1 ⟨a,m,cap,x,rfl,hps,hof⟩));rename_i hHeld;have HPS:=Aa hps;have HB1:=Aa hHeld.1;have hH1:=HH.out.below HB1.out;have yh:=Aa hH1;have k3:=hH1.cells.2.2.2.1;have f3:=hH1.frozen 3;clear hHeld hS0 hps hof c0 c1 c2 c4 hH1;by_cases hm:m=0
 · subst hm;go_wp2;go_ret2;exact⟨a,0,cap,x,w1,HPS.out,yh.out,HB1.out,Or.inl ⟨rfl,rfl,rfl⟩⟩
 · have hmz:((m:Int)==0)=false:=by rw[Ba];omega
   have hm2:0<m:=by omega
   go_wp2;go_ret2;exact⟨a,m,cap,x,w1,HPS.out,yh.out,HB1.out,Or.inr ⟨by omega,rfl,rfl⟩⟩
end
abbrev Ay (w:World)(vb b F S A E:Nat)(img:ByteArray)(rv:Value)(op:Bool):Prop:=Af w vb 84 b F S A E [.string img,rv,.bool op]
section
variable {vb b F S A E:Nat}{img:ByteArray}{rv:Value}{op:Bool}{w:World}
theorem Ay.more (h:Ay w vb b F S A E img rv op):w.cell? ⟨vb,5,none⟩=some (.string img)∧w.cell? ⟨vb,6,none⟩=some rv∧w.cell? ⟨vb,7,none⟩=some (.bool op):=by
 refine⟨?_,?_,?_⟩<;>(rw[AB w vb _ _ _ _ h];rfl)
theorem Ay.Il (h:Ay w vb b F S A E img rv op)(x:Bool):Ay (w.setCell ⟨vb,7,none⟩ (.bool x)) vb b F S A E img rv x:=by
 unfold Ay Af;rw[Bn w vb 7 _ _ _ h];simp[Xl]
theorem Ay.zQ (h:Ay w vb b F S A E img rv op)(x:ByteArray):Ay (w.setCell ⟨vb,5,none⟩ (.string x)) vb b F S A E x rv op:=by
 unfold Ay Af;rw[Bn w vb 5 _ _ _ h];simp[Xl]
theorem Ay.WH (h:Ay w vb b F S A E img rv op)(x:Value):Ay (w.setCell ⟨vb,6,none⟩ x) vb b F S A E img x op:=by
 unfold Ay Af;rw[Bn w vb 6 _ _ _ h];simp[Xl]
set_option maxHeartbeats 1000000 in
theorem wS (h:Ay w vb b F S A E img rv op):Calls Tryz.prog 62 #[.pointer (some ⟨vb,0,none⟩)] w fun e w'=>e=.returned (.string img)∧w=w':=by
 obtain⟨c5,c6,c7⟩:=h.more;clear h;go_enter Tryz.func62,Tryz.ntmps62;go_wp2;go_ret;exact⟨rfl,rfl⟩
set_option maxHeartbeats 1000000 in
theorem OT (s:ByteArray)(w:World)(hs:s.size≤281474976710656):Calls Tryz.prog 55 #[.string s] w fun e w'=>e=.returned (.string s)∧Below w.heap.size w w':=by
 have cC:=Tryz.stringslite_Clone s w hs;go_enter Tryz.func55,Tryz.ntmps55;go_wp2_with fail;refine cC.mono ?_;rintro e w1 ⟨rfl,hb⟩;have HB:=Aa hb;clear hb cC;go_wp2;go_ret;exact⟨rfl,HB.out⟩
def CX (B:Nat)(w:World)(v:Value)(l:List ByteArray):Prop:=
 (l=[]∧v=.slice none 0 0)∨∃g off cap cur,v=.slice (some ⟨g,off,none⟩) l.length cap∧B≤g∧l.length≤cap∧cap≤maxLen∧w.heap[g]?=some (.cells cur 9 (0,0))∧off+cap≤cur.size∧∀j s,l[j]?=some s→cur[off+j]?=some (.string s)
theorem CX.strs {B:Nat}{v:Value}{l:List ByteArray}(h:CX B w v l):Eo w v l:=by
 rcases h with⟨rfl,rfl⟩|⟨g,off,cap,cur,rfl,_,_,_,hg,hc,hj⟩
 · exact Or.inl ⟨rfl,none,0,rfl⟩
 · exact Or.inr ⟨g,off,cap,Ab hg,rfl,fun j s hs=>by rw[AB w g _ _ _ _ hg];exact hj j s hs⟩
set_option maxHeartbeats 1000000 in
theorem jm {B:Nat}{l:List ByteArray}(h:Ay w vb b F S A E img rv op)(hl:CX B w rv l)(hn:l.length≤100000):Calls Tryz.prog 63 #[.pointer (some ⟨vb,0,none⟩)] w fun e w'=>∃v,e=.returned v∧w'.ownsRow w.heap.size 9 1 v l.length (l.map Value.string)∧Below w.heap.size w w':=by
 obtain⟨c5,c6,c7⟩:=h.more;have cC:Calls Tryz.prog 106 #[rv] w fun e w'=>∃v,e=.returned v∧w'.ownsRow w.heap.size 9 1 v l.length (l.map Value.string)∧Below w.heap.size w w':=by
  rcases hl with⟨rfl,rfl⟩|⟨g,off,cap,cur,rfl,_,_,_,hg,hc,hj⟩
  · refine(Tryz.slices_Clone_string_nil 0 0 w).mono ?_;rintro e w' ⟨rfl,rfl⟩;exact⟨_,rfl,FV _ _ _ _,Ad _ _⟩
  · refine(Tryz.slices_Clone_string g off l.length cap l w (Ae _) (by omega) (fun j hj2=>?_)).mono ?_
    · rw[AB w g _ _ _ _ hg,hj j _ (Co hj2),Gi,Co hj2];rfl
    · rintro e w' ⟨v,rfl,h1,_,h2⟩;rw[List.take_length]at h1;exact⟨v,rfl,h1,h2⟩
 obtain⟨a,n,cap,rfl⟩:∃a n cap,rv=.slice a n cap:=by
  rcases hl with⟨_,rfl⟩|⟨g,off,cap,cur,rfl,_⟩
  · exact⟨_,_,_,rfl⟩
  · exact⟨_,_,_,rfl⟩
 clear h hl;go_enter Tryz.func63,Tryz.ntmps63;go_wp2_with fail;refine cC.mono ?_;rintro e w1 ⟨v,rfl,hown,hb⟩;have HB:=Aa hb;have HO:=Aa hown;obtain⟨a2,n2,cap2,rfl⟩:∃a n cap,v=.slice a n cap:=by
  rcases hown.2 with⟨h1,_⟩|⟨g,cap,cur,h1,_⟩
  · exact⟨_,_,_,h1⟩
  · exact⟨_,_,_,h1⟩
 clear hb hown cC;go_wp2;go_ret;exact⟨_,rfl,HO.out,HB.out⟩
set_option maxHeartbeats 1000000 in
theorem rM (g n:Nat)(ks:List (Nat×Value))(I:Nat→World→Prop)(Q:Int→World→Prop)(h:Ay w vb b F S A E img rv true)(hn:ks.length=n)(xe:n≤1000)(hc:∀k∈ks,Fg k.1)(h0:I 0 w)(hg:∀i W,I i W→Hr W g ks)
 (hs:∀i k W,ks[i]?=some k→I i W→Calls Tryz.prog k.1 #[k.2] W fun e w'=>∃q:Int,e=.returned (.int .i64 q)∧(q=0∧I (i+1) w'∨q≠0∧Q q w'))
 (hV:∀q W,(q=0∧I n W∨q≠0∧Q q W)→∃b F S A E img rv op,Ay W vb b F S A E img rv op) :
 Calls Tryz.prog 50 #[.pointer (some ⟨vb,0,none⟩),.slice (some ⟨g,0,none⟩) n n] w fun e w'=>∃(q:Int) (w1:World),e=.returned (.int .i64 q)∧(q=0∧I n w1∨q≠0∧Q q w1)∧w'=w1.setCell ⟨vb,7,none⟩ (.bool (decide (q≠13))):=by
 obtain⟨c5,c6,c7⟩:=h.more;have cO:=Na g n ks w I Q hn xe hc h0 hg hs;unfold Nh at cO;have HV:=Aa hV;clear h hs hg hc h0 hV hn;go_enter Tryz.func50,Tryz.ntmps50;go_wp2_with fail;refine cO.mono ?_;rintro e w1 ⟨q,rfl,hq⟩;have HQ:=Aa hq;obtain⟨b',F',S',A',E',LV,rv',op',hv'⟩:=HV.out q w1 hq;have k7:=hv'.more.2.2;have f7:=hv'.frozen 7;clear hq hv' cO c5 c6 c7;by_cases MC:q=13
 · subst MC;go_wp2;go_ret;exact⟨13,w1,rfl,HQ.out,by simp⟩
 · have hqz:(q==13)=false:=by simpa using MC
   go_wp2;go_ret;exact⟨q,w1,rfl,HQ.out,by simp[MC,bne,hqz]⟩
end
end Go.Proofs.YtdmkhmeaphaapaaGreat.V
