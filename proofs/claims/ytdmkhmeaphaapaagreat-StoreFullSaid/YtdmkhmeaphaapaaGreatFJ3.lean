/- Kit. -/
import Derived.Test.YtdmkhmeaphaapaaGreatFJ2
import Derived.Test.YtdmkhmeaphaapaaGreatFJ1
import Derived.ArgAppend
import Derived.Deep.RegionLaw
set_option maxRecDepth 100000
namespace Go.Proofs.YtdmkhmeaphaapaaGreat.V
open Go.RowKit Go.Sort
set_option linter.unusedVariables false
theorem openI_gone {st:St}(F S:Int)(h:goneB st=true):openI st F S=13:=by
  unfold openI;rw[ask_gone h,if_neg (by decide)]
def HdP (B b:Nat)(st:St)(F N:Nat)(q:Int)(w':World):Prop:=(q=13∧goneB st=true∧Dev B w' b st)∨(q=0∧goneB st=false∧Dev B w' b (putSt st F (headB N)))
def FlP (B b:Nat)(st:St)(q:Int)(w':World):Prop:=(q=13∧goneB st=true∧Dev B w' b st)∨(q=0∧goneB st=false∧Dev B w' b (flushSt st))
def WpP (B b:Nat)(st:St)(F A h:Nat)(q:Int)(w':World):Prop:=(q=13∧goneB st=true∧Dev B w' b st)∨(∃j,j≤h-A∧(q=0∧j=h-A∨q=13∧goneB (wipesSt st (F+A) j)=true)∧RunsW st (F+A) j∧Dev B w' b (wipesSt st (F+A) j))
def WrP (B b:Nat)(st:St)(F A h:Nat)(s:ByteArray)(x:Nat)(q:Int)(w':World):Prop:=
  (q=13∧goneB st=true∧Dev B w' b st)∨(q≠0∧q≠13∧goneB st=false∧fitsI h A s=q∧Dev B w' b st) ∨
  (fitsI h A s=0∧∃j,j≤(s.size+61)/62∧(q=0∧j=(s.size+61)/62∧x=A+(s.size+61)/62∨q=13∧goneB (putsSt st (F+A) ((framesL s).take j))=true)∧Runs st (F+A) ((framesL s).take j)∧Dev B w' b (putsSt st (F+A) ((framesL s).take j)))
theorem fits_ok {S A:Nat}{s:ByteArray}(h:fitsI S A s=0):1≤s.size∧s.size≤60000∧A+(s.size+61)/62≤S:=by
  unfold fitsI at h;split at h
  · cases h
  · split at h
    · cases h
    · omega
theorem fits_num (S A:Nat)(s:ByteArray):fitsI S A s=0∨fitsI S A s=4∨fitsI S A s=11:=by
  unfold fitsI;split
  · simp
  · split<;>simp
section
variable {B b F A h N:Nat}{st:St}{w:World}
theorem sethead_c (hd:Dev B w b st)(hg:Good st)(hF:F<st.now.length)(hp:st.pend.length≤1000)(hB:B≤w.heap.size)(hN:N<18446744073709551616) :
    Calls Tryz.prog 153 #[.pointer (some ⟨b,0,none⟩),.int .i64 F,.int .u64 N] w fun e w'=>∃q:Int,e=.returned (.int .i64 q)∧(HdP B b st F N q w'∧Below B w w'∧Off devTs w w')∧Off devTs w w':=by
  cases hgo:goneB st
  · refine(setEpoch_any B b st F N w hd hg hgo hF hp hB hN).mono ?_;rintro e w' ⟨rfl,h1,h2,h3⟩;exact⟨0,rfl,⟨Or.inr ⟨rfl,hgo,h1⟩,h2,h3⟩,h3⟩
  · refine(setEpoch_gone B b st F N w hd hg hgo hp hB hN).mono ?_;rintro e w' ⟨rfl,h1,h2,h3⟩;exact⟨13,rfl,⟨Or.inl ⟨rfl,hgo,h1⟩,h2,h3⟩,h3⟩
theorem flushq_c (hd:Dev B w b st)(hg:Good st)(hp:st.pend.length≤1000)(hB:B≤w.heap.size) :
    Calls Tryz.prog 53 #[.pointer (some ⟨b,0,none⟩)] w fun e w'=>∃q:Int,e=.returned (.int .i64 q)∧FlP B b st q w'∧Below B w w'∧Off devTs w w':=by
  refine(flush_c B b st w hd hg (by omega) hB).mono ?_;rintro e w' ⟨rfl,h1,h2,h3⟩;cases hgo:goneB st
  · rw[hgo,if_neg (by decide)]at h1;exact⟨0,by simp,Or.inr ⟨rfl,hgo,h1⟩,h2,h3⟩
  · rw[hgo,if_pos rfl]at h1;exact⟨13,by simp,Or.inl ⟨rfl,hgo,h1⟩,h2,h3⟩
theorem wipeq_c (hd:Dev B w b st)(hg:Good st)(hF:F+h≤st.now.length)(h1:1≤h)(hA:1≤A)(hA2:A≤100000)(hp:st.pend.length+h≤1000)(hB:B≤w.heap.size) :
    Calls Tryz.prog 94 #[.pointer (some ⟨b,0,none⟩),.int .i64 F,.int .i64 h,.int .i64 A] w fun e w'=>∃q:Int,e=.returned (.int .i64 q)∧(WpP B b st F A h q w'∧Below B w w'∧Off devTs w w')∧Off devTs w w':=by
  cases hgo:goneB st
  · refine(wipe_any B b st F h A A w hd hg (openI_ok hgo h1 hF) hF (by omega) (by omega) hp hB).mono ?_;rintro e w' ⟨j,hj,he,h2,h3,h4,h5⟩;rcases he with⟨rfl,he⟩|⟨rfl,he,hgj⟩
    · exact⟨0,rfl,⟨Or.inr ⟨j,hj,Or.inl ⟨rfl,he⟩,h2,h3⟩,h4,h5⟩,h5⟩
    · exact⟨13,rfl,⟨Or.inr ⟨j,hj,Or.inr ⟨rfl,hgj⟩,h2,h3⟩,h4,h5⟩,h5⟩
  · refine(wipe_no B b st F h A 13 w hd hg (openI_gone _ _ hgo) (by decide)).mono ?_;rintro e w' ⟨rfl,h2⟩;exact⟨13,rfl,⟨Or.inl ⟨rfl,hgo,hd.below h2⟩,h2.mono hB,Off.ofBelow h2 _⟩,Off.ofBelow h2 _⟩
theorem writeq_c {s:ByteArray}(hd:Dev B w b st)(hg:Good st)(hF:F+h≤st.now.length)(h1:1≤h)(hA:1≤A)(hAh:A≤h)(hs:s.size≤9223372036854775807)(hp:st.pend.length+h≤1000)(hB:B≤w.heap.size) :
    Calls Tryz.prog 95 #[.pointer (some ⟨b,0,none⟩),.int .i64 F,.int .i64 h,.int .i64 A,.string s] w fun e w'=>∃(x:Nat) (q:Int),e=.returned (.tuple #[.int .i64 x,.int .i64 q])∧(WrP B b st F A h s x q w'∧Below B w w'∧Off devTs w w')∧Off devTs w w':=by
  have hf:=hg.few;cases hgo:goneB st
  · by_cases hfit:fitsI h A s=0
    · obtain⟨f1,f2,f3⟩:=fits_ok hfit;refine(write_any B b st F h A s w hd hg (openI_ok hgo h1 hF) hF hA f1 f2 f3 (by omega) hB).mono ?_;rintro e w' ⟨j,hj,he,h2,h3,h4,h5⟩;rcases he with⟨rfl,he⟩|⟨rfl,he,hgj⟩
      · exact⟨A+(s.size+61)/62,0,rfl,⟨Or.inr (Or.inr ⟨hfit,j,hj,Or.inl ⟨rfl,he,rfl⟩,h2,h3⟩),h4,h5⟩,h5⟩
      · exact⟨0,13,rfl,⟨Or.inr (Or.inr ⟨hfit,j,hj,Or.inr ⟨rfl,hgj⟩,h2,h3⟩),h4,h5⟩,h5⟩
    · have hq:writeI h A s.size=fitsI h A s:=by
        unfold writeI fitsI;rw[if_neg (by omega)];by_cases c1:s.size<1∨60000<s.size
        · rw[if_pos c1,if_pos c1]
        · rw[if_neg c1,if_neg c1];by_cases c2:h<A+(s.size+61)/62
          · rw[if_pos (show(h:Int)-(A:Int)<(((s.size+61)/62:Nat):Int) by omega),if_pos c2]
          · rw[if_neg (show ¬(h:Int)-(A:Int)<(((s.size+61)/62:Nat):Int) by omega),if_neg c2]
      refine(write_bad B b st F h A _ s w hd hg (openI_ok hgo h1 hF) hF (by omega) hs hq hfit).mono ?_;rintro e w' ⟨rfl,h2⟩;exact⟨0,_,rfl,⟨Or.inr (Or.inl ⟨hfit,by rcases fits_num h A s with h|h|h<;>rw[h]<;>decide,hgo,rfl,hd.below h2⟩),h2.mono hB,Off.ofBelow h2 _⟩,Off.ofBelow h2 _⟩
  · refine(write_no B b st F h A 13 s w hd hg (openI_gone _ _ hgo) (by decide)).mono ?_;rintro e w' ⟨rfl,h2⟩;exact⟨0,13,rfl,⟨Or.inl ⟨rfl,hgo,hd.below h2⟩,h2.mono hB,Off.ofBelow h2 _⟩,Off.ofBelow h2 _⟩
end
end Go.Proofs.YtdmkhmeaphaapaaGreat.V
namespace Go.Proofs.YtdmkhmeaphaapaaGreat.V
open Go.RowKit Go.Sort
set_option linter.unusedVariables false
def rowBlk:Value→Option Nat
  | .slice (some a) _ _=>some a.block
  | _=>none
def OffRow (g:Option Nat)(w w':World):Prop:=∀(T:TypeId),T∉vaTs→∀(k:Nat) (cs:Array Value) (fr:Nat×Nat),some k≠g→w.heap[k]?=some (.cells cs T fr)→w'.heap[k]?=some (.cells cs T fr)
theorem OffRow.ofOff {g:Option Nat}{w w':World}(h:Off vaTs w w'):OffRow g w w':=fun T hT k cs fr _ hk=>h T hT k cs fr hk
theorem OffRow.trans {g:Option Nat}{a b c:World}(h:OffRow g a b)(h':OffRow g b c):OffRow g a c:=fun T hT k cs fr hg hk=>h' T hT k cs fr hg (h T hT k cs fr hg hk)
theorem RowAt.off {B:Nat}{w w':World}{v:Value}{l:List ByteArray}(h:RowAt B w v l)(ho:Off vaTs w w'):RowAt B w' v l:=by
  rcases h with h|⟨g,off,cap,cur,hv,hB,h1,h2,hg,h3,h4⟩
  · exact Or.inl h
  · exact Or.inr ⟨g,off,cap,cur,hv,hB,h1,h2,ho _ (by decide) _ _ _ hg,h3,h4⟩
theorem RowAt.below {B:Nat}{w w':World}{v:Value}{l:List ByteArray}(h:RowAt B w v l)(hb:Below w.heap.size w w'):RowAt B w' v l:=h.off (Off.ofBelow hb _)
theorem RowAt.lt {B:Nat}{w:World}{v:Value}{l:List ByteArray}(h:RowAt B w v l){g:Nat}(hg:rowBlk v=some g):B≤g∧g<w.heap.size:=by
  rcases h with⟨_,rfl⟩|⟨g',off,cap,cur,rfl,hB,h1,h2,hgg,h3,h4⟩
  · cases hg
  · injection hg with hg;subst hg;exact⟨hB,lt_of_get hgg⟩
theorem RowAt.base {B B':Nat}{w:World}{v:Value}{l:List ByteArray}(h:RowAt B w v l)(hB':B'≤B):RowAt B' w v l:=by
  rcases h with h|⟨g,off,cap,cur,hv,hB,r⟩
  · exact Or.inl h
  · exact Or.inr ⟨g,off,cap,cur,hv,Nat.le_trans hB' hB,r⟩
structure LiveR (B b vb n h:Nat)(k:Bool)(E A:Nat)(img:ByteArray)(rs r1 r2:List ByteArray)(lm:Bool)(st:St)(rv:Value)(W:World):Prop where
  live:LiveS n h k E A img rs r1 r2 lm st
  dev:Dev B W b st
  vlt:VaultAt W vb b (bkF h k) h A E img rv true
  row:RowAt B W rv rs
  hvb:B≤vb
structure DeadR (B b vb n h:Nat)(k:Bool)(E:Nat)(r1 r2:List ByteArray)(fresh:ByteArray)(st:St)(W:World):Prop where
  dead:DeadS n h k E r1 r2 fresh st
  dev:Dev B W b st
  vlt:∃A img rv,VaultAt W vb b (bkF h k) h A E img rv false
  hvb:B≤vb
section
variable {B b vb n h:Nat}{k:Bool}{E A:Nat}{img fresh:ByteArray}{rs r1 r2:List ByteArray}{lm:Bool}{st:St}{rv:Value}{W W':World}
theorem LiveR.below (hL:LiveR B b vb n h k E A img rs r1 r2 lm st rv W)(hb:Below W.heap.size W W'):LiveR B b vb n h k E A img rs r1 r2 lm st rv W':=
  ⟨hL.live,hL.dev.below hb,HalfAt.below hL.vlt hb,hL.row.below hb,hL.hvb⟩
theorem DeadR.below (hD:DeadR B b vb n h k E r1 r2 fresh st W)(hb:Below W.heap.size W W'):DeadR B b vb n h k E r1 r2 fresh st W':=by
  obtain⟨A,img,rv,hv⟩:=hD.vlt;exact⟨hD.dead,hD.dev.below hb,⟨A,img,rv,HalfAt.below hv hb⟩,hD.hvb⟩
theorem va_set {C:Array Value}{fr:Nat×Nat}{j:Nat}{x:Value}{T:TypeId}(hv:W.heap[vb]?=some (.cells C T fr))(hT:T∈vaTs):Off vaTs W (W.setCell ⟨vb,j,none⟩ x):=(Off.refl _ _).setCell hv hT x
theorem Dev.vset (hd:Dev B W b st){C:Array Value}{fr:Nat×Nat}{j:Nat}{x:Value}{T:TypeId}(hv:W.heap[vb]?=some (.cells C T fr))(hT:T∈[82,84,98]):Dev B (W.setCell ⟨vb,j,none⟩ x) b st:=
  hd.off ((Off.refl [82,84,98] _).setCell hv hT x) (by decide) (by decide) (by decide)
theorem HalfAt.base_off {hb:Nat}{T:TypeId}{F S A E:Nat}{R:List Value}(h:HalfAt W hb T b F S A E R)(ho:Off devTs W W')(hT:T∈[82,84,98]):HalfAt W' hb T b F S A E R:=h.off ho (by
  simp only[List.mem_cons,List.not_mem_nil,or_false]at hT;rcases hT with rfl|rfl|rfl<;>decide)
theorem Off.va {w w':World}(h:Off devTs w w'):Off vaTs w w':=h.mono dev_va
end
end Go.Proofs.YtdmkhmeaphaapaaGreat.V
namespace Go.Proofs.YtdmkhmeaphaapaaGreat.V
open Go.RowKit Go.Sort
set_option linter.unusedVariables false
theorem own_row {B:Nat}{w:World}{v:Value}{n:Nat}{l:List ByteArray}(h:w.ownsRow B 9 1 v n (l.map Value.string))(hn:l.length=n):RowAt B w v l:=by
  subst hn;rcases h.2 with⟨hv,h0⟩|⟨g,cap,cur,hv,hB,hg,h1,h2,h3,h4⟩
  · exact Or.inl ⟨List.eq_nil_of_length_eq_zero h0,hv⟩
  · refine Or.inr ⟨g,0,cap,cur,hv,hB,h1,h2,hg,by omega,fun j s hj=>?_⟩;have hlt:j<l.length:=(List.getElem?_eq_some_iff.1 hj).1;have h5:(cur.toList.take (l.length*1))[j]?=some (.string s):=by
      have e:cur.toList.take (l.length*1)=l.map Value.string:=by simpa using h4
      rw[e,List.getElem?_map,hj];rfl
    rw[List.getElem?_take,if_pos (by omega)]at h5;rw[Nat.zero_add];simpa using h5
theorem append_row (B:Nat)(t ty:TypeId)(ht:t=59){w:World}{v:Value}{l:List ByteArray}(hrow:RowAt B w v l)(ad:Addr)(c:Nat)(r:ByteArray)(hcell:w.cell? ad=some (.string r))(hl:l.length≤100000)(hB:B≤w.heap.size) :
    ∃v' w',(Builtin.append_ #[t,t] ty #[v,.slice (some ad) 1 c]).run Tryz.prog w=.ok v' w'∧RowAt B w' v' (l++[r])∧(rowBlk v'=rowBlk v∨∃g,w.heap.size≤g∧rowBlk v'=some g)∧Below B w w'∧(∀k,k<w.heap.size→some k≠rowBlk v→w'.heap[k]?=w.heap[k]?)∧∃a n cap,v'=.slice a n cap:=by
  subst ht;obtain⟨i0,hi0,hz0,hz1,hz2⟩:=info_parts Tryz.infoStr7;have hnews:∀j u,([Value.string r]:List Value)[j]?=some u→w.cell? (ad.add j)=some u:=fun j u hj=>by
    rcases j with _|j
    · injection hj with hj;rw[←hj];obtain⟨b,o,sp⟩:=ad;have hsp:sp=none:=by simpa using World.cell?_spot hcell
      subst hsp;rw[Addr.add_mid,Nat.add_zero];exact hcell
    · cases hj
  have hone:∀u∈([Value.string r]:List Value),u.oneCell'=true:=fun u hu=>by rw[List.mem_singleton.1 hu];rfl
  have grown:∀v' w',w'.ownsRow w.heap.size 9 1 v' (l.length+1) (l.map Value.string++[Value.string r])→w.grownBy w' none→(RowAt B w' v' (l++[r])∧(rowBlk v'=rowBlk v∨∃g,w.heap.size≤g∧rowBlk v'=some g)∧Below B w w'∧(∀k,k<w.heap.size→some k≠rowBlk v→w'.heap[k]?=w.heap[k]?)∧∃a n cap,v'=.slice a n cap):=fun v' w' h1 h2=>by
    have h3:RowAt w.heap.size w' v' (l++[r]):=own_row (by rw[List.map_append];exact h1) (by simp);refine⟨h3.base hB,Or.inr ?_,(Below.refl _ _).grown h2 hB (fun j hj=>by cases hj),fun k hk _=>h2.block k hk (by simp),?_⟩
    · rcases h3 with⟨h4,_⟩|⟨g,off,cap,cur,hv,hBg,_⟩
      · simp at h4
      · exact⟨g,hBg,by rw[hv];rfl⟩
    · rcases h3 with⟨_,h4⟩|⟨g,off,cap,cur,hv,hBg,_⟩
      · exact⟨_,_,_,h4⟩
      · exact⟨_,_,_,hv⟩
  rcases hrow with⟨rfl,rfl⟩|⟨g,off,cap,cur,rfl,hBg,h1,h2,hg,h3,h4⟩
  · obtain⟨g,cap,w',hr,h5,h6,h7,h8⟩:=run_append_lies (P:=Tryz.prog) w 59 ty w.heap.size 9 i0 (.string ⟨#[]⟩) 1 16 Tryz.underlying59 hi0 hz0 hz1 hz2 rfl (by decide) (.slice none 0 0) 0 [] (World.ownsRow_nil _ _ _ _) ad 1 c [.string r] rfl hnews hone (by decide) (by unfold maxLen;omega) (by omega) (Nat.le_refl _) _ rfl;exact⟨_,w',hr,grown _ _ h5 h6⟩
  · by_cases hroom:l.length+1≤cap
    · have hin:off+l.length<cur.size:=by omega
      have hr:=run_append_room_cells (P:=Tryz.prog) w 59 ty 9 i0 Tryz.underlying59 hi0 g off l.length cap ad 1 c [.string r] (by rw[hz1];rfl) hnews hone hroom (fun j hj=>by
          have hj0:j=0:=by simp at hj;omega
          subst hj0;rw[hz1,cell_of_row w g _ _ _ _ hg,Nat.mul_one,Nat.add_zero,Array.getElem?_eq_getElem hin];rfl) (fun j hj=>frozen_of_row w g _ _ _ hg)
      rw[hz1,Nat.mul_one]at hr;have hset:w.setCells g (off+l.length) [.string r]=w.setCell ⟨g,off+l.length,none⟩ (.string r):=rfl;rw[hset]at hr;have hcur:(w.setCell ⟨g,off+l.length,none⟩ (.string r)).heap[g]?=some (.cells (cur.set! (off+l.length) (.string r)) 9 (0,0)):=by
        rw[heap_setCell_same w g _ _ _ _ hg];simp
      refine⟨_,_,hr,Or.inr ⟨g,off,cap,cur.set! (off+l.length) (.string r),by simp,hBg,by simp;omega,h2,hcur,by simp;omega,fun j s hj=>?_⟩,Or.inl rfl,(Below.refl _ _).setCell (p:=⟨g,_,none⟩) hBg _,fun k hk hne=>?_,⟨_,_,_,rfl⟩⟩
      · by_cases hjl:j<l.length
        · rw[List.getElem?_append_left hjl]at hj;have:=h4 j s hj;rw[Array.set!_eq_setIfInBounds,Array.getElem?_setIfInBounds_ne (by omega)];exact this
        · have hj1:j=l.length:=by
            have:=(List.getElem?_eq_some_iff.1 hj).1;simp at this;omega
          subst hj1;simp at hj;subst hj;rw[Array.set!_eq_setIfInBounds,Array.getElem?_setIfInBounds_self_of_lt (by omega)]
      · rw[heap_setCell_other w ⟨g,_,none⟩ k _ (fun e=>hne (by rw[e];rfl))]
    · obtain⟨v',w',hr,h5,h6⟩:=run_append_arg_grows (P:=Tryz.prog) w 59 ty 9 i0 (.string ⟨#[]⟩) 1 16 Tryz.underlying59 hi0 hz0 hz1 hz2 rfl (by decide) ⟨g,off,none⟩ l.length cap (l.map Value.string) (by simp) (fun j u hj=>by
        rw[List.getElem?_map]at hj;cases hlj:l[j]? with
        | none=>rw[hlj]at hj;cases hj
        | some s =>
          rw[hlj]at hj;injection hj with hj;rw[←hj,Addr.add_mid,cell_of_row w g _ _ _ _ hg];exact h4 j s hlj) ad 1 c [.string r] rfl hnews (by omega) (by unfold maxLen;omega) (by omega)
      exact⟨v',w',hr,grown _ _ h5 h6⟩
theorem step_append_row {ops:Array Oper}{o:Oper}{a:Act}{w:World}{K:Act→World→Prop}{Q:Exit→Act→World→Prop}{E:Prop}(hgd:o.guard=none)(s x:Operand)(ho:o.op=.call { callee:=.builtin .append,args:=#[s,x],argTypes:=#[59,59] })
    (B:Nat) (v:Value) (l:List ByteArray) (hs:a.eval s=v) (hrow:RowAt B w v l) (ad:Addr) (c:Nat) (r:ByteArray) (hx:a.eval x=.slice (some ad) 1 c) (hcell:w.cell? ad=some (.string r)) (hl:l.length≤100000) (hB:B≤w.heap.size)
    (h:∀v' w',RowAt B w' v' (l++[r])→(rowBlk v'=rowBlk v∨∃g,w.heap.size≤g∧rowBlk v'=some g)→Below B w w'→(∀k,k<w.heap.size→some k≠rowBlk v→w'.heap[k]?=w.heap[k]?)→(∃a n cap,v'=.slice a n cap)→K (a.put o.dst v') w') :
    if Region.wanted o (yielded ops a.tmps)=true then Oper.wp Tryz.prog o a w K Q else E:=by
  have hw:Region.wanted o (yielded ops a.tmps)=true:=by simp[Region.wanted,hgd]
  rw[if_pos hw];obtain⟨v',w',hr,h1,h2,h3,h4,h5⟩:=append_row B 59 o.type rfl hrow ad c r hcell hl hB;unfold Oper.wp execOp;simp only[ho,resolve,invoke,builtin,Sem.run_bind,Sem.run_pure,Result.andThen_ok,List.map_toArray,List.map_cons,List.map_nil,hs,hx,hr];exact h v' w' h1 h2 h3 h4 h5
theorem step_callee {P:Program}{ops:Array Oper}{o:Oper}{a:Act}{w:World}{K:Act→World→Prop}{Q:Exit→Act→World→Prop}{E:Prop}(hgd:o.guard=none)(f:FuncId)(x:Operand)(xt:TypeId)(ho:o.op=.call { callee:=.value (.func f),args:=#[x],argTypes:=#[xt] })
    (hf:∀xs W,(callFunc f xs).run P W=.ok (.enter f xs) W) (vx v:Value) (hx:a.eval x=vx) (R:World→Prop) (hc:Calls P f #[vx] w fun e w'=>e=.returned v∧R w') (h:∀w',R w'→K (a.put o.dst v) w') :
    if Region.wanted o (yielded ops a.tmps)=true then Oper.wp P o a w K Q else E:=by
  have hw:Region.wanted o (yielded ops a.tmps)=true:=by simp[Region.wanted,hgd]
  rw[if_pos hw];unfold Oper.wp;have he:(execOp a.eval o).run P w=.ok (.enter f #[vx]) w:=by
    simp[execOp,ho,resolve,Deferred.ofValue,invoke,hf,Act.eval];simpa[Act.eval]using hx
  rw[he,Oper.upon_enter];refine hc.mono ?_;rintro e w2 ⟨rfl,h2⟩;exact h w2 h2
end Go.Proofs.YtdmkhmeaphaapaaGreat.V
namespace Go.Proofs.YtdmkhmeaphaapaaGreat.V
open Go.RowKit Go.Sort
set_option linter.unusedVariables false
def tailS (s:ByteArray):List ByteArray:=if s.size=0 then [] else [s]
def AppX (B b vb n h:Nat)(k:Bool)(E A:Nat)(img:ByteArray)(rs r1 r2:List ByteArray)(lm:Bool)(st:St)(rv:Value)(s:ByteArray)(op:Bool)(q:Int)(W:World):Prop:=
  (q=0∧fitsI h A s=0∧VaultAt W vb b (bkF h k) h (A+(s.size+61)/62) E img rv op∧∃st',Dev B W b st'∧LiveS n h k E (A+(s.size+61)/62) img (rs++[s]) r1 (r2++[s]) lm st') ∨
  (q=13∧lm=true∧VaultAt W vb b (bkF h k) h A E img rv op∧∃st',Dev B W b st'∧DeadS n h k E r1 (r2++tailS s) ⟨#[]⟩ st') ∨
  (q≠0∧q≠13∧fitsI h A s=q∧VaultAt W vb b (bkF h k) h A E img rv op∧Dev B W b st)
theorem AppX.vault {B b vb n h:Nat}{k:Bool}{E A:Nat}{img:ByteArray}{rs r1 r2:List ByteArray}{lm:Bool}{st:St}{rv:Value}{s:ByteArray}{op:Bool}{q:Int}{W:World}(hx:AppX B b vb n h k E A img rs r1 r2 lm st rv s op q W):∃A',VaultAt W vb b (bkF h k) h A' E img rv op:=by
  rcases hx with⟨_,_,h,_⟩|⟨_,_,h,_⟩|⟨_,_,_,h,_⟩<;>exact⟨_,h⟩
theorem AppX.setOpen {B b vb n h:Nat}{k:Bool}{E A:Nat}{img:ByteArray}{rs r1 r2:List ByteArray}{lm:Bool}{st:St}{rv:Value}{s:ByteArray}{op:Bool}{q:Int}{W:World}(hx:AppX B b vb n h k E A img rs r1 r2 lm st rv s op q W)(x:Bool):AppX B b vb n h k E A img rs r1 r2 lm st rv s x q (W.setCell ⟨vb,7,none⟩ (.bool x)):=by
  rcases hx with⟨h0,h1,h2,st',h3,h4⟩|⟨h0,h1,h2,st',h3,h4⟩|⟨h0,h00,h1,h2,h3⟩
  · exact Or.inl ⟨h0,h1,h2.setOpen x,st',h3.vset h2 (by simp),h4⟩
  · exact Or.inr (Or.inl ⟨h0,h1,h2.setOpen x,st',h3.vset h2 (by simp),h4⟩)
  · exact Or.inr (Or.inr ⟨h0,h00,h1,h2.setOpen x,h3.vset h2 (by simp)⟩)
theorem gone_lim {st:St}{lm:Bool}(h:goneB st=true)(hl:lm=false→st.lim=false):lm=true:=by
  cases lm
  · have:=free_gone (hl rfl);rw[h]at this;cases this
  · rfl
theorem call_write:Callable 54:=fun xs W=>Tryz.call54 xs W
set_option maxHeartbeats 4000000 in
theorem append_do {B b vb n h g:Nat}{k:Bool}{E A:Nat}{img:ByteArray}{rs r1 r2:List ByteArray}{lm:Bool}{st:St}{rv:Value}{W:World}(s:ByteArray)(hL:LiveR B b vb n h k E A img rs r1 r2 lm st rv W)(hs:s.size≤9223372036854775807)(hB:B≤W.heap.size)
    (hg:StepsAt W g [(54,.agg #[.pointer (some ⟨vb,0,none⟩),.string s])]) :
    Calls Tryz.prog 50 #[.pointer (some ⟨vb,0,none⟩),.slice (some ⟨g,0,none⟩) (1:Nat) (1:Nat)] W fun e w'=>∃q:Int,e=.returned (.int .i64 q)∧AppX B b vb n h k E A img rs r1 r2 lm st rv s (decide (q≠13)) q w'∧Below B W w'∧Off vaTs W w':=by
  have hl:=hL.live;have hpd:=hl.pndh;have h9:=hl.n2;have h8:=hl.hn;have hle:=bkF_le hl.hn k;have hlen:=hl.len;have hroom:=hl.room;have h2:=hl.h2;have hend:=hl.end_;refine(do_c g 1 [(54,.agg #[.pointer (some ⟨vb,0,none⟩),.string s])]
    (fun i W'=>(i=0∧W'=W)∨(i=1∧AppX B b vb n h k E A img rs r1 r2 lm st rv s true 0 W'∧Below B W W'∧Off vaTs W W'))
    (fun q W'=>AppX B b vb n h k E A img rs r1 r2 lm st rv s true q W'∧Below B W W'∧Off vaTs W W')
    hL.vlt rfl (by decide) (fun k hk=>by rw[List.mem_singleton.1 hk];exact call_write) (Or.inl ⟨rfl,rfl⟩) ?_ ?_ ?_).mono ?_
  · rintro i W' (⟨_,rfl⟩|⟨_,_,_,ho⟩)
    · exact hg
    · exact ho _ (by decide) _ _ _ hg
  · intro i kk W' hk hI;rcases hI with⟨rfl,rfl⟩|⟨rfl,_⟩
    · injection hk with hk;subst hk;refine(ewrite_c s (Ps:=fun x q w1=>WrP B b st (bkF h k) A h s x q w1∧Below B W' w1∧Off devTs W' w1) hL.vlt (by decide) (fun W2 hW2=>?_)).mono ?_
      · refine(writeq_c (hL.dev.below hW2) hl.good (by omega) (by omega) (by omega) hroom (by omega) (by omega) (Nat.le_trans hB hW2.size)).mono ?_;rintro e w' ⟨x,q,he,⟨h1,h3,h4⟩,h5⟩;exact⟨x,q,he,⟨h1,(hW2.mono hB).trans h3,(Off.ofBelow hW2 _).trans h4⟩,h5⟩
      · rintro e w' ⟨x,q,w1,rfl,⟨hw,hb,ho⟩,hv,hq⟩;refine⟨q,rfl,?_⟩;rcases hq with⟨rfl,rfl⟩|⟨hq,rfl⟩
        · refine Or.inl ⟨rfl,Or.inr ⟨rfl,?_,hb.setCell (p:=⟨vb,3,none⟩) hL.hvb _,ho.va.setCell hv (by decide) _⟩⟩;rcases hw with⟨h1,_⟩|⟨h1,_⟩|⟨hfit,j,hj,hc,hr,hd⟩
          · cases h1
          · exact absurd rfl h1
          · rcases hc with⟨_,rfl,rfl⟩|⟨h1,_⟩
            · obtain⟨f1,f2,f3⟩:=fits_ok hfit;have htl:(framesL s).take ((s.size+61)/62)=framesL s:=List.take_of_length_le (by rw[framesL_length];exact Nat.le_refl _);rw[htl]at hr hd;exact Or.inl ⟨rfl,hfit,hv.setEnd _,_,hd.vset hv (by simp),hl.append f1 f2 f3 hr⟩
            · cases h1
        · refine Or.inr ⟨hq,?_,hb,ho.va⟩;rcases hw with⟨h1,hgo,hd⟩|⟨h1,h13,hgo,hfit,hd⟩|⟨hfit,j,hj,hc,hr,hd⟩
          · exact Or.inr (Or.inl ⟨h1,gone_lim hgo hl.lim,hv,_,hd,hl.dead _ _⟩)
          · exact Or.inr (Or.inr ⟨h1,h13,hfit,hv,hd⟩)
          · rcases hc with⟨h1,_⟩|⟨h1,hgo⟩
            · exact absurd h1 hq
            · obtain⟨f1,f2,f3⟩:=fits_ok hfit;have hpl:=hl.append_lost f1 f2 f3 hj hr ⟨#[]⟩;have hlim:(putsSt st (bkF h k+A) ((framesL s).take j)).lim=st.lim:=by
                have hp:=puts_any (st:=st) (i:=bkF h k+A) (fs:=(framesL s).take j) hl.good (by rw[List.length_take,framesL_length];omega) (fun f hf=>framesL_size s f (List.mem_of_mem_take hf)) hr _ (Nat.le_refl _);rw[List.take_length]at hp;exact hp.2.1
              refine Or.inr (Or.inl ⟨h1,gone_lim hgo (fun e=>hlim.trans (hl.lim e)),hv,_,hd,?_⟩);unfold tailS;rw[if_neg (by omega)];exact hpl
    · cases hk
  · rintro q W' (⟨_,⟨h1,_⟩|⟨_,hx,_⟩⟩|⟨_,hx,_⟩)
    · cases h1
    · obtain⟨A',hv⟩:=hx.vault;exact⟨_,_,_,_,_,_,_,_,hv⟩
    · obtain⟨A',hv⟩:=hx.vault;exact⟨_,_,_,_,_,_,_,_,hv⟩
  · rintro e w' ⟨q,w1,rfl,hq,rfl⟩;refine⟨q,rfl,?_⟩;have key:∀q,AppX B b vb n h k E A img rs r1 r2 lm st rv s true q w1∧Below B W w1∧Off vaTs W w1→AppX B b vb n h k E A img rs r1 r2 lm st rv s (decide (q≠13)) q (w1.setCell ⟨vb,7,none⟩ (.bool (decide (q≠13))))∧Below B W (w1.setCell ⟨vb,7,none⟩ (.bool (decide (q≠13))))∧Off vaTs W (w1.setCell ⟨vb,7,none⟩ (.bool (decide (q≠13)))):=fun q h=>by
      obtain⟨A',hv⟩:=h.1.vault;exact⟨h.1.setOpen _,h.2.1.setCell (p:=⟨vb,7,none⟩) hL.hvb _,h.2.2.setCell hv (by decide) _⟩
    rcases hq with⟨rfl,⟨h1,_⟩|⟨_,hx⟩⟩|⟨_,hx⟩
    · cases h1
    · exact key 0 hx
    · exact key q hx
end Go.Proofs.YtdmkhmeaphaapaaGreat.V
namespace Go.Proofs.YtdmkhmeaphaapaaGreat.V
open Go.RowKit Go.Sort
set_option linter.unusedVariables false
def AppPost (B b vb n h:Nat)(k:Bool)(E A:Nat)(img:ByteArray)(rs r1 r2:List ByteArray)(lm:Bool)(st:St)(rv:Value)(s:ByteArray)(w:World)(e:Ending)(w':World):Prop:=
  ∃q:Int,e=.returned (.int .i64 q)∧Below B w w'∧OffRow (rowBlk rv) w w' ∧
   ((q=0∧fitsI h A s=0∧∃st' rv',LiveR B b vb n h k E (A+(s.size+61)/62) img (rs++[s]) r1 (r2++[s]) lm st' rv' w'∧(rowBlk rv'=rowBlk rv∨∃g,w.heap.size≤g∧rowBlk rv'=some g)) ∨
    (q=13∧lm=true∧∃st',DeadR B b vb n h k E r1 (r2++tailS s) ⟨#[]⟩ st' w') ∨
    (q≠0∧q≠13∧fitsI h A s=q∧LiveR B b vb n h k E A img rs r1 r2 lm st rv w'))
set_option maxHeartbeats 4000000 in
theorem append_c {B b vb n h:Nat}{k:Bool}{E A:Nat}{img:ByteArray}{rs r1 r2:List ByteArray}{lm:Bool}{st:St}{rv:Value}{w:World}(s:ByteArray)(hL:LiveR B b vb n h k E A img rs r1 r2 lm st rv w)(hs:s.size≤9223372036854775807)(hn:rs.length≤1000)(hB:B≤w.heap.size) :
    Calls Tryz.prog 24 #[.pointer (some ⟨vb,0,none⟩),.string s] w (AppPost B b vb n h k E A img rs r1 r2 lm st rv s w):=by
  unfold AppPost;have HL:=Lib.hid hL;obtain⟨W1,hW1⟩:∃W1,(w.alloc (.cells #[.pointer (some ⟨vb,0,none⟩),.string s] 119)).alloc (.cells #[.func (.func 54) #[.agg #[.pointer (some ⟨vb,0,none⟩),.string s]] #[]] 169)=W1:=⟨_,rfl⟩;have HB1:Hid (Below w.heap.size w W1):=Lib.hid (by rw[←hW1];exact((Below.refl _ _).alloc (Nat.le_refl _) _).alloc (by simp) _);have hst:StepsAt W1 (w.heap.size+1) [(54,.agg #[.pointer (some ⟨vb,0,none⟩),.string s])]:=by rw[←hW1];exact heap_alloc2_new _ _ _
  have cD:=append_do s (hL.below HB1.out) hs (Nat.le_trans hB HB1.out.size) hst;have cC:=fun(hq:s.size≤60000) W=>sclone_c s W (by omega)
  clear hL hst;go_enter Tryz.func24,Tryz.ntmps24;go_wp2_with fail
  try rw[hW1]
  clear hW1;refine cD.mono ?_;rintro e w2 ⟨q,rfl,hx,hb2,ho2⟩;have HX:=Lib.hid hx;have HB2:Hid (Below B w w2):=Lib.hid ((HB1.out.mono hB).trans hb2);have HO2:Hid (Off vaTs w w2):=Lib.hid ((Off.ofBelow HB1.out _).trans ho2);clear hx hb2 ho2 cD;by_cases hq:q=0
  · subst hq;have hrow:RowAt B w2 rv rs:=HL.out.row.off HO2.out;have HROW:=Lib.hid hrow;obtain⟨hfit,hv,st',hd,hl'⟩:fitsI h A s=0∧VaultAt w2 vb b (bkF h k) h (A+(s.size+61)/62) E img rv true∧∃st',Dev B w2 b st'∧LiveS n h k E (A+(s.size+61)/62) img (rs++[s]) r1 (r2++[s]) lm st':=by
      rcases HX.out with⟨_,h1,h2,h3⟩|⟨h1,_⟩|⟨h1,_⟩
      · exact⟨h1,h2,h3⟩
      · cases h1
      · exact absurd rfl h1
    have HV:=Lib.hid hv;have HD:=Lib.hid hd;have HLL:=Lib.hid hl';have HFIT:=Lib.hid hfit;have cC:=cC (fits_ok hfit).2.1;obtain⟨va,vn,vc,rfl⟩:∃a m c,rv=.slice a m c:=by
      rcases hrow with⟨_,h1⟩|⟨g,off,cap,cur,h1,_⟩<;>exact⟨_,_,_,h1⟩
    have c6:=hv.more.2.1;have f6:=hv.frozen 6;have HV6:Hid (∀W,Below w2.heap.size w2 W→VaultAt W vb b (bkF h k) h (A+(s.size+61)/62) E img (.slice va vn vc) true∧RowAt B W (.slice va vn vc) rs):=Lib.hid (fun W hW=>⟨HalfAt.below HV.out hW,HROW.out.below hW⟩);have HC6:Hid (∀W,Below w2.heap.size w2 W→W.cell? ⟨vb,6,none⟩=some (.slice va vn vc)∧W.frozen? ⟨vb,6,none⟩=false):=Lib.hid (fun W hW=>⟨(HV6.out W hW).1.more.2.1,(HV6.out W hW).1.frozen 6⟩);have HAP:Hid (∀(W W9:World),Below w2.heap.size w2 W→(∀j,j<W.heap.size→some j≠rowBlk (.slice va vn vc)→W9.heap[j]?=W.heap[j]?)→VaultAt W9 vb b (bkF h k) h (A+(s.size+61)/62) E img (.slice va vn vc) true):=Lib.hid (fun W W9 hW hk=>by
      obtain⟨hv9,hr9⟩:=HV6.out W hW;have hne:some vb≠rowBlk (.slice va vn vc):=fun e=>by
        rcases hr9 with⟨_,h1⟩|⟨g,off,cap,cur,h1,_,_,_,hg,_⟩
        · rw[h1]at e;cases e
        · rw[h1]at e;injection e with e;have e2:vb=g:=e;subst e2;have hv10:W.heap[vb]?=_:=hv9;rw[hv10]at hg;injection hg with hg;injection hg with _ hT _
          revert hT
          decide
      show W9.heap[vb]?=_
      rw[hk vb (lt_of_get hv9) hne];exact hv9)
    have HEND:Hid (∀(W W9:World) (v9:Value),Below w2.heap.size w2 W→RowAt B W9 v9 (rs++[s])→(rowBlk v9=rowBlk (.slice va vn vc)∨∃g,W.heap.size≤g∧rowBlk v9=some g)→Below B W W9→(∀j,j<W.heap.size→some j≠rowBlk (.slice va vn vc)→W9.heap[j]?=W.heap[j]?) →
        Below B w (W9.setCell ⟨vb,6,none⟩ v9)∧OffRow (rowBlk (.slice va vn vc)) w (W9.setCell ⟨vb,6,none⟩ v9)∧∃st' rv',LiveR B b vb n h k E (A+(s.size+61)/62) img (rs++[s]) r1 (r2++[s]) lm st' rv' (W9.setCell ⟨vb,6,none⟩ v9)∧(rowBlk rv'=rowBlk (.slice va vn vc)∨∃g,w.heap.size≤g∧rowBlk rv'=some g)):=Lib.hid (fun W W9 v9 hW hr9 hbl hb9 hk9=>by
      have hv9:=HAP.out W W9 hW hk9;have hwW:w.heap.size≤W.heap.size:=Nat.le_trans HB2.out.size hW.size;have hoW:OffRow (rowBlk (.slice va vn vc)) W W9:=fun T hT j cs fr hj hk=>by rw[hk9 j (lt_of_get hk) hj];exact hk
      have hset:Off vaTs W9 (W9.setCell ⟨vb,6,none⟩ v9):=va_set hv9 (by decide);have hw2:w2.heap.size≤W.heap.size:=hW.size;refine⟨(HB2.out.trans ((hW.mono (Nat.le_trans hB HB2.out.size)).trans hb9)).setCell (p:=⟨vb,6,none⟩) HL.out.hvb _,(OffRow.ofOff (HO2.out.trans (Off.ofBelow hW _))).trans (hoW.trans (OffRow.ofOff hset)),st',v9,⟨HLL.out,?_,hv9.setRecs v9,hr9.off hset,HL.out.hvb⟩,?_⟩
      · have hd1:Dev B W b st':=HD.out.below hW;have hd2:Dev B W9 b st':=hd1.off (ex:=[9]) (fun T hT j cs fr hk=>by
          rw[hk9 j (lt_of_get hk) (fun e=>by
            rcases(HV6.out W hW).2 with⟨_,h1⟩|⟨g,off,cap,cur,h1,_,_,_,hg,_⟩
            · rw[h1]at e;cases e
            · rw[h1]at e;injection e with e;have e2:j=g:=e;subst e2;rw[hk]at hg;injection hg with hg;injection hg with _ h3 _;exact hT (by rw[h3];simp))]
          exact hk) (by decide) (by decide) (by decide)
        exact hd2.vset hv9 (by simp)
      · rcases hbl with h1|⟨g,h1,h2⟩
        · exact Or.inl h1
        · exact Or.inr ⟨g,by omega,h2⟩)
    clear hrow hv hd hl' hfit HX;go_wp2_with fail;go_region_law (first|(refine step_callee rfl 55 _ _ rfl (fun xs W=>Tryz.call55 xs W) (.string s) (.string s) rfl (fun W9=>Below w2.drew.heap.size w2.drew W9) (cC w2.drew) ?_;intro w8 hb8;have hB8:Below w2.heap.size w2 w8:=(Below.refl _ _).drew.trans hb8;have q8:=(HC6.out _ hB8).1;have g8:=(HC6.out _ hB8).2;have hB9:Below w2.heap.size w2 (w8.alloc (.cells #[.string s] 9)):=hB8.alloc hB8.size _;have q9:=(HC6.out _ hB9).1;have g9:=(HC6.out _ hB9).2;have hr9:=(HV6.out _ hB9).2)|(refine step_append_row rfl _ _ rfl B (.slice va vn vc) rs rfl hr9 ⟨w8.heap.size,0,none⟩ 1 s rfl (by rw[cell_of_row _ _ _ _ _ _ (heap_alloc_new _ _)];rfl) (by omega) (Nat.le_trans (Nat.le_trans hB HB2.out.size) hB9.size) ?_;intro v7 w7 hr7 hbl7 hb7 hk7 hsl7;obtain⟨a7,n7,c7,rfl⟩:=hsl7;have hv7:=HAP.out _ _ hB9 hk7;have q7:=hv7.more.2.1;have g7:=hv7.frozen 6))
    all_goals
      have HE:=Lib.hid (HEND.out _ _ _ hB9 hr7 hbl7 hb7 hk7);clear hB9 hr7 hbl7 hb7 hk7 hr9 hB8 q8 g8 q9 g9 hv7 q7 g7;go_wp2;go_ret;exact⟨0,rfl,HE.out.1,HE.out.2.1,Or.inl ⟨rfl,HFIT.out,HE.out.2.2⟩⟩
  · have hqz:(q==0)=false:=by simpa using hq
    have HE:Hid ((q=13∧lm=true∧∃st',DeadR B b vb n h k E r1 (r2++tailS s) ⟨#[]⟩ st' w2)∨(q≠0∧q≠13∧fitsI h A s=q∧LiveR B b vb n h k E A img rs r1 r2 lm st rv w2)):=Lib.hid (by
      rcases HX.out with⟨h0,_⟩|⟨h13,h1,hv,st',hd,hD⟩|⟨h0,h13,h1,hv,hd⟩
      · exact absurd h0 hq
      · refine Or.inl ⟨h13,h1,st',hD,hd,?_,HL.out.hvb⟩;rw[h13]at hv;exact⟨_,_,_,hv⟩
      · refine Or.inr ⟨h0,h13,h1,HL.out.live,hd,?_,HL.out.row.off HO2.out,HL.out.hvb⟩;rw[decide_eq_true h13]at hv;exact hv)
    clear HX;go_wp2;go_ret;exact⟨q,rfl,HB2.out,OffRow.ofOff HO2.out,Or.inr HE.out⟩
end Go.Proofs.YtdmkhmeaphaapaaGreat.V
namespace Go.Proofs.YtdmkhmeaphaapaaGreat.V
open Go.RowKit Go.Sort
set_option linter.unusedVariables false
def SyX (B b vb n h:Nat)(k:Bool)(E A:Nat)(img:ByteArray)(rs r1 r2:List ByteArray)(lm:Bool)(rv:Value)(op:Bool)(q:Int)(W:World):Prop:=
  VaultAt W vb b (bkF h k) h A E img rv op∧∃st',Dev B W b st'∧((q=0∧LiveS n h k E A img rs (r1++r2) [] lm st')∨(q=13∧lm=true∧DeadS n h k E r1 r2 ⟨#[]⟩ st'))
theorem call_flush:Callable 53:=fun xs W=>Tryz.call53 xs W
set_option maxHeartbeats 4000000 in
theorem sync_do {B b vb n h g:Nat}{k:Bool}{E A:Nat}{img:ByteArray}{rs r1 r2:List ByteArray}{lm:Bool}{st:St}{rv:Value}{W:World}(hL:LiveR B b vb n h k E A img rs r1 r2 lm st rv W)(hB:B≤W.heap.size)
    (hg:StepsAt W g [(53,.pointer (some ⟨b,0,none⟩))]) :
    Calls Tryz.prog 50 #[.pointer (some ⟨vb,0,none⟩),.slice (some ⟨g,0,none⟩) (1:Nat) (1:Nat)] W fun e w'=>∃q:Int,e=.returned (.int .i64 q)∧SyX B b vb n h k E A img rs r1 r2 lm rv (decide (q≠13)) q w'∧Below B W w'∧Off vaTs W w':=by
  have hl:=hL.live;have hpd:=hl.pndh;have h9:=hl.n2;have h8:=hl.hn;refine(do_c g 1 [(53,.pointer (some ⟨b,0,none⟩))]
    (fun i W'=>(i=0∧W'=W)∨(i=1∧SyX B b vb n h k E A img rs r1 r2 lm rv true 0 W'∧Below B W W'∧Off vaTs W W'))
    (fun q W'=>SyX B b vb n h k E A img rs r1 r2 lm rv true q W'∧Below B W W'∧Off vaTs W W')
    hL.vlt rfl (by decide) (fun k hk=>by rw[List.mem_singleton.1 hk];exact call_flush) (Or.inl ⟨rfl,rfl⟩) ?_ ?_ ?_).mono ?_
  · rintro i W' (⟨_,rfl⟩|⟨_,_,_,ho⟩)
    · exact hg
    · exact ho _ (by decide) _ _ _ hg
  · intro i kk W' hk hI;rcases hI with⟨rfl,rfl⟩|⟨rfl,_⟩
    · injection hk with hk;subst hk;refine(flushq_c hL.dev hl.good (by omega) hB).mono ?_;rintro e w' ⟨q,rfl,hq,hb,ho⟩;refine⟨q,rfl,?_⟩;have hv:VaultAt w' vb b (bkF h k) h A E img rv true:=HalfAt.base_off hL.vlt ho (by simp);rcases hq with⟨rfl,hgo,hd⟩|⟨rfl,hgo,hd⟩
      · exact Or.inr ⟨by decide,⟨hv,st,hd,Or.inr ⟨rfl,gone_lim hgo hl.lim,by have:=hl.dead [] ⟨#[]⟩;rwa[List.append_nil]at this⟩⟩,hb,ho.va⟩
      · exact Or.inl ⟨rfl,Or.inr ⟨rfl,⟨hv,_,hd,Or.inl ⟨rfl,hl.flush⟩⟩,hb,ho.va⟩⟩
    · cases hk
  · rintro q W' (⟨_,⟨h1,_⟩|⟨_,hx,_⟩⟩|⟨_,hx,_⟩)
    · cases h1
    · exact⟨_,_,_,_,_,_,_,_,hx.1⟩
    · exact⟨_,_,_,_,_,_,_,_,hx.1⟩
  · rintro e w' ⟨q,w1,rfl,hq,rfl⟩;refine⟨q,rfl,?_⟩;have key:∀q,SyX B b vb n h k E A img rs r1 r2 lm rv true q w1∧Below B W w1∧Off vaTs W w1→SyX B b vb n h k E A img rs r1 r2 lm rv (decide (q≠13)) q (w1.setCell ⟨vb,7,none⟩ (.bool (decide (q≠13))))∧Below B W (w1.setCell ⟨vb,7,none⟩ (.bool (decide (q≠13))))∧Off vaTs W (w1.setCell ⟨vb,7,none⟩ (.bool (decide (q≠13)))):=fun q h=>by
      obtain⟨⟨hv,st',hd,hx⟩,hb,ho⟩:=h;exact⟨⟨hv.setOpen _,st',hd.vset hv (by simp),hx⟩,hb.setCell (p:=⟨vb,7,none⟩) hL.hvb _,ho.setCell hv (by decide) _⟩
    rcases hq with⟨rfl,⟨h1,_⟩|⟨_,hx⟩⟩|⟨_,hx⟩
    · cases h1
    · exact key 0 hx
    · exact key q hx
def SyPost (B b vb n h:Nat)(k:Bool)(E A:Nat)(img:ByteArray)(rs r1 r2:List ByteArray)(lm:Bool)(rv:Value)(w:World)(e:Ending)(w':World):Prop:=
  ∃q:Int,e=.returned (.int .i64 q)∧Below B w w'∧Off vaTs w w' ∧
    ((q=0∧∃st',LiveR B b vb n h k E A img rs (r1++r2) [] lm st' rv w')∨(q=13∧lm=true∧∃st',DeadR B b vb n h k E r1 r2 ⟨#[]⟩ st' w'))
set_option maxHeartbeats 4000000 in
theorem sync_c {B b vb n h:Nat}{k:Bool}{E A:Nat}{img:ByteArray}{rs r1 r2:List ByteArray}{lm:Bool}{st:St}{rv:Value}{w:World}(hL:LiveR B b vb n h k E A img rs r1 r2 lm st rv w)(hB:B≤w.heap.size) :
    Calls Tryz.prog 33 #[.pointer (some ⟨vb,0,none⟩)] w (SyPost B b vb n h k E A img rs r1 r2 lm rv w):=by
  unfold SyPost;have HL:=Lib.hid hL;obtain⟨W1,hW1⟩:∃W1,w.alloc (.cells #[.func (.func 53) #[.pointer (some ⟨b,0,none⟩)] #[]] 169)=W1:=⟨_,rfl⟩;have HB1:Hid (Below w.heap.size w W1):=Lib.hid (by rw[←hW1];exact(Below.refl _ _).alloc (Nat.le_refl _) _);have hst:StepsAt W1 w.heap.size [(53,.pointer (some ⟨b,0,none⟩))]:=by rw[←hW1];exact heap_alloc_new _ _
  have cD:=sync_do (hL.below HB1.out) (Nat.le_trans hB HB1.out.size) hst;have c0:=(HalfAt.cells hL.vlt).1;clear hL hst;go_enter Tryz.func33,Tryz.ntmps33;go_wp2_with fail
  try rw[hW1]
  clear hW1;refine cD.mono ?_;rintro e w2 ⟨q,rfl,hx,hb2,ho2⟩;have HB2:Hid (Below B w w2):=Lib.hid ((HB1.out.mono hB).trans hb2);have HO2:Hid (Off vaTs w w2):=Lib.hid ((Off.ofBelow HB1.out _).trans ho2);have HE:Hid ((q=0∧∃st',LiveR B b vb n h k E A img rs (r1++r2) [] lm st' rv w2)∨(q=13∧lm=true∧∃st',DeadR B b vb n h k E r1 r2 ⟨#[]⟩ st' w2)):=Lib.hid (by
    obtain⟨hv,st',hd,⟨rfl,h1⟩|⟨rfl,h1,h2⟩⟩:=hx
    · exact Or.inl ⟨rfl,st',h1,hd,hv,HL.out.row.off HO2.out,HL.out.hvb⟩
    · exact Or.inr ⟨rfl,h1,st',h2,hd,⟨_,_,_,hv⟩,HL.out.hvb⟩)
  clear hx hb2 ho2 cD c0;go_wp2;go_ret;exact⟨q,rfl,HB2.out,HO2.out,HE.out⟩
set_option maxHeartbeats 4000000 in
theorem sync_over {vb b F S A E:Nat}{img:ByteArray}{rv:Value}{w:World}(hv:VaultAt w vb b F S A E img rv false) :
    Calls Tryz.prog 33 #[.pointer (some ⟨vb,0,none⟩)] w fun e w'=>e=.returned (.int .i64 13)∧Below w.heap.size w w':=by
  obtain⟨W1,hW1⟩:∃W1,w.alloc (.cells #[.func (.func 53) #[.pointer (some ⟨b,0,none⟩)] #[]] 169)=W1:=⟨_,rfl⟩;have HB1:Hid (Below w.heap.size w W1):=Lib.hid (by rw[←hW1];exact(Below.refl _ _).alloc (Nat.le_refl _) _);have cD:=do_over (w:=W1) w.heap.size 1 (HalfAt.below hv HB1.out);have c0:=(HalfAt.cells hv).1;clear hv;go_enter Tryz.func33,Tryz.ntmps33;go_wp2_with fail
  try rw[hW1]
  clear hW1;refine cD.mono ?_;rintro e w2 ⟨rfl,rfl⟩;clear cD c0;go_wp2;go_ret;exact⟨rfl,HB1.out⟩
end Go.Proofs.YtdmkhmeaphaapaaGreat.V
