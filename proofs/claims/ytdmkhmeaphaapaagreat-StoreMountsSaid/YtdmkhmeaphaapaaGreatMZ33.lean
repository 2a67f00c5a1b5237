/- Kit. -/
import Derived.Test.YtdmkhmeaphaapaaGreatMZ32
import Derived.Test.YtdmkhmeaphaapaaGreatMZ31
import Derived.ArgAppend
import Derived.Deep.RegionLaw
import Derived.Test.YtdmkhmeaphaapaaGreatMZ0
set_option maxRecDepth 100000
set_option linter.unusedVariables false
set_option linter.unusedSimpArgs false
namespace Go.Proofs.YtdmkhmeaphaapaaGreat.V
open Go.RowKit Go.Sort
theorem Sz {st:St}(F S:Int)(h:BJ st=true):Dt st F S=13:=by
 unfold Dt;rw[MC h,if_neg (by decide)]
def HdP (B b:Nat)(st:St)(F N:Nat)(q:Int)(w':World):Prop:=(q=13∧BJ st=true∧Dev B w' b st)∨(q=0∧BJ st=false∧Dev B w' b (BU st F (C8 N)))
def FlP (B b:Nat)(st:St)(q:Int)(w':World):Prop:=(q=13∧BJ st=true∧Dev B w' b st)∨(q=0∧BJ st=false∧Dev B w' b (Dq st))
def WpP (B b:Nat)(st:St)(F A h:Nat)(q:Int)(w':World):Prop:=(q=13∧BJ st=true∧Dev B w' b st)∨(∃j,j≤h-A∧(q=0∧j=h-A∨q=13∧BJ (AP st (F+A) j)=true)∧MF st (F+A) j∧Dev B w' b (AP st (F+A) j))
def WrP (B b:Nat)(st:St)(F A h:Nat)(s:ByteArray)(x:Nat)(q:Int)(w':World):Prop:=
 (q=13∧BJ st=true∧Dev B w' b st)∨(q≠0∧q≠13∧BJ st=false∧Cu h A s=q∧Dev B w' b st) ∨
 (Cu h A s=0∧∃j,j≤(s.size+61)/62∧(q=0∧j=(s.size+61)/62∧x=A+(s.size+61)/62∨q=13∧BJ (Bh st (F+A) ((Bu s).take j))=true)∧Nc st (F+A) ((Bu s).take j)∧Dev B w' b (Bh st (F+A) ((Bu s).take j)))
theorem DJ {S A:Nat}{s:ByteArray}(h:Cu S A s=0):1≤s.size∧s.size≤60000∧A+(s.size+61)/62≤S:=by
 unfold Cu at h;split at h
 · cases h
 · split at h
   · cases h
   · omega
theorem YG (S A:Nat)(s:ByteArray):Cu S A s=0∨Cu S A s=4∨Cu S A s=11:=by
 unfold Cu;split
 · simp
 · split<;>simp
section
variable {B b F A h N:Nat}{st:St}{w:World}
theorem Kk (hd:Dev B w b st)(hg:Good st)(hF:F<st.now.length)(hp:st.pend.length≤1000)(hB:B≤w.heap.size)(hN:N<18446744073709551616) :
 Calls Tryz.prog 153 #[.pointer (some ⟨b,0,none⟩),.int .i64 F,.int .u64 N] w fun e w'=>∃q:Int,e=.returned (.int .i64 q)∧(HdP B b st F N q w'∧Below B w w'∧Off AZ w w')∧Off AZ w w':=by
 cases hgo:BJ st
 · refine(V9 B b st F N w hd hg hgo hF hp hB hN).mono ?_;rintro e w' ⟨rfl,h1,h2,h3⟩;exact⟨0,rfl,⟨Or.inr ⟨rfl,hgo,h1⟩,h2,h3⟩,h3⟩
 · refine(Ul B b st F N w hd hg hgo hp hB hN).mono ?_;rintro e w' ⟨rfl,h1,h2,h3⟩;exact⟨13,rfl,⟨Or.inl ⟨rfl,hgo,h1⟩,h2,h3⟩,h3⟩
theorem Ir (hd:Dev B w b st)(hg:Good st)(hp:st.pend.length≤1000)(hB:B≤w.heap.size) :
 Calls Tryz.prog 53 #[.pointer (some ⟨b,0,none⟩)] w fun e w'=>∃q:Int,e=.returned (.int .i64 q)∧FlP B b st q w'∧Below B w w'∧Off AZ w w':=by
 refine(vD B b st w hd hg (by omega) hB).mono ?_;rintro e w' ⟨rfl,h1,h2,h3⟩;cases hgo:BJ st
 · rw[hgo,if_neg (by decide)]at h1;exact⟨0,by simp,Or.inr ⟨rfl,hgo,h1⟩,h2,h3⟩
 · rw[hgo,if_pos rfl]at h1;exact⟨13,by simp,Or.inl ⟨rfl,hgo,h1⟩,h2,h3⟩
theorem Q6 (hd:Dev B w b st)(hg:Good st)(hF:F+h≤st.now.length)(h1:1≤h)(hA:1≤A)(hA2:A≤100000)(hp:st.pend.length+h≤1000)(hB:B≤w.heap.size) :
 Calls Tryz.prog 94 #[.pointer (some ⟨b,0,none⟩),.int .i64 F,.int .i64 h,.int .i64 A] w fun e w'=>∃q:Int,e=.returned (.int .i64 q)∧(WpP B b st F A h q w'∧Below B w w'∧Off AZ w w')∧Off AZ w w':=by
 cases hgo:BJ st
 · refine(kR B b st F h A A w hd hg (GV hgo h1 hF) hF (by omega) (by omega) hp hB).mono ?_;rintro e w' ⟨j,hj,he,h2,h3,h4,h5⟩;rcases he with⟨rfl,he⟩|⟨rfl,he,hgj⟩
   · exact⟨0,rfl,⟨Or.inr ⟨j,hj,Or.inl ⟨rfl,he⟩,h2,h3⟩,h4,h5⟩,h5⟩
   · exact⟨13,rfl,⟨Or.inr ⟨j,hj,Or.inr ⟨rfl,hgj⟩,h2,h3⟩,h4,h5⟩,h5⟩
 · refine(sI B b st F h A 13 w hd hg (Sz _ _ hgo) (by decide)).mono ?_;rintro e w' ⟨rfl,h2⟩;exact⟨13,rfl,⟨Or.inl ⟨rfl,hgo,hd.below h2⟩,h2.mono hB,Off.Ar h2 _⟩,Off.Ar h2 _⟩
theorem Oh {s:ByteArray}(hd:Dev B w b st)(hg:Good st)(hF:F+h≤st.now.length)(h1:1≤h)(hA:1≤A)(eF:A≤h)(hs:s.size≤9223372036854775807)(hp:st.pend.length+h≤1000)(hB:B≤w.heap.size) :
 Calls Tryz.prog 95 #[.pointer (some ⟨b,0,none⟩),.int .i64 F,.int .i64 h,.int .i64 A,.string s] w fun e w'=>∃(x:Nat) (q:Int),e=.returned (.tuple #[.int .i64 x,.int .i64 q])∧(WrP B b st F A h s x q w'∧Below B w w'∧Off AZ w w')∧Off AZ w w':=by
 have hf:=hg.few;cases hgo:BJ st
 · by_cases hfit:Cu h A s=0
   · obtain⟨f1,f2,f3⟩:=DJ hfit;refine(fE B b st F h A s w hd hg (GV hgo h1 hF) hF hA f1 f2 f3 (by omega) hB).mono ?_;rintro e w' ⟨j,hj,he,h2,h3,h4,h5⟩;rcases he with⟨rfl,he⟩|⟨rfl,he,hgj⟩
     · exact⟨A+(s.size+61)/62,0,rfl,⟨Or.inr (Or.inr ⟨hfit,j,hj,Or.inl ⟨rfl,he,rfl⟩,h2,h3⟩),h4,h5⟩,h5⟩
     · exact⟨0,13,rfl,⟨Or.inr (Or.inr ⟨hfit,j,hj,Or.inr ⟨rfl,hgj⟩,h2,h3⟩),h4,h5⟩,h5⟩
   · have hq:VT h A s.size=Cu h A s:=by
      unfold VT Cu;rw[if_neg (by omega)];by_cases c1:s.size<1∨60000<s.size
      · rw[if_pos c1,if_pos c1]
      · rw[if_neg c1,if_neg c1];by_cases c2:h<A+(s.size+61)/62
        · rw[if_pos (show(h:Int)-(A:Int)<(((s.size+61)/62:Nat):Int) by omega),if_pos c2]
        · rw[if_neg (show ¬(h:Int)-(A:Int)<(((s.size+61)/62:Nat):Int) by omega),if_neg c2]
     refine(fD B b st F h A _ s w hd hg (GV hgo h1 hF) hF (by omega) hs hq hfit).mono ?_;rintro e w' ⟨rfl,h2⟩;exact⟨0,_,rfl,⟨Or.inr (Or.inl ⟨hfit,by rcases YG h A s with h|h|h<;>rw[h]<;>decide,hgo,rfl,hd.below h2⟩),h2.mono hB,Off.Ar h2 _⟩,Off.Ar h2 _⟩
 · refine(kM B b st F h A 13 s w hd hg (Sz _ _ hgo) (by decide)).mono ?_;rintro e w' ⟨rfl,h2⟩;exact⟨0,13,rfl,⟨Or.inl ⟨rfl,hgo,hd.below h2⟩,h2.mono hB,Off.Ar h2 _⟩,Off.Ar h2 _⟩
end
def BC:Value→Option Nat
 | .slice (some a) _ _=>some a.block
 | _=>none
def EY (g:Option Nat)(w w':World):Prop:=∀(T:TypeId),T∉CY→∀(k:Nat) (cs:Array Value) (fr:Nat×Nat),some k≠g→w.heap[k]?=some (.cells cs T fr)→w'.heap[k]?=some (.cells cs T fr)
theorem EY.OM {g:Option Nat}{w w':World}(h:Off CY w w'):EY g w w':=fun T hT k cs fr _ hk=>h T hT k cs fr hk
theorem EY.trans {g:Option Nat}{a b c:World}(h:EY g a b)(h':EY g b c):EY g a c:=fun T hT k cs fr hg hk=>h' T hT k cs fr hg (h T hT k cs fr hg hk)
theorem Cw.off {B:Nat}{w w':World}{v:Value}{l:List ByteArray}(h:Cw B w v l)(ho:Off CY w w'):Cw B w' v l:=by
 rcases h with h|⟨g,off,cap,cur,hv,hB,h1,h2,hg,h3,h4⟩
 · exact Or.inl h
 · exact Or.inr ⟨g,off,cap,cur,hv,hB,h1,h2,ho _ (by decide) _ _ _ hg,h3,h4⟩
theorem Cw.below {B:Nat}{w w':World}{v:Value}{l:List ByteArray}(h:Cw B w v l)(hb:Below w.heap.size w w'):Cw B w' v l:=h.off (Off.Ar hb _)
theorem Cw.lt {B:Nat}{w:World}{v:Value}{l:List ByteArray}(h:Cw B w v l){g:Nat}(hg:BC v=some g):B≤g∧g<w.heap.size:=by
 rcases h with⟨_,rfl⟩|⟨g',off,cap,cur,rfl,hB,h1,h2,hgg,h3,h4⟩
 · cases hg
 · injection hg with hg;subst hg;exact⟨hB,Ab hgg⟩
theorem Cw.base {B B':Nat}{w:World}{v:Value}{l:List ByteArray}(h:Cw B w v l)(hB':B'≤B):Cw B' w v l:=by
 rcases h with h|⟨g,off,cap,cur,hv,hB,r⟩
 · exact Or.inl h
 · exact Or.inr ⟨g,off,cap,cur,hv,Al hB' hB,r⟩
structure DR (B b vb n h:Nat)(k:Bool)(E A:Nat)(img:ByteArray)(rs r1 r2:List ByteArray)(lm:Bool)(st:St)(rv:Value)(W:World):Prop where
 live:Dj n h k E A img rs r1 r2 lm st
 dev:Dev B W b st
 KW:Ap W vb b (BF h k) h A E img rv true
 row:Cw B W rv rs
 hvb:B≤vb
structure KS (B b vb n h:Nat)(k:Bool)(E:Nat)(r1 r2:List ByteArray)(fresh:ByteArray)(st:St)(W:World):Prop where
 dead:He n h k E r1 r2 fresh st
 dev:Dev B W b st
 KW:∃A img rv,Ap W vb b (BF h k) h A E img rv false
 hvb:B≤vb
section
variable {B b vb n h:Nat}{k:Bool}{E A:Nat}{img fresh:ByteArray}{rs r1 r2:List ByteArray}{lm:Bool}{st:St}{rv:Value}{W W':World}
theorem DR.below (hL:DR B b vb n h k E A img rs r1 r2 lm st rv W)(hb:Below W.heap.size W W'):DR B b vb n h k E A img rs r1 r2 lm st rv W':=
 ⟨hL.live,hL.dev.below hb,Af.below hL.KW hb,hL.row.below hb,hL.hvb⟩
theorem PG {C:Array Value}{fr:Nat×Nat}{j:Nat}{x:Value}{T:TypeId}(hv:W.heap[vb]?=some (.cells C T fr))(hT:T∈CY):Off CY W (W.setCell ⟨vb,j,none⟩ x):=(Off.refl _ _).setCell hv hT x
theorem Dev.JH (hd:Dev B W b st){C:Array Value}{fr:Nat×Nat}{j:Nat}{x:Value}{T:TypeId}(hv:W.heap[vb]?=some (.cells C T fr))(hT:T∈[82,84,98]):Dev B (W.setCell ⟨vb,j,none⟩ x) b st:=
 hd.off ((Off.refl [82,84,98] _).setCell hv hT x) (by decide) (by decide) (by decide)
theorem Af.KJ {hb:Nat}{T:TypeId}{F S A E:Nat}{R:List Value}(h:Af W hb T b F S A E R)(ho:Off AZ W W')(hT:T∈[82,84,98]):Af W' hb T b F S A E R:=h.off ho (by
 simp only[List.mem_cons,List.not_mem_nil,or_false]at hT;rcases hT with rfl|rfl|rfl<;>decide)
theorem Off.va {w w':World}(h:Off AZ w w'):Off CY w w':=h.mono zn
end
theorem Wo {B:Nat}{w:World}{v:Value}{n:Nat}{l:List ByteArray}(h:w.ownsRow B 9 1 v n (l.map Value.string))(hn:l.length=n):Cw B w v l:=by
 subst hn;rcases h.2 with⟨hv,h0⟩|⟨g,cap,cur,hv,hB,hg,h1,h2,h3,h4⟩
 · exact Or.inl ⟨Kj h0,hv⟩
 · refine Or.inr ⟨g,0,cap,cur,hv,hB,h1,h2,hg,by omega,fun j s hj=>?_⟩;have hlt:j<l.length:=(Ed.1 hj).1;have h5:(cur.toList.take (l.length*1))[j]?=some (.string s):=by
    have e:cur.toList.take (l.length*1)=l.map Value.string:=by simpa using h4
    rw[e,Hl,hj];rfl
   rw[Jh,if_pos (by omega)]at h5;rw[Gl];simpa using h5
theorem bg (B:Nat)(t ty:TypeId)(ht:t=59){w:World}{v:Value}{l:List ByteArray}(hrow:Cw B w v l)(ad:Addr)(c:Nat)(r:ByteArray)(hcell:w.cell? ad=some (.string r))(hl:l.length≤100000)(hB:B≤w.heap.size) :
 ∃v' w',(Builtin.append_ #[t,t] ty #[v,.slice (some ad) 1 c]).run Tryz.prog w=.ok v' w'∧Cw B w' v' (l++[r])∧(BC v'=BC v∨∃g,w.heap.size≤g∧BC v'=some g)∧Below B w w'∧(∀k,k<w.heap.size→some k≠BC v→w'.heap[k]?=w.heap[k]?)∧∃a n cap,v'=.slice a n cap:=by
 subst ht;obtain⟨i0,hi0,hz0,hz1,hz2⟩:=info_parts Tryz.Ml;have hnews:∀j u,([Value.string r]:List Value)[j]?=some u→w.cell? (ad.add j)=some u:=fun j u hj=>by
  rcases j with _|j
  · injection hj with hj;rw[←hj];obtain⟨b,o,sp⟩:=ad;have hsp:sp=none:=by simpa using World.cell?_spot hcell
    subst hsp;rw[Addr.add_mid,Nat.add_zero];exact hcell
  · cases hj
 have hone:∀u∈([Value.string r]:List Value),u.oneCell'=true:=fun u hu=>by rw[CU.1 hu];rfl
 have grown:∀v' w',w'.ownsRow w.heap.size 9 1 v' (l.length+1) (l.map Value.string++[Value.string r])→w.grownBy w' none→(Cw B w' v' (l++[r])∧(BC v'=BC v∨∃g,w.heap.size≤g∧BC v'=some g)∧Below B w w'∧(∀k,k<w.heap.size→some k≠BC v→w'.heap[k]?=w.heap[k]?)∧∃a n cap,v'=.slice a n cap):=fun v' w' h1 h2=>by
  have h3:Cw w.heap.size w' v' (l++[r]):=Wo (by rw[List.map_append];exact h1) (by simp);refine⟨h3.base hB,Or.inr ?_,(Ad _ _).grown h2 hB (fun j hj=>by cases hj),fun k hk _=>h2.block k hk (by simp),?_⟩
  · rcases h3 with⟨h4,_⟩|⟨g,off,cap,cur,hv,hBg,_⟩
    · simp at h4
    · exact⟨g,hBg,by rw[hv];rfl⟩
  · rcases h3 with⟨_,h4⟩|⟨g,off,cap,cur,hv,hBg,_⟩
    · exact⟨_,_,_,h4⟩
    · exact⟨_,_,_,hv⟩
 rcases hrow with⟨rfl,rfl⟩|⟨g,off,cap,cur,rfl,hBg,h1,h2,hg,h3,h4⟩
 · obtain⟨g,cap,w',hr,h5,h6,h7,h8⟩:=run_append_lies (P:=Tryz.prog) w 59 ty w.heap.size 9 i0 (.string ⟨#[]⟩) 1 16 Tryz.underlying59 hi0 hz0 hz1 hz2 rfl (by decide) (.slice none 0 0) 0 [] (FM _ _ _ _) ad 1 c [.string r] rfl hnews hone (by decide) (by unfold maxLen;omega) (by omega) (Ae _) _ rfl;exact⟨_,w',hr,grown _ _ h5 h6⟩
 · by_cases hroom:l.length+1≤cap
   · have hin:off+l.length<cur.size:=by omega
     have hr:=run_append_room_cells (P:=Tryz.prog) w 59 ty 9 i0 Tryz.underlying59 hi0 g off l.length cap ad 1 c [.string r] (by rw[hz1];rfl) hnews hone hroom (fun j hj=>by
      have hj0:j=0:=by simp at hj;omega
      subst hj0;rw[hz1,AB w g _ _ _ _ hg,Nat.mul_one,Nat.add_zero,Array.getElem?_eq_getElem hin];rfl) (fun j hj=>E8 w g _ _ _ hg)
     rw[hz1,Nat.mul_one]at hr;have hset:w.setCells g (off+l.length) [.string r]=w.setCell ⟨g,off+l.length,none⟩ (.string r):=rfl;rw[hset]at hr;have AbM:(w.setCell ⟨g,off+l.length,none⟩ (.string r)).heap[g]?=some (.cells (cur.set! (off+l.length) (.string r)) 9 (0,0)):=by
      rw[Bj w g _ _ _ _ hg];simp
     refine⟨_,_,hr,Or.inr ⟨g,off,cap,cur.set! (off+l.length) (.string r),by simp,hBg,by simp;omega,h2,AbM,by simp;omega,fun j s hj=>?_⟩,Or.inl rfl,(Ad _ _).setCell (p:=⟨g,_,none⟩) hBg _,fun k hk hne=>?_,⟨_,_,_,rfl⟩⟩
     · by_cases hjl:j<l.length
       · rw[LM hjl]at hj;have:=h4 j s hj;rw[Array.set!_eq_setIfInBounds,Lu (by omega)];exact this
       · have hj1:j=l.length:=by
          have:=(Ed.1 hj).1;simp at this;omega
         subst hj1;simp at hj;subst hj;rw[Array.set!_eq_setIfInBounds,Ql (by omega)]
     · rw[heap_setCell_other w ⟨g,_,none⟩ k _ (fun e=>hne (by rw[e];rfl))]
   · obtain⟨v',w',hr,h5,h6⟩:=run_append_arg_grows (P:=Tryz.prog) w 59 ty 9 i0 (.string ⟨#[]⟩) 1 16 Tryz.underlying59 hi0 hz0 hz1 hz2 rfl (by decide) ⟨g,off,none⟩ l.length cap (l.map Value.string) (by simp) (fun j u hj=>by
      rw[Hl]at hj;cases hlj:l[j]? with
      | none=>rw[hlj]at hj;cases hj
      | some s =>
       rw[hlj]at hj;injection hj with hj;rw[←hj,Addr.add_mid,AB w g _ _ _ _ hg];exact h4 j s hlj) ad 1 c [.string r] rfl hnews (by omega) (by unfold maxLen;omega) (by omega)
     exact⟨v',w',hr,grown _ _ h5 h6⟩
theorem Lv {ops:Array Oper}{o:Oper}{a:Act}{w:World}{K:Act→World→Prop}{Q:Exit→Act→World→Prop}{E:Prop}(hgd:o.guard=none)(s x:Operand)(ho:o.op=.call { callee:=.builtin .append,args:=#[s,x],argTypes:=#[59,59] })
 (B:Nat) (v:Value) (l:List ByteArray) (hs:a.eval s=v) (hrow:Cw B w v l) (ad:Addr) (c:Nat) (r:ByteArray) (hx:a.eval x=.slice (some ad) 1 c) (hcell:w.cell? ad=some (.string r)) (hl:l.length≤100000) (hB:B≤w.heap.size)
 (h:∀v' w',Cw B w' v' (l++[r])→(BC v'=BC v∨∃g,w.heap.size≤g∧BC v'=some g)→Below B w w'→(∀k,k<w.heap.size→some k≠BC v→w'.heap[k]?=w.heap[k]?)→(∃a n cap,v'=.slice a n cap)→K (a.put o.dst v') w') :
 if Region.wanted o (yielded ops a.tmps)=true then Oper.wp Tryz.prog o a w K Q else E:=by
 have hw:Region.wanted o (yielded ops a.tmps)=true:=by simp[Region.wanted,hgd]
 rw[if_pos hw];obtain⟨v',w',hr,h1,h2,h3,h4,h5⟩:=bg B 59 o.type rfl hrow ad c r hcell hl hB;unfold Oper.wp execOp;simp only[ho,resolve,invoke,builtin,Sem.run_bind,Sem.run_pure,Result.andThen_ok,List.map_toArray,List.map_cons,List.map_nil,hs,hx,hr];exact h v' w' h1 h2 h3 h4 h5
theorem LW {P:Program}{ops:Array Oper}{o:Oper}{a:Act}{w:World}{K:Act→World→Prop}{Q:Exit→Act→World→Prop}{E:Prop}(hgd:o.guard=none)(f:FuncId)(x:Operand)(xt:TypeId)(ho:o.op=.call { callee:=.value (.func f),args:=#[x],argTypes:=#[xt] })
 (hf:∀xs W,(callFunc f xs).run P W=.ok (.enter f xs) W) (vx v:Value) (hx:a.eval x=vx) (R:World→Prop) (hc:Calls P f #[vx] w fun e w'=>e=.returned v∧R w') (h:∀w',R w'→K (a.put o.dst v) w') :
 if Region.wanted o (yielded ops a.tmps)=true then Oper.wp P o a w K Q else E:=by
 have hw:Region.wanted o (yielded ops a.tmps)=true:=by simp[Region.wanted,hgd]
 rw[if_pos hw];unfold Oper.wp;have he:(execOp a.eval o).run P w=.ok (.enter f #[vx]) w:=by
  simp[execOp,ho,resolve,Deferred.ofValue,invoke,hf,Act.eval];simpa[Act.eval]using hx
 rw[he,Oper.upon_enter];refine hc.mono ?_;rintro e w2 ⟨rfl,h2⟩;exact h w2 h2
def bZ (s:ByteArray):List ByteArray:=if s.size=0 then [] else [s]
def Kg (B b vb n h:Nat)(k:Bool)(E A:Nat)(img:ByteArray)(rs r1 r2:List ByteArray)(lm:Bool)(st:St)(rv:Value)(s:ByteArray)(op:Bool)(q:Int)(W:World):Prop:=
 (q=0∧Cu h A s=0∧Ap W vb b (BF h k) h (A+(s.size+61)/62) E img rv op∧∃st',Dev B W b st'∧Dj n h k E (A+(s.size+61)/62) img (rs++[s]) r1 (r2++[s]) lm st') ∨
 (q=13∧lm=true∧Ap W vb b (BF h k) h A E img rv op∧∃st',Dev B W b st'∧He n h k E r1 (r2++bZ s) ⟨#[]⟩ st') ∨
 (q≠0∧q≠13∧Cu h A s=q∧Ap W vb b (BF h k) h A E img rv op∧Dev B W b st)
theorem Kg.RA {B b vb n h:Nat}{k:Bool}{E A:Nat}{img:ByteArray}{rs r1 r2:List ByteArray}{lm:Bool}{st:St}{rv:Value}{s:ByteArray}{op:Bool}{q:Int}{W:World}(hx:Kg B b vb n h k E A img rs r1 r2 lm st rv s op q W):∃A',Ap W vb b (BF h k) h A' E img rv op:=by
 rcases hx with⟨_,_,h,_⟩|⟨_,_,h,_⟩|⟨_,_,_,h,_⟩<;>exact⟨_,h⟩
theorem Kg.Ff {B b vb n h:Nat}{k:Bool}{E A:Nat}{img:ByteArray}{rs r1 r2:List ByteArray}{lm:Bool}{st:St}{rv:Value}{s:ByteArray}{op:Bool}{q:Int}{W:World}(hx:Kg B b vb n h k E A img rs r1 r2 lm st rv s op q W)(x:Bool):Kg B b vb n h k E A img rs r1 r2 lm st rv s x q (W.setCell ⟨vb,7,none⟩ (.bool x)):=by
 rcases hx with⟨h0,h1,h2,st',h3,h4⟩|⟨h0,h1,h2,st',h3,h4⟩|⟨h0,h00,h1,h2,h3⟩
 · exact Or.inl ⟨h0,h1,h2.Ff x,st',h3.JH h2 (by simp),h4⟩
 · exact Or.inr (Or.inl ⟨h0,h1,h2.Ff x,st',h3.JH h2 (by simp),h4⟩)
 · exact Or.inr (Or.inr ⟨h0,h00,h1,h2.Ff x,h3.JH h2 (by simp)⟩)
theorem En {st:St}{lm:Bool}(h:BJ st=true)(hl:lm=false→st.lim=false):lm=true:=by
 cases lm
 · have:=Cb (hl rfl);rw[h]at this;cases this
 · rfl
theorem Lh:E5 54:=fun xs W=>Tryz.call54 xs W
set_option maxHeartbeats 4000000 in
theorem Qe {B b vb n h g:Nat}{k:Bool}{E A:Nat}{img:ByteArray}{rs r1 r2:List ByteArray}{lm:Bool}{st:St}{rv:Value}{W:World}(s:ByteArray)(hL:DR B b vb n h k E A img rs r1 r2 lm st rv W)(hs:s.size≤9223372036854775807)(hB:B≤W.heap.size)
 (hg:Gc W g [(54,.agg #[.pointer (some ⟨vb,0,none⟩),.string s])]) :
 Calls Tryz.prog 50 #[.pointer (some ⟨vb,0,none⟩),.slice (some ⟨g,0,none⟩) (1:Nat) (1:Nat)] W fun e w'=>∃q:Int,e=.returned (.int .i64 q)∧Kg B b vb n h k E A img rs r1 r2 lm st rv s (decide (q≠13)) q w'∧Below B W w'∧Off CY W w':=by
 have hl:=hL.live;have hpd:=hl.Wl;have h9:=hl.n2;have h8:=hl.hn;have hle:=Fy hl.hn k;have hlen:=hl.len;have hroom:=hl.room;have h2:=hl.h2;have hend:=hl.end_;refine(jl g 1 [(54,.agg #[.pointer (some ⟨vb,0,none⟩),.string s])]
  (fun i W'=>(i=0∧W'=W)∨(i=1∧Kg B b vb n h k E A img rs r1 r2 lm st rv s true 0 W'∧Below B W W'∧Off CY W W'))
  (fun q W'=>Kg B b vb n h k E A img rs r1 r2 lm st rv s true q W'∧Below B W W'∧Off CY W W')
  hL.KW rfl (by decide) (fun k hk=>by rw[CU.1 hk];exact Lh) (Or.inl ⟨rfl,rfl⟩) ?_ ?_ ?_).mono ?_
 · rintro i W' (⟨_,rfl⟩|⟨_,_,_,ho⟩)
   · exact hg
   · exact ho _ (by decide) _ _ _ hg
 · intro i kk W' hk hI;rcases hI with⟨rfl,rfl⟩|⟨rfl,_⟩
   · injection hk with hk;subst hk;refine(O5 s (Ps:=fun x q w1=>WrP B b st (BF h k) A h s x q w1∧Below B W' w1∧Off AZ W' w1) hL.KW (by decide) (fun W2 hW2=>?_)).mono ?_
     · refine(Oh (hL.dev.below hW2) hl.good (by omega) (by omega) (by omega) hroom (by omega) (by omega) (Al hB hW2.size)).mono ?_;rintro e w' ⟨x,q,he,⟨h1,h3,h4⟩,h5⟩;exact⟨x,q,he,⟨h1,(hW2.mono hB).trans h3,(Off.Ar hW2 _).trans h4⟩,h5⟩
     · rintro e w' ⟨x,q,w1,rfl,⟨hw,hb,ho⟩,hv,hq⟩;refine⟨q,rfl,?_⟩;rcases hq with⟨rfl,rfl⟩|⟨hq,rfl⟩
       · refine Or.inl ⟨rfl,Or.inr ⟨rfl,?_,hb.setCell (p:=⟨vb,3,none⟩) hL.hvb _,ho.va.setCell hv (by decide) _⟩⟩;rcases hw with⟨h1,_⟩|⟨h1,_⟩|⟨hfit,j,hj,hc,hr,hd⟩
         · cases h1
         · exact absurd rfl h1
         · rcases hc with⟨_,rfl,rfl⟩|⟨h1,_⟩
           · obtain⟨f1,f2,f3⟩:=DJ hfit;have htl:(Bu s).take ((s.size+61)/62)=Bu s:=CO (by rw[Cf];exact Ae _);rw[htl]at hr hd;exact Or.inl ⟨rfl,hfit,hv.R9 _,_,hd.JH hv (by simp),hl.append f1 f2 f3 hr⟩
           · cases h1
       · refine Or.inr ⟨hq,?_,hb,ho.va⟩;rcases hw with⟨h1,hgo,hd⟩|⟨h1,Ka,hgo,hfit,hd⟩|⟨hfit,j,hj,hc,hr,hd⟩
         · exact Or.inr (Or.inl ⟨h1,En hgo hl.lim,hv,_,hd,hl.dead _ _⟩)
         · exact Or.inr (Or.inr ⟨h1,Ka,hfit,hv,hd⟩)
         · rcases hc with⟨h1,_⟩|⟨h1,hgo⟩
           · exact absurd h1 hq
           · obtain⟨f1,f2,f3⟩:=DJ hfit;have hpl:=hl.QM f1 f2 f3 hj hr ⟨#[]⟩;have hlim:(Bh st (BF h k+A) ((Bu s).take j)).lim=st.lim:=by
              have hp:=Jo (st:=st) (i:=BF h k+A) (fs:=(Bu s).take j) hl.good (by rw[BV,Cf];omega) (fun f hf=>Eb s f (List.mem_of_mem_take hf)) hr _ (Ae _);rw[List.take_length]at hp;exact hp.2.1
             refine Or.inr (Or.inl ⟨h1,En hgo (fun e=>hlim.trans (hl.lim e)),hv,_,hd,?_⟩);unfold bZ;rw[if_neg (by omega)];exact hpl
   · cases hk
 · rintro q W' (⟨_,⟨h1,_⟩|⟨_,hx,_⟩⟩|⟨_,hx,_⟩)
   · cases h1
   · obtain⟨A',hv⟩:=hx.RA;exact⟨_,_,_,_,_,_,_,_,hv⟩
   · obtain⟨A',hv⟩:=hx.RA;exact⟨_,_,_,_,_,_,_,_,hv⟩
 · rintro e w' ⟨q,w1,rfl,hq,rfl⟩;refine⟨q,rfl,?_⟩;have key:∀q,Kg B b vb n h k E A img rs r1 r2 lm st rv s true q w1∧Below B W w1∧Off CY W w1→Kg B b vb n h k E A img rs r1 r2 lm st rv s (decide (q≠13)) q (w1.setCell ⟨vb,7,none⟩ (.bool (decide (q≠13))))∧Below B W (w1.setCell ⟨vb,7,none⟩ (.bool (decide (q≠13))))∧Off CY W (w1.setCell ⟨vb,7,none⟩ (.bool (decide (q≠13)))):=fun q h=>by
    obtain⟨A',hv⟩:=h.1.RA;exact⟨h.1.Ff _,h.2.1.setCell (p:=⟨vb,7,none⟩) hL.hvb _,h.2.2.setCell hv (by decide) _⟩
   rcases hq with⟨rfl,⟨h1,_⟩|⟨_,hx⟩⟩|⟨_,hx⟩
   · cases h1
   · exact key 0 hx
   · exact key q hx
def Pz (B b vb n h:Nat)(k:Bool)(E A:Nat)(img:ByteArray)(rs r1 r2:List ByteArray)(lm:Bool)(st:St)(rv:Value)(s:ByteArray)(w:World)(e:Ending)(w':World):Prop:=
 ∃q:Int,e=.returned (.int .i64 q)∧Below B w w'∧EY (BC rv) w w' ∧
  ((q=0∧Cu h A s=0∧∃st' rv',DR B b vb n h k E (A+(s.size+61)/62) img (rs++[s]) r1 (r2++[s]) lm st' rv' w'∧(BC rv'=BC rv∨∃g,w.heap.size≤g∧BC rv'=some g)) ∨
   (q=13∧lm=true∧∃st',KS B b vb n h k E r1 (r2++bZ s) ⟨#[]⟩ st' w') ∨
   (q≠0∧q≠13∧Cu h A s=q∧DR B b vb n h k E A img rs r1 r2 lm st rv w'))
set_option maxHeartbeats 4000000 in
theorem Pj {B b vb n h:Nat}{k:Bool}{E A:Nat}{img:ByteArray}{rs r1 r2:List ByteArray}{lm:Bool}{st:St}{rv:Value}{w:World}(s:ByteArray)(hL:DR B b vb n h k E A img rs r1 r2 lm st rv w)(hs:s.size≤9223372036854775807)(hn:rs.length≤1000)(hB:B≤w.heap.size) :
 Calls Tryz.prog 24 #[.pointer (some ⟨vb,0,none⟩),.string s] w (Pz B b vb n h k E A img rs r1 r2 lm st rv s w):=by
 unfold Pz;have HL:=Aa hL;obtain⟨W1,hW1⟩:∃W1,(w.alloc (.cells #[.pointer (some ⟨vb,0,none⟩),.string s] 119)).alloc (.cells #[.func (.func 54) #[.agg #[.pointer (some ⟨vb,0,none⟩),.string s]] #[]] 169)=W1:=⟨_,rfl⟩;have HB1:Hid (Below w.heap.size w W1):=Aa (by rw[←hW1];exact((Ad _ _).alloc (Ae _) _).alloc (by simp) _);have hst:Gc W1 (w.heap.size+1) [(54,.agg #[.pointer (some ⟨vb,0,none⟩),.string s])]:=by rw[←hW1];exact heap_alloc2_new _ _ _
 have cD:=Qe s (hL.below HB1.out) hs (Al hB HB1.out.size) hst;have cC:=fun(hq:s.size≤60000) W=>LY s W (by omega)
 clear hL hst;go_enter Tryz.func24,Tryz.ntmps24;go_wp2_with fail
 try rw[hW1]
 clear hW1;refine cD.mono ?_;rintro e w2 ⟨q,rfl,hx,hb2,ho2⟩;have HX:=Aa hx;have HB2:Hid (Below B w w2):=Aa ((HB1.out.mono hB).trans hb2);have IL:Hid (Off CY w w2):=Aa ((Off.Ar HB1.out _).trans ho2);clear hx hb2 ho2 cD;by_cases hq:q=0
 · subst hq;have hrow:Cw B w2 rv rs:=HL.out.row.off IL.out;have vW:=Aa hrow;obtain⟨hfit,hv,st',hd,hl'⟩:Cu h A s=0∧Ap w2 vb b (BF h k) h (A+(s.size+61)/62) E img rv true∧∃st',Dev B w2 b st'∧Dj n h k E (A+(s.size+61)/62) img (rs++[s]) r1 (r2++[s]) lm st':=by
    rcases HX.out with⟨_,h1,h2,h3⟩|⟨h1,_⟩|⟨h1,_⟩
    · exact⟨h1,h2,h3⟩
    · cases h1
    · exact absurd rfl h1
   have HV:=Aa hv;have HD:=Aa hd;have Ux:=Aa hl';have LJ:=Aa hfit;have cC:=cC (DJ hfit).2.1;obtain⟨va,vn,vc,rfl⟩:∃a m c,rv=.slice a m c:=by
    rcases hrow with⟨_,h1⟩|⟨g,off,cap,cur,h1,_⟩<;>exact⟨_,_,_,h1⟩
   have c6:=hv.more.2.1;have f6:=hv.frozen 6;have fe:Hid (∀W,Below w2.heap.size w2 W→Ap W vb b (BF h k) h (A+(s.size+61)/62) E img (.slice va vn vc) true∧Cw B W (.slice va vn vc) rs):=Aa (fun W hW=>⟨Af.below HV.out hW,vW.out.below hW⟩);have rF:Hid (∀W,Below w2.heap.size w2 W→W.cell? ⟨vb,6,none⟩=some (.slice va vn vc)∧W.frozen? ⟨vb,6,none⟩=false):=Aa (fun W hW=>⟨(fe.out W hW).1.more.2.1,(fe.out W hW).1.frozen 6⟩);have HAP:Hid (∀(W W9:World),Below w2.heap.size w2 W→(∀j,j<W.heap.size→some j≠BC (.slice va vn vc)→W9.heap[j]?=W.heap[j]?)→Ap W9 vb b (BF h k) h (A+(s.size+61)/62) E img (.slice va vn vc) true):=Aa (fun W W9 hW hk=>by
    obtain⟨FI,Rl⟩:=fe.out W hW;have hne:some vb≠BC (.slice va vn vc):=fun e=>by
     rcases Rl with⟨_,h1⟩|⟨g,off,cap,cur,h1,_,_,_,hg,_⟩
     · rw[h1]at e;cases e
     · rw[h1]at e;injection e with e;have e2:vb=g:=e;subst e2;have yC:W.heap[vb]?=_:=FI;rw[yC]at hg;injection hg with hg;injection hg with _ hT _
       revert hT
       decide
    show W9.heap[vb]?=_
    rw[hk vb (Ab FI) hne];exact FI)
   have Xr:Hid (∀(W W9:World) (v9:Value),Below w2.heap.size w2 W→Cw B W9 v9 (rs++[s])→(BC v9=BC (.slice va vn vc)∨∃g,W.heap.size≤g∧BC v9=some g)→Below B W W9→(∀j,j<W.heap.size→some j≠BC (.slice va vn vc)→W9.heap[j]?=W.heap[j]?) →
    Below B w (W9.setCell ⟨vb,6,none⟩ v9)∧EY (BC (.slice va vn vc)) w (W9.setCell ⟨vb,6,none⟩ v9)∧∃st' rv',DR B b vb n h k E (A+(s.size+61)/62) img (rs++[s]) r1 (r2++[s]) lm st' rv' (W9.setCell ⟨vb,6,none⟩ v9)∧(BC rv'=BC (.slice va vn vc)∨∃g,w.heap.size≤g∧BC rv'=some g)):=Aa (fun W W9 v9 hW Rl hbl Gh yN=>by
    have FI:=HAP.out W W9 hW yN;have hwW:w.heap.size≤W.heap.size:=Al HB2.out.size hW.size;have hoW:EY (BC (.slice va vn vc)) W W9:=fun T hT j cs fr hj hk=>by rw[yN j (Ab hk) hj];exact hk
    have hset:Off CY W9 (W9.setCell ⟨vb,6,none⟩ v9):=PG FI (by decide);have hw2:w2.heap.size≤W.heap.size:=hW.size;refine⟨(HB2.out.trans ((hW.mono (Al hB HB2.out.size)).trans Gh)).setCell (p:=⟨vb,6,none⟩) HL.out.hvb _,(EY.OM (IL.out.trans (Off.Ar hW _))).trans (hoW.trans (EY.OM hset)),st',v9,⟨Ux.out,?_,FI.Q8 v9,Rl.off hset,HL.out.hvb⟩,?_⟩
    · have hd1:Dev B W b st':=HD.out.below hW;have hd2:Dev B W9 b st':=hd1.off (ex:=[9]) (fun T hT j cs fr hk=>by
       rw[yN j (Ab hk) (fun e=>by
        rcases(fe.out W hW).2 with⟨_,h1⟩|⟨g,off,cap,cur,h1,_,_,_,hg,_⟩
        · rw[h1]at e;cases e
        · rw[h1]at e;injection e with e;have e2:j=g:=e;subst e2;rw[hk]at hg;injection hg with hg;injection hg with _ h3 _;exact hT (by rw[h3];simp))]
       exact hk) (by decide) (by decide) (by decide)
      exact hd2.JH FI (by simp)
    · rcases hbl with h1|⟨g,h1,h2⟩
      · exact Or.inl h1
      · exact Or.inr ⟨g,by omega,h2⟩)
   clear hrow hv hd hl' hfit HX;go_wp2_with fail;go_region_law (first|(refine LW rfl 55 _ _ rfl (fun xs W=>Tryz.call55 xs W) (.string s) (.string s) rfl (fun W9=>Below w2.drew.heap.size w2.drew W9) (cC w2.drew) ?_;intro w8 Hr;have Rm:Below w2.heap.size w2 w8:=(Ad _ _).drew.trans Hr;have q8:=(rF.out _ Rm).1;have g8:=(rF.out _ Rm).2;have az:Below w2.heap.size w2 (w8.alloc (.cells #[.string s] 9)):=Rm.alloc Rm.size _;have q9:=(rF.out _ az).1;have g9:=(rF.out _ az).2;have Rl:=(fe.out _ az).2)|(refine Lv rfl _ _ rfl B (.slice va vn vc) rs rfl Rl ⟨w8.heap.size,0,none⟩ 1 s rfl (by rw[AB _ _ _ _ _ _ (Ai _ _)];rfl) (by omega) (Al (Al hB HB2.out.size) az.size) ?_;intro v7 w7 wM oD IG yO yE;obtain⟨a7,n7,c7,rfl⟩:=yE;have hv7:=HAP.out _ _ az yO;have q7:=hv7.more.2.1;have g7:=hv7.frozen 6))
   all_goals
    have HE:=Aa (Xr.out _ _ _ az wM oD IG yO);clear az wM oD IG yO Rl Rm q8 g8 q9 g9 hv7 q7 g7;go_wp2;go_ret;exact⟨0,rfl,HE.out.1,HE.out.2.1,Or.inl ⟨rfl,LJ.out,HE.out.2.2⟩⟩
 · have hqz:(q==0)=false:=by simpa using hq
   have HE:Hid ((q=13∧lm=true∧∃st',KS B b vb n h k E r1 (r2++bZ s) ⟨#[]⟩ st' w2)∨(q≠0∧q≠13∧Cu h A s=q∧DR B b vb n h k E A img rs r1 r2 lm st rv w2)):=Aa (by
    rcases HX.out with⟨h0,_⟩|⟨Ka,h1,hv,st',hd,hD⟩|⟨h0,Ka,h1,hv,hd⟩
    · exact absurd h0 hq
    · refine Or.inl ⟨Ka,h1,st',hD,hd,?_,HL.out.hvb⟩;rw[Ka]at hv;exact⟨_,_,_,hv⟩
    · refine Or.inr ⟨h0,Ka,h1,HL.out.live,hd,?_,HL.out.row.off IL.out,HL.out.hvb⟩;rw[AX Ka]at hv;exact hv)
   clear HX;go_wp2;go_ret;exact⟨q,rfl,HB2.out,EY.OM IL.out,Or.inr HE.out⟩
theorem F4:E5 53:=fun xs W=>Tryz.call53 xs W
def RnI (n h:Nat)(k:Bool)(E:Nat)(r1 r2:List ByteArray)(lm:Bool)(st0:St)(s:ByteArray):Nat→St→Prop
 | 0,st=>st=st0
 | 1,st=>st=st0
 | 2,st=>st=st0
 | 3,st=>st=st0
 | 4,st=>F6 n h k E r1 r2 (h+1) lm st∧AL (st.now.getD (BF h (!k)) ⟨#[]⟩)=0
 | 5,st=>F6 n h k E r1 r2 0 lm st∧AL (st.now.getD (BF h (!k)) ⟨#[]⟩)=0
 | 6,st=>F6 n h k E r1 r2 h lm st∧Holds st (BF h (!k)) h []∧AL (st.now.getD (BF h (!k)) ⟨#[]⟩)=0
 | 7,st=>F6 n h k E r1 r2 (2*h) lm st∧Holds st (BF h (!k)) h [s]∧AL (st.now.getD (BF h (!k)) ⟨#[]⟩)=0
 | 8,st=>F6 n h k E r1 r2 0 lm st∧(Holds st (BF h (!k)) h [s]∧AL (st.now.getD (BF h (!k)) ⟨#[]⟩)=0)∧CW st (fun x=>x=st.now)
 | 9,st=>He n h k E r1 r2 s st∧Dj n h (!k) (E+1) (1+(s.size+61)/62) s [] [s] [] lm (Dq st)
 | _,st=>Dj n h (!k) (E+1) (1+(s.size+61)/62) s [] [s] [] lm st∧st.pend=[]
theorem Mw:E5 47:=fun xs W=>Tryz.call47 xs W
theorem VE:E5 110:=fun xs W=>Tryz.call110 xs W
theorem jK:E5 158:=fun xs W=>Tryz.call158 xs W
theorem Qc:E5 111:=fun xs W=>Tryz.call111 xs W
theorem MZ:E5 52:=fun xs W=>Tryz.call52 xs W
theorem VC:E5 112:=fun xs W=>Tryz.call112 xs W
def gH (b vb nb:Nat)(s:ByteArray):List (Nat×Value):=
 [(47,.pointer (some ⟨nb,0,none⟩)),(110,.agg #[.pointer (some ⟨nb,0,none⟩),.string s]),(158,.pointer (some ⟨vb,0,none⟩)),(111,.pointer (some ⟨nb,0,none⟩)),(53,.pointer (some ⟨b,0,none⟩)),(52,.pointer (some ⟨nb,0,none⟩)),(54,.agg #[.pointer (some ⟨nb,0,none⟩),.string s]),(53,.pointer (some ⟨b,0,none⟩)),(112,.pointer (some ⟨nb,0,none⟩)),(53,.pointer (some ⟨b,0,none⟩))]
theorem mq {st:St}{i:Nat}{fs:List ByteArray}(hg:Good st)(hi:i+fs.length≤st.now.length)(hs:∀f∈fs,f.size=64)(hr:Nc st i fs):(Bh st i fs).lim=st.lim:=by
 have hp:=Jo hg hi hs hr _ (Ae _);rw[List.take_length]at hp;exact hp.2.1
def Y9 (W:World)(nb:Nat):Prop:=W.heap[nb]?=some (.cells #[.pointer none,.int .i64 0,.int .i64 0,.int .i64 0,.int .u64 0] 82 (0,0))
theorem Y9.all {W:World}{nb:Nat}(h:Y9 W nb):(W.cell? ⟨nb,0,none⟩=some (.pointer none)∧W.cell? ⟨nb,1,none⟩=some (.int .i64 0)∧W.cell? ⟨nb,2,none⟩=some (.int .i64 0)∧W.cell? ⟨nb,3,none⟩=some (.int .i64 0)∧W.cell? ⟨nb,4,none⟩=some (.int .u64 0))∧W.frozen? ⟨nb,0,none⟩=false∧W.frozen? ⟨nb,1,none⟩=false∧W.frozen? ⟨nb,2,none⟩=false∧W.frozen? ⟨nb,3,none⟩=false∧W.frozen? ⟨nb,4,none⟩=false:=by
 refine⟨⟨?_,?_,?_,?_,?_⟩,E8 _ _ _ _ _ h,E8 _ _ _ _ _ h,E8 _ _ _ _ _ h,E8 _ _ _ _ _ h,E8 _ _ _ _ _ h⟩<;>(rw[AB W nb _ _ _ _ h];rfl)
end Go.Proofs.YtdmkhmeaphaapaaGreat.V
