/- Kit. -/
import Derived.Test.YtdmkhmeaphaapaaGreatCZ32
import Derived.Test.YtdmkhmeaphaapaaGreatCZ31
import Derived.ArgAppend
import Derived.Deep.RegionLaw
import Derived.Test.YtdmkhmeaphaapaaGreatCZ0
set_option maxRecDepth 100000
set_option linter.unusedVariables false
set_option linter.unusedSimpArgs false
namespace Go.Proofs.YtdmkhmeaphaapaaGreat.V
open Go.RowKit Go.Sort
theorem S9 {st:St}(F S:Int)(h:BJ st=true):Du st F S=13:=by
 unfold Du;rw[MM h,if_neg (by decide)]
def HdP (B b:Nat)(st:St)(F N:Nat)(q:Int)(w':World):Prop:=(q=13∧BJ st=true∧Dev B w' b st)∨(q=0∧BJ st=false∧Dev B w' b (BV st F (C8 N)))
def FlP (B b:Nat)(st:St)(q:Int)(w':World):Prop:=(q=13∧BJ st=true∧Dev B w' b st)∨(q=0∧BJ st=false∧Dev B w' b (Dt st))
def WpP (B b:Nat)(st:St)(F A h:Nat)(q:Int)(w':World):Prop:=(q=13∧BJ st=true∧Dev B w' b st)∨(∃j,j≤h-A∧(q=0∧j=h-A∨q=13∧BJ (AQ st (F+A) j)=true)∧MO st (F+A) j∧Dev B w' b (AQ st (F+A) j))
def WrP (B b:Nat)(st:St)(F A h:Nat)(s:ByteArray)(x:Nat)(q:Int)(w':World):Prop:=
 (q=13∧BJ st=true∧Dev B w' b st)∨(q≠0∧q≠13∧BJ st=false∧Df h A s=q∧Dev B w' b st) ∨
 (Df h A s=0∧∃j,j≤(s.size+61)/62∧(q=0∧j=(s.size+61)/62∧x=A+(s.size+61)/62∨q=13∧BJ (Bj st (F+A) ((BF s).take j))=true)∧Nv st (F+A) ((BF s).take j)∧Dev B w' b (Bj st (F+A) ((BF s).take j)))
theorem Ep {S A:Nat}{s:ByteArray}(h:Df S A s=0):1≤s.size∧s.size≤60000∧A+(s.size+61)/62≤S:=by
 unfold Df at h;split at h
 · cases h
 · split at h
   · cases h
   · omega
theorem Zj (S A:Nat)(s:ByteArray):Df S A s=0∨Df S A s=4∨Df S A s=11:=by
 unfold Df;split
 · simp
 · split<;>simp
section
variable {B b F A h N:Nat}{st:St}{w:World}
theorem Ky (hd:Dev B w b st)(hg:Good st)(hF:F<st.now.length)(hp:st.pend.length≤1000)(hB:B≤w.heap.size)(hN:N<18446744073709551616) :
 Calls Tryz.prog 153 #[.pointer (some ⟨b,0,none⟩),.int .i64 F,.int .u64 N] w fun e w'=>∃q:Int,e=.returned (.int .i64 q)∧(HdP B b st F N q w'∧Below B w w'∧Off AZ w w')∧Off AZ w w':=by
 cases hgo:BJ st
 · refine(WI B b st F N w hd hg hgo hF hp hB hN).mono ?_;rintro e w' ⟨rfl,h1,h2,h3⟩;exact⟨0,rfl,⟨Or.inr ⟨rfl,hgo,h1⟩,h2,h3⟩,h3⟩
 · refine(UH B b st F N w hd hg hgo hp hB hN).mono ?_;rintro e w' ⟨rfl,h1,h2,h3⟩;exact⟨13,rfl,⟨Or.inl ⟨rfl,hgo,h1⟩,h2,h3⟩,h3⟩
theorem IJ (hd:Dev B w b st)(hg:Good st)(hp:st.pend.length≤1000)(hB:B≤w.heap.size) :
 Calls Tryz.prog 53 #[.pointer (some ⟨b,0,none⟩)] w fun e w'=>∃q:Int,e=.returned (.int .i64 q)∧FlP B b st q w'∧Below B w w'∧Off AZ w w':=by
 refine(xG B b st w hd hg (by omega) hB).mono ?_;rintro e w' ⟨rfl,h1,h2,h3⟩;cases hgo:BJ st
 · rw[hgo,if_neg (by decide)]at h1;exact⟨0,by simp,Or.inr ⟨rfl,hgo,h1⟩,h2,h3⟩
 · rw[hgo,if_pos rfl]at h1;exact⟨13,by simp,Or.inl ⟨rfl,hgo,h1⟩,h2,h3⟩
theorem Rp (hd:Dev B w b st)(hg:Good st)(hF:F+h≤st.now.length)(h1:1≤h)(hA:1≤A)(hA2:A≤100000)(hp:st.pend.length+h≤1000)(hB:B≤w.heap.size) :
 Calls Tryz.prog 94 #[.pointer (some ⟨b,0,none⟩),.int .i64 F,.int .i64 h,.int .i64 A] w fun e w'=>∃q:Int,e=.returned (.int .i64 q)∧(WpP B b st F A h q w'∧Below B w w'∧Off AZ w w')∧Off AZ w w':=by
 cases hgo:BJ st
 · refine(mV B b st F h A A w hd hg (G9 hgo h1 hF) hF (by omega) (by omega) hp hB).mono ?_;rintro e w' ⟨j,hj,he,h2,h3,h4,h5⟩;rcases he with⟨rfl,he⟩|⟨rfl,he,hgj⟩
   · exact⟨0,rfl,⟨Or.inr ⟨j,hj,Or.inl ⟨rfl,he⟩,h2,h3⟩,h4,h5⟩,h5⟩
   · exact⟨13,rfl,⟨Or.inr ⟨j,hj,Or.inr ⟨rfl,hgj⟩,h2,h3⟩,h4,h5⟩,h5⟩
 · refine(uZ B b st F h A 13 w hd hg (S9 _ _ hgo) (by decide)).mono ?_;rintro e w' ⟨rfl,h2⟩;exact⟨13,rfl,⟨Or.inl ⟨rfl,hgo,hd.below h2⟩,h2.mono hB,Off.Ar h2 _⟩,Off.Ar h2 _⟩
theorem RV {s:ByteArray}(hd:Dev B w b st)(hg:Good st)(hF:F+h≤st.now.length)(h1:1≤h)(hA:1≤A)(gU:A≤h)(hs:s.size≤9223372036854775807)(hp:st.pend.length+h≤1000)(hB:B≤w.heap.size) :
 Calls Tryz.prog 95 #[.pointer (some ⟨b,0,none⟩),.int .i64 F,.int .i64 h,.int .i64 A,.string s] w fun e w'=>∃(x:Nat) (q:Int),e=.returned (.tuple #[.int .i64 x,.int .i64 q])∧(WrP B b st F A h s x q w'∧Below B w w'∧Off AZ w w')∧Off AZ w w':=by
 have hf:=hg.few;cases hgo:BJ st
 · by_cases hfit:Df h A s=0
   · obtain⟨f1,f2,f3⟩:=Ep hfit;refine(iK B b st F h A s w hd hg (G9 hgo h1 hF) hF hA f1 f2 f3 (by omega) hB).mono ?_;rintro e w' ⟨j,hj,he,h2,h3,h4,h5⟩;rcases he with⟨rfl,he⟩|⟨rfl,he,hgj⟩
     · exact⟨A+(s.size+61)/62,0,rfl,⟨Or.inr (Or.inr ⟨hfit,j,hj,Or.inl ⟨rfl,he,rfl⟩,h2,h3⟩),h4,h5⟩,h5⟩
     · exact⟨0,13,rfl,⟨Or.inr (Or.inr ⟨hfit,j,hj,Or.inr ⟨rfl,hgj⟩,h2,h3⟩),h4,h5⟩,h5⟩
   · have hq:Wt h A s.size=Df h A s:=by
      unfold Wt Df;rw[if_neg (by omega)];by_cases c1:s.size<1∨60000<s.size
      · rw[if_pos c1,if_pos c1]
      · rw[if_neg c1,if_neg c1];by_cases c2:h<A+(s.size+61)/62
        · rw[if_pos (show(h:Int)-(A:Int)<(((s.size+61)/62:Nat):Int) by omega),if_pos c2]
        · rw[if_neg (show ¬(h:Int)-(A:Int)<(((s.size+61)/62:Nat):Int) by omega),if_neg c2]
     refine(iJ B b st F h A _ s w hd hg (G9 hgo h1 hF) hF (by omega) hs hq hfit).mono ?_;rintro e w' ⟨rfl,h2⟩;exact⟨0,_,rfl,⟨Or.inr (Or.inl ⟨hfit,by rcases Zj h A s with h|h|h<;>rw[h]<;>decide,hgo,rfl,hd.below h2⟩),h2.mono hB,Off.Ar h2 _⟩,Off.Ar h2 _⟩
 · refine(mP B b st F h A 13 s w hd hg (S9 _ _ hgo) (by decide)).mono ?_;rintro e w' ⟨rfl,h2⟩;exact⟨0,13,rfl,⟨Or.inl ⟨rfl,hgo,hd.below h2⟩,h2.mono hB,Off.Ar h2 _⟩,Off.Ar h2 _⟩
end
def CO:Value→Option Nat
 | .slice (some a) _ _=>some a.block
 | _=>none
def Ij (g:Option Nat)(w w':World):Prop:=∀(T:TypeId),T∉DT→∀(k:Nat) (cs:Array Value) (fr:Nat×Nat),some k≠g→w.heap[k]?=some (.cells cs T fr)→w'.heap[k]?=some (.cells cs T fr)
theorem Ij.Vs {g:Option Nat}{w w':World}(h:Off DT w w'):Ij g w w':=fun T hT k cs fr _ hk=>h T hT k cs fr hk
theorem Ij.trans {g:Option Nat}{a b c:World}(h:Ij g a b)(h':Ij g b c):Ij g a c:=fun T hT k cs fr hg hk=>h' T hT k cs fr hg (h T hT k cs fr hg hk)
theorem CX.off {B:Nat}{w w':World}{v:Value}{l:List ByteArray}(h:CX B w v l)(ho:Off DT w w'):CX B w' v l:=by
 rcases h with h|⟨g,off,cap,cur,hv,hB,h1,h2,hg,h3,h4⟩
 · exact Or.inl h
 · exact Or.inr ⟨g,off,cap,cur,hv,hB,h1,h2,ho _ (by decide) _ _ _ hg,h3,h4⟩
theorem CX.below {B:Nat}{w w':World}{v:Value}{l:List ByteArray}(h:CX B w v l)(hb:Below w.heap.size w w'):CX B w' v l:=h.off (Off.Ar hb _)
theorem CX.lt {B:Nat}{w:World}{v:Value}{l:List ByteArray}(h:CX B w v l){g:Nat}(hg:CO v=some g):B≤g∧g<w.heap.size:=by
 rcases h with⟨_,rfl⟩|⟨g',off,cap,cur,rfl,hB,h1,h2,hgg,h3,h4⟩
 · cases hg
 · injection hg with hg;subst hg;exact⟨hB,Ab hgg⟩
theorem CX.base {B B':Nat}{w:World}{v:Value}{l:List ByteArray}(h:CX B w v l)(hB':B'≤B):CX B' w v l:=by
 rcases h with h|⟨g,off,cap,cur,hv,hB,r⟩
 · exact Or.inl h
 · exact Or.inr ⟨g,off,cap,cur,hv,Ao hB' hB,r⟩
structure FT (B b vb n h:Nat)(k:Bool)(E A:Nat)(img:ByteArray)(rs r1 r2:List ByteArray)(lm:Bool)(st:St)(rv:Value)(W:World):Prop where
 live:Dx n h k E A img rs r1 r2 lm st
 dev:Dev B W b st
 Md:Ay W vb b (BH h k) h A E img rv true
 row:CX B W rv rs
 hvb:B≤vb
section
variable {B b vb n h:Nat}{k:Bool}{E A:Nat}{img fresh:ByteArray}{rs r1 r2:List ByteArray}{lm:Bool}{st:St}{rv:Value}{W W':World}
theorem FT.below (hL:FT B b vb n h k E A img rs r1 r2 lm st rv W)(hb:Below W.heap.size W W'):FT B b vb n h k E A img rs r1 r2 lm st rv W':=
 ⟨hL.live,hL.dev.below hb,Af.below hL.Md hb,hL.row.below hb,hL.hvb⟩
theorem RZ {C:Array Value}{fr:Nat×Nat}{j:Nat}{x:Value}{T:TypeId}(hv:W.heap[vb]?=some (.cells C T fr))(hT:T∈DT):Off DT W (W.setCell ⟨vb,j,none⟩ x):=(Off.refl _ _).setCell hv hT x
theorem Dev.Mc (hd:Dev B W b st){C:Array Value}{fr:Nat×Nat}{j:Nat}{x:Value}{T:TypeId}(hv:W.heap[vb]?=some (.cells C T fr))(hT:T∈[82,84,98]):Dev B (W.setCell ⟨vb,j,none⟩ x) b st:=
 hd.off ((Off.refl [82,84,98] _).setCell hv hT x) (by decide) (by decide) (by decide)
theorem Af.KU {hb:Nat}{T:TypeId}{F S A E:Nat}{R:List Value}(h:Af W hb T b F S A E R)(ho:Off AZ W W')(hT:T∈[82,84,98]):Af W' hb T b F S A E R:=h.off ho (by
 simp only[List.mem_cons,List.not_mem_nil,or_false]at hT;rcases hT with rfl|rfl|rfl<;>decide)
theorem Off.va {w w':World}(h:Off AZ w w'):Off DT w w':=h.mono AaK
end
theorem WT {B:Nat}{w:World}{v:Value}{n:Nat}{l:List ByteArray}(h:w.ownsRow B 9 1 v n (l.map Value.string))(hn:l.length=n):CX B w v l:=by
 subst hn;rcases h.2 with⟨hv,h0⟩|⟨g,cap,cur,hv,hB,hg,h1,h2,h3,h4⟩
 · exact Or.inl ⟨Kw h0,hv⟩
 · refine Or.inr ⟨g,0,cap,cur,hv,hB,h1,h2,hg,by omega,fun j s hj=>?_⟩;have hlt:j<l.length:=(DL.1 hj).1;have h5:(cur.toList.take (l.length*1))[j]?=some (.string s):=by
    have e:cur.toList.take (l.length*1)=l.map Value.string:=by simpa using h4
    rw[e,GZ,hj];rfl
   rw[JR,if_pos (by omega)]at h5;rw[Gh];simpa using h5
theorem dK (B:Nat)(t ty:TypeId)(ht:t=59){w:World}{v:Value}{l:List ByteArray}(hrow:CX B w v l)(ad:Addr)(c:Nat)(r:ByteArray)(hcell:w.cell? ad=some (.string r))(hl:l.length≤100000)(hB:B≤w.heap.size) :
 ∃v' w',(Builtin.append_ #[t,t] ty #[v,.slice (some ad) 1 c]).run Tryz.prog w=.ok v' w'∧CX B w' v' (l++[r])∧(CO v'=CO v∨∃g,w.heap.size≤g∧CO v'=some g)∧Below B w w'∧(∀k,k<w.heap.size→some k≠CO v→w'.heap[k]?=w.heap[k]?)∧∃a n cap,v'=.slice a n cap:=by
 subst ht;obtain⟨i0,hi0,hz0,hz1,hz2⟩:=info_parts Tryz.Mw;have hnews:∀j u,([Value.string r]:List Value)[j]?=some u→w.cell? (ad.add j)=some u:=fun j u hj=>by
  rcases j with _|j
  · injection hj with hj;rw[←hj];obtain⟨b,o,sp⟩:=ad;have hsp:sp=none:=by simpa using World.cell?_spot hcell
    subst hsp;rw[Addr.add_mid,Nat.add_zero];exact hcell
  · cases hj
 have hone:∀u∈([Value.string r]:List Value),u.oneCell'=true:=fun u hu=>by rw[Cn.1 hu];rfl
 have grown:∀v' w',w'.ownsRow w.heap.size 9 1 v' (l.length+1) (l.map Value.string++[Value.string r])→w.grownBy w' none→(CX B w' v' (l++[r])∧(CO v'=CO v∨∃g,w.heap.size≤g∧CO v'=some g)∧Below B w w'∧(∀k,k<w.heap.size→some k≠CO v→w'.heap[k]?=w.heap[k]?)∧∃a n cap,v'=.slice a n cap):=fun v' w' h1 h2=>by
  have h3:CX w.heap.size w' v' (l++[r]):=WT (by rw[List.map_append];exact h1) (by simp);refine⟨h3.base hB,Or.inr ?_,(Ad _ _).grown h2 hB (fun j hj=>by cases hj),fun k hk _=>h2.block k hk (by simp),?_⟩
  · rcases h3 with⟨h4,_⟩|⟨g,off,cap,cur,hv,hBg,_⟩
    · simp at h4
    · exact⟨g,hBg,by rw[hv];rfl⟩
  · rcases h3 with⟨_,h4⟩|⟨g,off,cap,cur,hv,hBg,_⟩
    · exact⟨_,_,_,h4⟩
    · exact⟨_,_,_,hv⟩
 rcases hrow with⟨rfl,rfl⟩|⟨g,off,cap,cur,rfl,hBg,h1,h2,hg,h3,h4⟩
 · obtain⟨g,cap,w',hr,h5,h6,h7,h8⟩:=run_append_lies (P:=Tryz.prog) w 59 ty w.heap.size 9 i0 (.string ⟨#[]⟩) 1 16 Tryz.underlying59 hi0 hz0 hz1 hz2 rfl (by decide) (.slice none 0 0) 0 [] (FV _ _ _ _) ad 1 c [.string r] rfl hnews hone (by decide) (by unfold maxLen;omega) (by omega) (Ae _) _ rfl;exact⟨_,w',hr,grown _ _ h5 h6⟩
 · by_cases hroom:l.length+1≤cap
   · have hin:off+l.length<cur.size:=by omega
     have hr:=run_append_room_cells (P:=Tryz.prog) w 59 ty 9 i0 Tryz.underlying59 hi0 g off l.length cap ad 1 c [.string r] (by rw[hz1];rfl) hnews hone hroom (fun j hj=>by
      have hj0:j=0:=by simp at hj;omega
      subst hj0;rw[hz1,AB w g _ _ _ _ hg,Nat.mul_one,Nat.add_zero,Array.getElem?_eq_getElem hin];rfl) (fun j hj=>Fp w g _ _ _ hg)
     rw[hz1,Nat.mul_one]at hr;have hset:w.setCells g (off+l.length) [.string r]=w.setCell ⟨g,off+l.length,none⟩ (.string r):=rfl;rw[hset]at hr;have AcC:(w.setCell ⟨g,off+l.length,none⟩ (.string r)).heap[g]?=some (.cells (cur.set! (off+l.length) (.string r)) 9 (0,0)):=by
      rw[Bn w g _ _ _ _ hg];simp
     refine⟨_,_,hr,Or.inr ⟨g,off,cap,cur.set! (off+l.length) (.string r),by simp,hBg,by simp;omega,h2,AcC,by simp;omega,fun j s hj=>?_⟩,Or.inl rfl,(Ad _ _).setCell (p:=⟨g,_,none⟩) hBg _,fun k hk hne=>?_,⟨_,_,_,rfl⟩⟩
     · by_cases hjl:j<l.length
       · rw[LG hjl]at hj;have:=h4 j s hj;rw[Array.set!_eq_setIfInBounds,LF (by omega)];exact this
       · have hj1:j=l.length:=by
          have:=(DL.1 hj).1;simp at this;omega
         subst hj1;simp at hj;subst hj;rw[Array.set!_eq_setIfInBounds,Qu (by omega)]
     · rw[heap_setCell_other w ⟨g,_,none⟩ k _ (fun e=>hne (by rw[e];rfl))]
   · obtain⟨v',w',hr,h5,h6⟩:=run_append_arg_grows (P:=Tryz.prog) w 59 ty 9 i0 (.string ⟨#[]⟩) 1 16 Tryz.underlying59 hi0 hz0 hz1 hz2 rfl (by decide) ⟨g,off,none⟩ l.length cap (l.map Value.string) (by simp) (fun j u hj=>by
      rw[GZ]at hj;cases hlj:l[j]? with
      | none=>rw[hlj]at hj;cases hj
      | some s =>
       rw[hlj]at hj;injection hj with hj;rw[←hj,Addr.add_mid,AB w g _ _ _ _ hg];exact h4 j s hlj) ad 1 c [.string r] rfl hnews (by omega) (by unfold maxLen;omega) (by omega)
     exact⟨v',w',hr,grown _ _ h5 h6⟩
theorem Q8 {ops:Array Oper}{o:Oper}{a:Act}{w:World}{K:Act→World→Prop}{Q:Exit→Act→World→Prop}{E:Prop}(hgd:o.guard=none)(s x:Operand)(ho:o.op=.call { callee:=.builtin .append,args:=#[s,x],argTypes:=#[59,59] })
 (B:Nat) (v:Value) (l:List ByteArray) (hs:a.eval s=v) (hrow:CX B w v l) (ad:Addr) (c:Nat) (r:ByteArray) (hx:a.eval x=.slice (some ad) 1 c) (hcell:w.cell? ad=some (.string r)) (hl:l.length≤100000) (hB:B≤w.heap.size)
 (h:∀v' w',CX B w' v' (l++[r])→(CO v'=CO v∨∃g,w.heap.size≤g∧CO v'=some g)→Below B w w'→(∀k,k<w.heap.size→some k≠CO v→w'.heap[k]?=w.heap[k]?)→(∃a n cap,v'=.slice a n cap)→K (a.put o.dst v') w') :
 if Region.wanted o (yielded ops a.tmps)=true then Oper.wp Tryz.prog o a w K Q else E:=by
 have hw:Region.wanted o (yielded ops a.tmps)=true:=by simp[Region.wanted,hgd]
 rw[if_pos hw];obtain⟨v',w',hr,h1,h2,h3,h4,h5⟩:=dK B 59 o.type rfl hrow ad c r hcell hl hB;unfold Oper.wp execOp;simp only[ho,resolve,invoke,builtin,Sem.run_bind,Sem.run_pure,Result.andThen_ok,List.map_toArray,List.map_cons,List.map_nil,hs,hx,hr];exact h v' w' h1 h2 h3 h4 h5
theorem Qy {P:Program}{ops:Array Oper}{o:Oper}{a:Act}{w:World}{K:Act→World→Prop}{Q:Exit→Act→World→Prop}{E:Prop}(hgd:o.guard=none)(f:FuncId)(x:Operand)(xt:TypeId)(ho:o.op=.call { callee:=.value (.func f),args:=#[x],argTypes:=#[xt] })
 (hf:∀xs W,(callFunc f xs).run P W=.ok (.enter f xs) W) (vx v:Value) (hx:a.eval x=vx) (R:World→Prop) (hc:Calls P f #[vx] w fun e w'=>e=.returned v∧R w') (h:∀w',R w'→K (a.put o.dst v) w') :
 if Region.wanted o (yielded ops a.tmps)=true then Oper.wp P o a w K Q else E:=by
 have hw:Region.wanted o (yielded ops a.tmps)=true:=by simp[Region.wanted,hgd]
 rw[if_pos hw];unfold Oper.wp;have he:(execOp a.eval o).run P w=.ok (.enter f #[vx]) w:=by
  simp[execOp,ho,resolve,Deferred.ofValue,invoke,hf,Act.eval];simpa[Act.eval]using hx
 rw[he,Oper.upon_enter];refine hc.mono ?_;rintro e w2 ⟨rfl,h2⟩;exact h w2 h2
theorem EZ {st:St}{lm:Bool}(h:BJ st=true)(hl:lm=false→st.lim=false):lm=true:=by
 cases lm
 · have:=Cf (hl rfl);rw[h]at this;cases this
 · rfl
theorem Oo:Fg 54:=fun xs W=>Tryz.call54 xs W
theorem Gb:Fg 53:=fun xs W=>Tryz.call53 xs W
def RnI (n h:Nat)(k:Bool)(E:Nat)(r1 r2:List ByteArray)(lm:Bool)(st0:St)(s:ByteArray):Nat→St→Prop
 | 0,st=>st=st0
 | 1,st=>st=st0
 | 2,st=>st=st0
 | 3,st=>st=st0
 | 4,st=>Gf n h k E r1 r2 (h+1) lm st∧AO (st.now.getD (BH h (!k)) ⟨#[]⟩)=0
 | 5,st=>Gf n h k E r1 r2 0 lm st∧AO (st.now.getD (BH h (!k)) ⟨#[]⟩)=0
 | 6,st=>Gf n h k E r1 r2 h lm st∧Holds st (BH h (!k)) h []∧AO (st.now.getD (BH h (!k)) ⟨#[]⟩)=0
 | 7,st=>Gf n h k E r1 r2 (2*h) lm st∧Holds st (BH h (!k)) h [s]∧AO (st.now.getD (BH h (!k)) ⟨#[]⟩)=0
 | 8,st=>Gf n h k E r1 r2 0 lm st∧(Holds st (BH h (!k)) h [s]∧AO (st.now.getD (BH h (!k)) ⟨#[]⟩)=0)∧CW st (fun x=>x=st.now)
 | 9,st=>IX n h k E r1 r2 s st∧Dx n h (!k) (E+1) (1+(s.size+61)/62) s [] [s] [] lm (Dt st)
 | _,st=>Dx n h (!k) (E+1) (1+(s.size+61)/62) s [] [s] [] lm st∧st.pend=[]
theorem MJ:Fg 47:=fun xs W=>Tryz.call47 xs W
theorem V7:Fg 110:=fun xs W=>Tryz.call110 xs W
theorem lF:Fg 158:=fun xs W=>Tryz.call158 xs W
theorem Qm:Fg 111:=fun xs W=>Tryz.call111 xs W
theorem Nf:Fg 52:=fun xs W=>Tryz.call52 xs W
theorem V6:Fg 112:=fun xs W=>Tryz.call112 xs W
def ji (b vb nb:Nat)(s:ByteArray):List (Nat×Value):=
 [(47,.pointer (some ⟨nb,0,none⟩)),(110,.agg #[.pointer (some ⟨nb,0,none⟩),.string s]),(158,.pointer (some ⟨vb,0,none⟩)),(111,.pointer (some ⟨nb,0,none⟩)),(53,.pointer (some ⟨b,0,none⟩)),(52,.pointer (some ⟨nb,0,none⟩)),(54,.agg #[.pointer (some ⟨nb,0,none⟩),.string s]),(53,.pointer (some ⟨b,0,none⟩)),(112,.pointer (some ⟨nb,0,none⟩)),(53,.pointer (some ⟨b,0,none⟩))]
theorem oG {st:St}{i:Nat}{fs:List ByteArray}(hg:Good st)(hi:i+fs.length≤st.now.length)(hs:∀f∈fs,f.size=64)(hr:Nv st i fs):(Bj st i fs).lim=st.lim:=by
 have hp:=KA hg hi hs hr _ (Ae _);rw[List.take_length]at hp;exact hp.2.1
def ZO (W:World)(nb:Nat):Prop:=W.heap[nb]?=some (.cells #[.pointer none,.int .i64 0,.int .i64 0,.int .i64 0,.int .u64 0] 82 (0,0))
theorem ZO.all {W:World}{nb:Nat}(h:ZO W nb):(W.cell? ⟨nb,0,none⟩=some (.pointer none)∧W.cell? ⟨nb,1,none⟩=some (.int .i64 0)∧W.cell? ⟨nb,2,none⟩=some (.int .i64 0)∧W.cell? ⟨nb,3,none⟩=some (.int .i64 0)∧W.cell? ⟨nb,4,none⟩=some (.int .u64 0))∧W.frozen? ⟨nb,0,none⟩=false∧W.frozen? ⟨nb,1,none⟩=false∧W.frozen? ⟨nb,2,none⟩=false∧W.frozen? ⟨nb,3,none⟩=false∧W.frozen? ⟨nb,4,none⟩=false:=by
 refine⟨⟨?_,?_,?_,?_,?_⟩,Fp _ _ _ _ _ h,Fp _ _ _ _ _ h,Fp _ _ _ _ _ h,Fp _ _ _ _ _ h,Fp _ _ _ _ _ h⟩<;>(rw[AB W nb _ _ _ _ h];rfl)
end Go.Proofs.YtdmkhmeaphaapaaGreat.V
