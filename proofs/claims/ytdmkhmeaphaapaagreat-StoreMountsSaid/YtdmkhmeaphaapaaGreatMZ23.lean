/- Kit. -/
import Derived.Test.YtdmkhmeaphaapaaGreatProg
import Derived.WalkKit
import Derived.WalkSpells
import Derived.IntWalk
import Derived.ProofKit
import Derived.Lib.Hide
import Derived.Lib.Builder
import Derived.Below
import Derived.Sort.WalkC
import Derived.LoopTactic
import Derived.Deep.LoopGhost
import Derived.Deep.QuietTactic
import Derived.Deep.MidRow
import Derived.Deep.RegionHeld3
import Derived.Deep.AppendLies
import Derived.Deep.RegionLaw
import Derived.Laws.NewBlocks
import Derived.Laws.IdiomStrings
import Derived.Laws.MakeOwn
import Derived.KernelRfl
import Derived.BigQuiet
import Derived.BigRegion
import Derived.Great.BuildSlice
import Derived.Deep.WholeRow
import Derived.Deep.CutRange
import Derived.OwnWalk
import Derived.Test.YtdmkhmeaphaapaaGreatMZ1
import Derived.Test.YtdmkhmeaphaapaaGreatMZ0
set_option maxRecDepth 100000
set_option linter.unusedVariables false
set_option linter.unusedSimpArgs false
namespace Go.Proofs.YtdmkhmeaphaapaaGreat.V
open Go.RowKit
section
variable {α:Type}
theorem pq (f:α→List Value)(c:Nat)(l:List α)(i:Nat)(x:α)(h:∀x∈l,(f x).length=c)(hi:i<l.length)(hx:(f x).length=c):(l.flatMap f).take (i*c)++f x++(l.flatMap f).drop (i*c+c)=(l.set i x).flatMap f:=by
 rw[P7 f c l i h,show i*c+c=(i+1)*c by rw[Nat.add_mul];omega,MV f c l (i+1) h,List.set_eq_take_append_cons_drop,if_pos hi,FL,List.flatMap_cons,Cc]
end
def sec (s:ByteArray):List Value:=s.data.toList.map fun b=>Value.int .u8 b.toNat
theorem Da (s:ByteArray):(sec s).length=s.size:=by simp[sec]
theorem Ox (s:ByteArray):∀v∈sec s,v.oneCell'=true:=fun v hv=>by
 obtain⟨b,_,rfl⟩:=Cy.1 hv;rfl
def flat (l:List ByteArray):List Value:=l.flatMap sec
def EI (p:Nat×ByteArray):List Value:=.int .i64 p.1::sec p.2
theorem FP {p:Nat×ByteArray}(h:p.2.size=64):(EI p).length=65:=by simp[EI,Da,h]
theorem Q5 (p:Nat×ByteArray):∀v∈EI p,v.oneCell'=true:=fun v hv=>by
 rcases Er.1 hv with rfl|hv
 · rfl
 · exact Ox _ v hv
def J8 (l:List (Nat×ByteArray)):List Value:=l.flatMap EI
def Off (ex:List TypeId)(w w':World):Prop:=∀(T:TypeId),T∉ex→∀(k:Nat) (cs:Array Value) (fr:Nat×Nat),w.heap[k]?=some (.cells cs T fr)→w'.heap[k]?=some (.cells cs T fr)
theorem Off.refl (ex:List TypeId)(w:World):Off ex w w:=fun _ _ _ _ _ h=>h
theorem Off.trans {ex:List TypeId}{a b c:World}(h:Off ex a b)(h':Off ex b c):Off ex a c:=fun T hT k cs fr hk=>h' T hT k cs fr (h T hT k cs fr hk)
theorem Off.drew {ex:List TypeId}{a w:World}(h:Off ex a w):Off ex a w.drew:=h
theorem Off.alloc {ex:List TypeId}{a w:World}(h:Off ex a w)(o:Obj):Off ex a (w.alloc o):=h.trans fun T hT k cs fr hk=>by
 rw[Cx w o k (Ab hk)];exact hk
theorem Off.setCell {ex:List TypeId}{a w:World}(h:Off ex a w){b j:Nat}{C:Array Value}{T:TypeId}{fr:Nat×Nat}(hb:w.heap[b]?=some (.cells C T fr))(hT:T∈ex)(x:Value):Off ex a (w.setCell ⟨b,j,none⟩ x):=h.trans fun T' hT' k cs fr' hk=>by
 rw[heap_setCell_other w ⟨b,j,none⟩ k x (fun e=>by
  subst e;rw[hb]at hk;injection hk with hk;injection hk with _ h2 _;exact hT' (h2▸hT))]
 exact hk
theorem Off.setCells {ex:List TypeId}{a w:World}(h:Off ex a w){b o:Nat}{C:Array Value}{T:TypeId}{fr:Nat×Nat}(hb:w.heap[b]?=some (.cells C T fr))(hT:T∈ex)(vs:List Value):Off ex a (w.setCells b o vs):=h.trans fun T' hT' k cs fr' hk=>by
 rw[Cj b vs o w k (fun e=>by
  subst e;rw[hb]at hk;injection hk with hk;injection hk with _ h2 _;exact hT' (h2▸hT))]
 exact hk
theorem Off.grown {ex:List TypeId}{a w w':World}{row:Option Nat}(h:Off ex a w)(hg:w.grownBy w' row)(hr:∀k,row=some k→∃cs T fr,w.heap[k]?=some (.cells cs T fr)∧T∈ex):Off ex a w':=h.trans fun T hT k cs fr hk=>by
 rw[hg.block k (Ab hk) (fun e=>by
  obtain⟨cs',T',fr',h1,h2⟩:=hr k e.symm;rw[hk]at h1;injection h1 with h1;injection h1 with _ h3 _;exact hT (h3▸h2))]
 exact hk
theorem Off.mono {ex ex':List TypeId}{w w':World}(h:Off ex w w')(hs:∀T∈ex,T∈ex'):Off ex' w w':=fun T hT=>h T (fun hm=>hT (hs T hm))
end Go.Proofs.YtdmkhmeaphaapaaGreat.V
namespace Go.Proofs.YtdmkhmeaphaapaaGreat.V
open Go.RowKit Go.Sort
structure St where
 now:List ByteArray
 safe:List ByteArray
 pend:List (Nat×ByteArray)
 lim:Bool
 left:Int
structure Good (st:St):Prop where
 same:st.safe.length=st.now.length
 cu:∀s∈st.now,s.size=64
 szs:∀s∈st.safe,s.size=64
 IE:∀p∈st.pend,p.1<st.now.length∧p.2.size=64
 few:st.now.length≤4096
 nO:st.lim=true→0≤st.left
 nN:-9223372036854775808≤st.left∧st.left≤9223372036854775807
 off:∀i,(∀p∈st.pend,p.1≠i)→st.now[i]?=st.safe[i]?
def head (gn gs n:Nat)(vp:Value)(lim:Bool)(left:Int):Array Value:=#[.slice (some ⟨gn,0,none⟩) n n,.slice (some ⟨gs,0,none⟩) n n,vp,.bool lim,.int .i64 left]
structure BS (B:Nat)(w:World)(b gn gs:Nat)(vp:Value)(st:St):Prop where
 hb:B≤b
 hgn:B≤gn
 hgs:B≤gs
 ne:gn≠gs
 hd:w.heap[b]?=some (.cells (head gn gs st.now.length vp st.lim st.left) 77 (0,0))
 nw:w.heap[gn]?=some (.cells (flat st.now).toArray 165 (0,0))
 sf:w.heap[gs]?=some (.cells (flat st.safe).toArray 165 (0,0))
 pd:w.ownsRow B 167 65 vp st.pend.length (J8 st.pend)
def Dev (B:Nat)(w:World)(b:Nat)(st:St):Prop:=∃gn gs vp,BS B w b gn gs vp st
abbrev AZ:List TypeId:=[77,165,167,4]
theorem K4 {B:Nat}{w w':World}{v:Value}{n s:Nat}{T:TypeId}{xs:List Value}{ex:List TypeId}(h:w.ownsRow B T s v n xs)(hT:T∉ex)(ho:Off ex w w'):w'.ownsRow B T s v n xs:=by
 refine⟨h.1,?_⟩;rcases h.2 with hn|⟨g,cap,cur,hv,hg,hb,r⟩
 · exact Or.inl hn
 · exact Or.inr ⟨g,cap,cur,hv,hg,ho T hT g cur (0,0) hb,r⟩
theorem BS.off {B:Nat}{w w':World}{b gn gs:Nat}{vp:Value}{st:St}(h:BS B w b gn gs vp st){ex:List TypeId}(ho:Off ex w w')(h1:77∉ex)(h2:165∉ex)(h3:167∉ex):BS B w' b gn gs vp st:=
 ⟨h.hb,h.hgn,h.hgs,h.ne,ho _ h1 _ _ _ h.hd,ho _ h2 _ _ _ h.nw,ho _ h2 _ _ _ h.sf,K4 h.pd h3 ho⟩
theorem Dev.off {B:Nat}{w w':World}{b:Nat}{st:St}(h:Dev B w b st){ex:List TypeId}(ho:Off ex w w')(h1:77∉ex)(h2:165∉ex)(h3:167∉ex):Dev B w' b st:=by
 obtain⟨gn,gs,vp,h⟩:=h;exact⟨gn,gs,vp,h.off ho h1 h2 h3⟩
theorem BS.cells {B:Nat}{w:World}{b gn gs:Nat}{vp:Value}{st:St}(h:BS B w b gn gs vp st) :
 w.cell? ⟨b,0,none⟩=some (.slice (some ⟨gn,0,none⟩) st.now.length st.now.length)∧w.cell? ⟨b,1,none⟩=some (.slice (some ⟨gs,0,none⟩) st.now.length st.now.length)∧w.cell? ⟨b,2,none⟩=some vp∧w.cell? ⟨b,3,none⟩=some (.bool st.lim)∧w.cell? ⟨b,4,none⟩=some (.int .i64 st.left):=by
 refine⟨?_,?_,?_,?_,?_⟩<;>(rw[AB w b _ _ _ _ h.hd];rfl)
theorem BS.frozen {B:Nat}{w:World}{b gn gs:Nat}{vp:Value}{st:St}(h:BS B w b gn gs vp st)(j:Nat):w.frozen? ⟨b,j,none⟩=false:=E8 w b j _ _ h.hd
theorem BS.vp {B:Nat}{w:World}{b gn gs:Nat}{vp:Value}{st:St}(h:BS B w b gn gs vp st):∃a cap,vp=.slice a st.pend.length cap:=by
 rcases h.pd.2 with⟨hv,h0⟩|⟨g,cap,cur,hv,_⟩
 · exact⟨none,0,by rw[hv,h0]⟩
 · exact⟨_,cap,hv⟩
set_option maxHeartbeats 1000000 in
theorem WU (b:Nat)(lim:Bool)(left:Int)(w:World)(h3:w.cell? ⟨b,3,none⟩=some (.bool lim))(h4:w.cell? ⟨b,4,none⟩=some (.int .i64 left)) :
 Calls Tryz.prog 31 #[.pointer (some ⟨b,3,none⟩)] w fun e w'=>e=.returned (.bool (lim&&left==0))∧w=w':=by
 cases lim
 · go_enter Tryz.func31,Tryz.ntmps31;go_wp2;go_ret;exact⟨rfl,rfl⟩
 · go_enter Tryz.func31,Tryz.ntmps31;go_wp2;go_ret;exact⟨rfl,rfl⟩
set_option maxHeartbeats 1000000 in
theorem ZF (b n cap:Nat)(a:Option Addr)(w:World)(h0:w.cell? ⟨b,0,none⟩=some (.slice a n cap)) :
 Calls Tryz.prog 90 #[.pointer (some ⟨b,0,none⟩)] w fun e w'=>e=.returned (.int .i64 n)∧w=w':=by
 go_enter Tryz.func90,Tryz.ntmps90;go_wp2;go_ret;exact⟨rfl,rfl⟩
def EW (n:Nat)(lim:Bool)(left i:Int):Int:=if(lim&&left==0)=true then 13 else if i<0∨(n:Int)≤i then 1 else 0
set_option maxHeartbeats 1000000 in
theorem eZ (b n cap:Nat)(a:Option Addr)(lim:Bool)(left i:Int)(w:World)(h0:w.cell? ⟨b,0,none⟩=some (.slice a n cap))(h3:w.cell? ⟨b,3,none⟩=some (.bool lim))(h4:w.cell? ⟨b,4,none⟩=some (.int .i64 left)) :
 Calls Tryz.prog 127 #[.pointer (some ⟨b,0,none⟩),.int .i64 i] w fun e w'=>e=.returned (.int .i64 (EW n lim left i))∧w=w':=by
 have cG:=WU b lim left w h3 h4;unfold EW;cases hg:(lim&&left==0)
 · rw[hg]at cG;by_cases h1:i<0
   · rw[if_neg (by simp),if_pos (Or.inl h1)];go_enter Tryz.func127,Tryz.ntmps127;go_wp2_with fail;refine cG.mono ?_;rintro e w2 ⟨rfl,rfl⟩;go_wp2;go_ret;exact⟨rfl,rfl⟩
   · by_cases h2:(n:Int)≤i
     · rw[if_neg (by simp),if_pos (Or.inr h2)];go_enter Tryz.func127,Tryz.ntmps127;go_wp2_with fail;refine cG.mono ?_;rintro e w2 ⟨rfl,rfl⟩;go_wp2;go_ret;exact⟨rfl,rfl⟩
     · rw[if_neg (by simp),if_neg (by omega)];go_enter Tryz.func127,Tryz.ntmps127;go_wp2_with fail;refine cG.mono ?_;rintro e w2 ⟨rfl,rfl⟩;go_wp2;go_ret;exact⟨rfl,rfl⟩
 · rw[hg]at cG;rw[if_pos rfl];go_enter Tryz.func127,Tryz.ntmps127;go_wp2_with fail;refine cG.mono ?_;rintro e w2 ⟨rfl,rfl⟩;go_wp2;go_ret;exact⟨rfl,rfl⟩
def G9 (B:Nat)(st:St)(i:Int)(w:World)(e:Ending)(w':World):Prop:=w=w'∧e=.returned (.tuple #[.string (if EW st.now.length st.lim st.left i=0 then st.now.getD i.toNat ⟨#[]⟩ else⟨#[]⟩),.int .i64 (EW st.now.length st.lim st.left i)])
set_option maxHeartbeats 2000000 in
theorem YD (B b:Nat)(st:St)(i:Int)(w:World)(h:Dev B w b st)(hg:Good st) :
 Calls Tryz.prog 91 #[.pointer (some ⟨b,0,none⟩),.int .i64 i] w (G9 B st i w):=by
 unfold G9;obtain⟨gn,gs,vp,h⟩:=h;obtain⟨c0,c1,c2,c3,c4⟩:=h.cells;have cA:=eZ b _ _ _ _ _ i w c0 c3 c4;by_cases ha:EW st.now.length st.lim st.left i=0
 · rw[if_pos ha];rw[ha]at cA ⊢;obtain⟨k,rfl,hk⟩:∃k:Nat,i=k∧k<st.now.length:=by
    unfold EW at ha;split at ha
    · cases ha
    · split at ha
      · cases ha
      · exact⟨i.toNat,by omega,by omega⟩
   have hx:st.now[k]?=some (st.now.getD k ⟨#[]⟩):=by rw[FK,Ci hk];rfl
   have hr:=Fx sec 64 (R:=[]) (fun s hs=>by rw[Da];exact hg.cu s hs) hx (w:=w) (b:=gn) (T:=165) (fr:=(0,0)) (by rw[Ct];exact h.nw);have hsz:(st.now.getD k ⟨#[]⟩).size=64:=hg.cu _ (Dr hx);rw[show((k:Int).toNat)=k from rfl];have hkz:(k:Int)<(st.now.length:Int):=by omega
   generalize st.now.getD k ⟨#[]⟩=x at *;generalize st.now.length=n at *;have hc:(convert 121 9 (.slice (some ⟨gn,k*64,none⟩) 64 64)).run Tryz.prog w=.ok (.string x) w:=by
    have:=run_convert_bytes_back (P:=Tryz.prog) w 121 9 5 ⟨gn,k*64,none⟩ 64 x.data.toList Tryz.underlying121 Tryz.underlying5 Tryz.underlying9 (fun j hj=>by
     rw[Addr.add_mid];exact hr j _ (by simp[sec,List.getElem?_eq_getElem hj]))
    have hl:x.data.toList.length=64:=by rw[←hsz];simp
    rw[hl]at this;rw[this]
   clear h hg hr ha hx hk;go_enter Tryz.func91,Tryz.ntmps91;go_wp2_with fail;refine cA.mono ?_;rintro e w2 ⟨rfl,rfl⟩;go_wp2;go_ret2;exact⟨rfl,rfl⟩
 · rw[if_neg ha];have hne:(EW st.now.length st.lim st.left i==0)=false:=by simpa using ha
   generalize EW st.now.length st.lim st.left i=q at *;generalize st.now.length=n at *;clear h hg;go_enter Tryz.func91,Tryz.ntmps91;go_wp2_with fail;refine cA.mono ?_;rintro e w2 ⟨rfl,rfl⟩;go_wp2;go_ret2;exact⟨rfl,rfl⟩
def BD:ByteArray:=⟨Array.replicate 64 0⟩
def Ho (n:Nat):St:=⟨List.replicate n BD,List.replicate n BD,[],false,0⟩
theorem vw (n:Nat)(h:n≤4096):Good (Ho n):=by
 have hz:∀s∈List.replicate n BD,s.size=64:=fun s hs=>by rw[(List.mem_replicate.1 hs).2];rfl
 exact⟨by simp[Ho],hz,hz,(fun p hp=>by cases hp),by simpa[Ho]using h,(fun e=>by cases e),by simp[Ho],fun i _=>rfl⟩
def sH:Array Value:=Array.replicate 64 (.int .u8 0)
theorem Tryz.nX:(Tryz.prog.info? 165).map (fun i=>(i.zero,i.size,i.bytes))=some (some (.agg sH),64,64):=by kernel_rfl
theorem iy (n:Nat):madeCells (Value.agg sH).cells (n*64)=(flat (List.replicate n BD)).toArray:=by
 apply Array.ext';rw[Ih];have h1:sec BD=List.replicate 64 (.int .u8 0):=by simp[sec,BD]
 have h2:flat (List.replicate n BD)=List.replicate (n*64) (.int .u8 0):=by
  unfold flat
  induction n with
  | zero=>rfl
  | succ n ih=>rw[List.replicate_succ,List.flatMap_cons,ih,h1,Nat.add_mul,Nat.add_comm,List.replicate_append_replicate]
 rw[h2];apply List.ext_getElem?;intro i;simp only[madeCells,Value.cells,sH];by_cases h:i<n*64
 · simp[h];have:i%64<64:=Nat.mod_lt _ (by decide);simp[this]
 · simp[h]
theorem Wh (n:Nat)(hn:n≤4096)(W:World):(Instr.makeSlice 72 (.int .i64 n) (.int .i64 n)).run Tryz.prog W=.ok (.slice (some ⟨W.heap.size,0,none⟩) n n) (W.alloc (.cells (flat (List.replicate n BD)).toArray 165)):=by
 obtain⟨i0,hi0,hz0,hz1,hz2⟩:=info_parts Tryz.nX;have:=run_make (P:=Tryz.prog) W 72 165 i0 (.agg sH) Tryz.underlying72 hi0 hz0 .i64 .i64 n n (by omega) (by omega) (by rw[hz2];omega) (by omega);rw[hz1,DW,iy]at this;exact this
theorem pW {B:Nat}{w W:World}(n gn gs b:Nat)(hB:B≤w.heap.size)(hn:gn≠gs)(h1:w.heap.size≤gn)(h2:w.heap.size≤gs)(h3:w.heap.size≤b)
 (e1:W.heap[gn]?=some (.cells (flat (List.replicate n BD)).toArray 165 (0,0))) (e2:W.heap[gs]?=some (.cells (flat (List.replicate n BD)).toArray 165 (0,0)))
 (e3:W.heap[b]?=some (.cells #[.slice (some ⟨gn,0,none⟩) n n,.slice (some ⟨gs,0,none⟩) n n,.slice none 0 0,.bool false,.int .i64 0] 77 (0,0))):Dev B W b (Ho n):=
 ⟨gn,gs,.slice none 0 0,by omega,by omega,by omega,hn,by rw[e3];simp[head,Ho],e1,e2,⟨rfl,Or.inl ⟨rfl,rfl⟩⟩⟩
theorem dI (w:World)(N b:Nat)(Z:Array Value)(hZ:(flat (List.replicate N BD)).toArray=Z)(gn:Nat)(h:(gn=w.heap.size∧b=w.heap.size+1+1)∨(gn=w.heap.size+1∧b=w.heap.size+1+1)) :
 Dev w.heap.size (((w.alloc (.cells Z 165)).alloc (.cells Z 165)).alloc (.cells #[.slice (some ⟨gn,0,none⟩) N N,.slice (some ⟨2*w.heap.size+1-gn,0,none⟩) N N,.slice none 0 0,.bool false,.int .i64 0] 77)).drew b (Ho N):=by
 have s1:(w.alloc (.cells Z 165)).heap.size=w.heap.size+1:=by simp
 have s2:((w.alloc (.cells Z 165)).alloc (.cells Z 165)).heap.size=w.heap.size+1+1:=by simp
 have a0:∀o,(((w.alloc (.cells Z 165)).alloc (.cells Z 165)).alloc o).heap[w.heap.size]?=some (.cells Z 165 (0,0)):=fun o=>by
  rw[Cx _ _ _ (by rw[s2];omega),Cx _ _ _ (by rw[s1];omega)];exact Ai _ _
 have a1:∀o,(((w.alloc (.cells Z 165)).alloc (.cells Z 165)).alloc o).heap[w.heap.size+1]?=some (.cells Z 165 (0,0)):=fun o=>by
  rw[Cx _ _ _ (by rw[s2];omega),←s1];exact Ai _ _
 have a2:∀o,(((w.alloc (.cells Z 165)).alloc (.cells Z 165)).alloc o).heap[w.heap.size+1+1]?=some o:=fun o=>by
  rw[←s2];exact Ai _ _
 rcases h with⟨rfl,rfl⟩|⟨rfl,rfl⟩
 · rw[show 2*w.heap.size+1-w.heap.size=w.heap.size+1 by omega];refine pW (w:=w) N w.heap.size (w.heap.size+1) (w.heap.size+1+1) (Ae _) (by omega) (by omega) (by omega) (by omega) ?_ ?_ ?_
   · rw[hZ];exact a0 _
   · rw[hZ];exact a1 _
   · exact a2 _
 · rw[show 2*w.heap.size+1-(w.heap.size+1)=w.heap.size by omega];refine pW (w:=w) N (w.heap.size+1) w.heap.size (w.heap.size+1+1) (Ae _) (by omega) (by omega) (by omega) (by omega) ?_ ?_ ?_
   · rw[hZ];exact a1 _
   · rw[hZ];exact a0 _
   · exact a2 _
theorem Abs (w:World)(N:Nat)(Z:Array Value)(hZ:(flat (List.replicate N BD)).toArray=Z) :
 Dev w.heap.size (((w.alloc (.cells Z 165)).alloc (.cells Z 165)).alloc (.cells #[.slice (some ⟨w.heap.size,0,none⟩) N N,.slice (some ⟨w.heap.size+1,0,none⟩) N N,.slice none 0 0,.bool false,.int .i64 0] 77)).drew (w.heap.size+1+1) (Ho N):=by
 have:=dI w N _ Z hZ _ (Or.inl ⟨rfl,rfl⟩);rwa[show 2*w.heap.size+1-w.heap.size=w.heap.size+1 by omega]at this
theorem Abr (w:World)(N:Nat)(Z:Array Value)(hZ:(flat (List.replicate N BD)).toArray=Z) :
 Dev w.heap.size (((w.alloc (.cells Z 165)).alloc (.cells Z 165)).alloc (.cells #[.slice (some ⟨w.heap.size+1,0,none⟩) N N,.slice (some ⟨w.heap.size,0,none⟩) N N,.slice none 0 0,.bool false,.int .i64 0] 77)).drew (w.heap.size+1+1) (Ho N):=by
 have:=dI w N _ Z hZ _ (Or.inr ⟨rfl,rfl⟩);rwa[show 2*w.heap.size+1-(w.heap.size+1)=w.heap.size by omega]at this
def RY (n:Int):Nat:=(min (max n 0) 4096).toNat
def J2 (n:Int)(w:World)(e:Ending)(w':World):Prop:=∃b,e=.returned (.pointer (some ⟨b,0,none⟩))∧Dev w.heap.size w' b (Ho (RY n))∧Below w.heap.size w w'∧Off [] w w'
set_option maxHeartbeats 2000000 in
theorem dH (n:Int)(w:World):Calls Tryz.prog 8 #[.int .i64 n] w (J2 n w):=by
 unfold J2;obtain⟨N,hN,AbQ⟩:∃N:Nat,min (max n 0) 4096=(N:Int)∧N≤4096:=⟨RY n,by unfold RY;omega,by unfold RY;omega⟩;have hs:RY n=N:=by unfold RY;rw[hN];rfl
 have hm:=Wh N AbQ;rw[hs];clear hs;generalize hZ:(flat (List.replicate N BD)).toArray=Z at *;go_enter Tryz.func8,Tryz.ntmps8;go_wp2;go_big_region
 all_goals go_wp2
 all_goals go_ret
 · exact⟨_,rfl,Abs w N Z hZ,((((Ad _ w).alloc (Ae _) _).alloc (by simp) _).alloc (by simp;omega) _).drew,(((Off.refl [] w).alloc _).alloc _).alloc _⟩
 · exact⟨_,rfl,Abr w N Z hZ,((((Ad _ w).alloc (Ae _) _).alloc (by simp) _).alloc (by simp;omega) _).drew,(((Off.refl [] w).alloc _).alloc _).alloc _⟩
section
variable {P:Program}{ops:Array Oper}{rest:List Oper}{d:Option Tmp}{T:TypeId}{pos:String}{af:Array Edge}{a:Act}{w w':World}{Q:Exit→Act→World→Prop}
end
theorem LU {P:Program}{o:Oper}{a:Act}{w w':World}{K:Act→World→Prop}{Q:Exit→Act→World→Prop}(ty:TypeId)(n:Nat)(parts:Array (Nat×Operand))(ho:o.op=.buildSlice ty n parts)(vs:Array (Nat×Value))(v:Value)(hv:(parts.toList.map fun(i,x)=>(i,a.eval x))=vs.toList)(hr:(Instr.buildSlice ty n vs).run P w=.ok v w')
 (h:K (a.put o.dst v) w'):o.wp P a w K Q:=by
 unfold Oper.wp execOp;have hv':(parts.map fun(i,x)=>(i,a.eval x))=vs:=by
  apply Array.ext';rw[Array.toList_map];exact hv
 simp only[ho,hv',Sem.run_bind,hr,Result.andThen_ok];exact h
theorem MK {o:Oper}{ys:Nat→Option Bool}{X Y:Prop}(hgd:o.guard=none)(h:X):if Region.wanted o ys=true then X else Y:=by
 have hw:Region.wanted o ys=true:=by simp[Region.wanted,hgd]
 rw[if_pos hw];exact h
theorem Xy {P:Program}{o:Oper}{a:Act}{w:World}{K:Act→World→Prop}{Q:Exit→Act→World→Prop}(ty:TypeId)(x:Operand)(ho:o.op=.load ty x)(px v:Value)(hx:a.eval x=px)(hr:(Instr.loadAt ty px).run P w=.ok v w)(h:K (a.put o.dst v) w):o.wp P a w K Q:=by
 unfold Oper.wp execOp;simp only[ho,hx,Sem.run_bind,hr,Result.andThen_ok];exact h
theorem UB {P:Program}{o:Oper}{a:Act}{w w':World}{K:Act→World→Prop}{Q:Exit→Act→World→Prop}(ty:TypeId)(x y:Operand)(ho:o.op=.store ty x y)(px vy:Value)(hx:a.eval x=px)(hy:a.eval y=vy)(hr:(Instr.storeAt ty px vy).run P w=.ok () w')(h:K (a.put o.dst undef) w'):o.wp P a w K Q:=by
 unfold Oper.wp execOp;simp only[ho,hx,hy,Sem.run_bind,hr,Result.andThen_ok];exact h
theorem iB (b:Nat)(v:Value)(W:World)(h:W.cell? ⟨b,2,none⟩=some v):(Instr.loadAt 73 (.pointer (some ⟨b,2,none⟩))).run Tryz.prog W=.ok v W:=by go_simp
theorem RU (b:Nat)(ad:Option Addr)(m cap:Nat)(u:Value)(W:World)(h:W.cell? ⟨b,2,none⟩=some u)(hf:W.frozen? ⟨b,2,none⟩=false):(Instr.storeAt 73 (.pointer (some ⟨b,2,none⟩)) (.slice ad m cap)).run Tryz.prog W=.ok () (W.setCell ⟨b,2,none⟩ (.slice ad m cap)):=by
 go_simp
def z65:Array Value:=#[.int .i64 0]++Array.replicate 64 (.int .u8 0)
theorem Og:z65.size=65:=rfl
theorem Tryz.dS:(Tryz.prog.info? 167).map (fun i=>(i.zero,i.size,i.bytes))=some (some (.agg z65),65,72):=by kernel_rfl
theorem Tryz.Mm:(Tryz.prog.info? 165).map (·.size)=some 64:=by kernel_rfl
theorem Tryz.Rk:(Tryz.prog.info? 167).map (·.size)=some 65:=by kernel_rfl
theorem VR (W:World):(zeroValue 167).run Tryz.prog W=.ok (.agg z65) W:=
 (zero_of_info (P:=Tryz.prog) (t:=167) (v:=.agg z65) (n:=65) (by kernel_rfl)).1 W
theorem qA (a:Addr)(cap:Nat)(W:World):(Instr.arrayAt 165 (.slice (some a) 64 cap)).run Tryz.prog W=.ok (.pointer (some a)) W:=by
 simp[Instr.arrayAt,run_underlying Tryz.underlying165]
theorem ql (parts:List (Nat×Value)):Tryz.prog.built 167 parts=Instr.fill ((#[(0,1),(1,64)]:Array (Nat×Nat))[·]?) z65 parts:=by kernel_rfl
theorem vE (k:Nat)(s:ByteArray)(hs:s.size=64):Instr.fill ((#[(0,1),(1,64)]:Array (Nat×Nat))[·]?) z65 [(0,.int .i64 k),(1,.agg (sec s).toArray)]=some (EI (k,s)).toArray:=by
 have hl:(sec s).length=64:=by rw[Da,hs]
 have h1:(Value.int .i64 (k:Int)).cells=#[.int .i64 (k:Int)]:=rfl;have h2:(Value.agg (sec s).toArray).cells=(sec s).toArray:=rfl;have hz:(z65.setIfInBounds 0 (.int .i64 (k:Int))).size=65:=by simp[Og]
 obtain⟨g1,g2⟩:=Go.Great.foldl_set 1 (sec s) 0 (z65.setIfInBounds 0 (.int .i64 (k:Int)));unfold Instr.fill;simp only[List.getElem?_toArray,List.getElem?_cons_zero,h1];rw[if_neg (by simp[Og])];unfold Instr.fill;simp only[List.getElem?_cons_succ,List.getElem?_cons_zero,h2];rw[if_neg (by simp[Og,hl])];unfold Instr.fill;congr 1;rw[←Array.foldl_toList,Array.toList_zipIdx,Ih];have h0:((#[Value.int .i64 (k:Int)]:Array Value).zipIdx.foldl (fun cs (x:Value×Nat)=>cs.setIfInBounds (0+x.2) x.1) z65)=z65.setIfInBounds 0 (.int .i64 (k:Int)):=rfl;have h0':(Array.foldl (fun cs (x:Value×Nat)=>match x with|(c,j)=>cs.setIfInBounds (0+j) c) z65 (#[Value.int .i64 (k:Int)]:Array Value).zipIdx)=z65.setIfInBounds 0 (.int .i64 (k:Int)):=rfl;apply Array.ext_getElem?;intro j;refine Eq.trans (g2 j) ?_;rw[hl,hz];by_cases hj:1+0≤j∧j<1+0+64∧j<65
 · rw[if_pos hj];obtain⟨m,rfl⟩:∃m,j=m+1:=⟨j-1,by omega⟩;rw[Gd,EI,List.getElem?_cons_succ,show m+1-(1+0)=m by omega]
 · rw[if_neg hj];by_cases hj0:j=0
   · subst hj0;exact(Ql (by rw[Og];decide)).trans rfl
   · rw[Array.getElem?_eq_none (by rw[hz];omega),Array.getElem?_eq_none (by rw[FN,FP (p:=(k,s)) hs];omega)]
theorem qm (k:Nat)(s:ByteArray)(hs:s.size=64)(W:World):(Instr.build 167 #[(0,.int .i64 k),(1,.agg (sec s).toArray)]).run Tryz.prog W=.ok (.agg (EI (k,s)).toArray) W:=
 run_build W _ _ _ (by rw[ql];exact vE k s hs)
theorem Uv (k:Nat)(s:ByteArray)(hs:s.size=64)(W:World):(Instr.buildSlice 73 1 #[(0,.agg (EI (k,s)).toArray)]).run Tryz.prog W=.ok (.slice (some ⟨W.heap.size,0,none⟩) 1 1) (W.alloc (.cells (EI (k,s)).toArray 167)):=by
 obtain⟨i0,hi0,hz0,hz1,hz2⟩:=info_parts Tryz.dS;refine run_buildSlice (P:=Tryz.prog) W _ _ 1 _ (EI (k,s)).toArray i0 (.agg z65) Tryz.underlying73 hi0 hz0 (by rw[hz1];decide) (by rw[hz1];decide) ?_;rw[hz1];have:=Go.Great.fill_whole (s:=65) (by decide) [.agg (EI (k,s)).toArray] ((Array.range (1*65)).map ((Value.agg z65).cells[·%(Value.agg z65).cells.size]!)) (fun v hv=>by
  rw[CU.1 hv];show(EI (k,s)).toArray.size=65
  rw[FN,FP (p:=(k,s)) hs]) (by simp)
 refine Eq.trans ?_ (this.trans ?_)
 · rfl
 · simp[Value.cells]
set_option maxHeartbeats 1000000 in
theorem cZ (b:Nat)(lim:Bool)(left:Int)(w:World)(h3:w.cell? ⟨b,3,none⟩=some (.bool lim))(h4:w.cell? ⟨b,4,none⟩=some (.int .i64 left))(hf:w.frozen? ⟨b,4,none⟩=false)(hl:lim=true→0<left∧left≤9223372036854775807) :
 Calls Tryz.prog 186 #[.pointer (some ⟨b,3,none⟩)] w fun e w'=>e=.returned (.tuple #[])∧w'=if lim then w.setCell ⟨b,4,none⟩ (.int .i64 (left-1)) else w:=by
 cases lim
 · clear hl;go_enter Tryz.func186,Tryz.ntmps186;go_wp2;go_end0;exact⟨rfl,rfl⟩
 · obtain⟨h0,h1⟩:=hl rfl;have hw:IntKind.i64.wrap (left-1)=left-1:=by rw[El];omega
   go_enter Tryz.func186,Tryz.ntmps186;go_wp2;go_end0;exact⟨rfl,rfl⟩
def BU (st:St)(k:Nat)(s:ByteArray):St:={ st with now:=st.now.set k s,pend:=st.pend++[(k,s)],left:=if st.lim then st.left-1 else st.left }
def Dn (st:St)(i:Int)(s:ByteArray):Int:=if EW st.now.length st.lim st.left i=0 then(if s.size=64 then 0 else 1) else EW st.now.length st.lim st.left i
def EC (B b:Nat)(st:St)(i:Int)(s:ByteArray)(w:World)(e:Ending)(w':World):Prop:=e=.returned (.int .i64 (Dn st i s))∧Dev B w' b (if Dn st i s=0 then BU st i.toNat s else st)∧Below B w w'∧Off AZ w w'
theorem Nl {W:World}{g k:Nat}{l:List ByteArray}{s:ByteArray}(hb:W.heap[g]?=some (.cells (flat l).toArray 165 (0,0)))(hl:∀x∈l,x.size=64)(hk:k<l.length)(hs:s.size=64):(W.setCells g (k*64) (sec s)).heap[g]?=some (.cells (flat (l.set k s)).toArray 165 (0,0)):=by
 have h1:∀x∈l,(sec x).length=64:=fun x hx=>by rw[Da];exact hl x hx
 have h2:(sec s).length=64:=by rw[Da,hs]
 have hle:k*64+64≤(flat l).length:=by
  rw[flat,G6 sec 64 _ h1];have:(k+1)*64≤l.length*64:=Nat.mul_le_mul_right _ hk;omega
 rw[Ch g _ (sec s) (k*64) W _ hb (by rw[h2];exact hle),h2];unfold flat;rw[pq sec 64 l k s h1 hk h2]
theorem BS.Aaj {B:Nat}{W:World}{b gn gs:Nat}{vp:Value}{st:St}(h:BS B W b gn gs vp st){k:Nat}{s:ByteArray}(hl:∀x∈st.now,x.size=64)(hk:k<st.now.length)(hs:s.size=64):BS B (W.setCells gn (k*64) (sec s)) b gn gs vp { st with now:=st.now.set k s }:=by
 have ho:Off [165] W (W.setCells gn (k*64) (sec s)):=(Off.refl _ W).setCells h.nw (by simp) _;refine⟨h.hb,h.hgn,h.hgs,h.ne,?_,Nl h.nw hl hk hs,?_,K4 h.pd (by decide) ho⟩
 · rw[List.length_set];exact ho _ (by decide) _ _ _ h.hd
 · rw[Cj gn _ _ _ _ (Ne.symm h.ne)];exact h.sf
theorem BS.wF {B:Nat}{W:World}{b gn gs:Nat}{vp:Value}{st:St}(h:BS B W b gn gs vp st){k:Nat}{s:ByteArray}(hl:∀x∈st.safe,x.size=64)(hk:k<st.safe.length)(hs:s.size=64):BS B (W.setCells gs (k*64) (sec s)) b gn gs vp { st with safe:=st.safe.set k s }:=by
 have ho:Off [165] W (W.setCells gs (k*64) (sec s)):=(Off.refl _ W).setCells h.sf (by simp) _;refine⟨h.hb,h.hgn,h.hgs,h.ne,ho _ (by decide) _ _ _ h.hd,?_,Nl h.sf hl hk hs,K4 h.pd (by decide) ho⟩;rw[Cj gs _ _ _ _ h.ne];exact h.nw
theorem BS.Wv {B:Nat}{W W':World}{b gn gs:Nat}{vp v':Value}{st:St}{ps:List (Nat×ByteArray)}(h:BS B W b gn gs vp st)(hb:W'.heap[b]?=W.heap[b]?)(hn:W'.heap[gn]?=W.heap[gn]?)(hs:W'.heap[gs]?=W.heap[gs]?)(hown:W'.ownsRow B 167 65 v' ps.length (J8 ps)):BS B (W'.setCell ⟨b,2,none⟩ v') b gn gs v' { st with pend:=ps }:=by
 have hbb:=hb.trans h.hd;have ho:Off [77] W' (W'.setCell ⟨b,2,none⟩ v'):=(Off.refl _ W').setCell hbb (by simp) _;refine⟨h.hb,h.hgn,h.hgs,h.ne,?_,ho _ (by decide) _ _ _ (hn.trans h.nw),ho _ (by decide) _ _ _ (hs.trans h.sf),K4 hown (by decide) ho⟩;rw[Bj W' b 2 _ _ v' hbb];rfl
theorem BS.Aak {B:Nat}{W:World}{b gn gs:Nat}{vp:Value}{st:St}(h:BS B W b gn gs vp st)(x:Int):BS B (W.setCell ⟨b,4,none⟩ (.int .i64 x)) b gn gs vp { st with left:=x }:=by
 have ho:Off [77] W (W.setCell ⟨b,4,none⟩ (.int .i64 x)):=(Off.refl _ W).setCell h.hd (by simp) _;refine⟨h.hb,h.hgn,h.hgs,h.ne,?_,ho _ (by decide) _ _ _ h.nw,ho _ (by decide) _ _ _ h.sf,K4 h.pd (by decide) ho⟩;rw[Bj W b 4 _ _ _ h.hd];rfl
theorem own_ne {B:Nat}{w:World}{T U:TypeId}{n s k:Nat}{v:Value}{xs:List Value}{C:Array Value}{fr:Nat×Nat}(h:w.ownsRow B T s v n xs)(hk:w.heap[k]?=some (.cells C U fr))(hn:U≠T):v.ownBlock≠some k:=fun e=>by
 rcases h.2 with⟨hv,_⟩|⟨g,cap,cur,hv,_,hb,_⟩
 · rw[hv]at e;cases e
 · rw[hv]at e;have hg:g=k:=by simpa[Value.ownBlock]using e
   subst hg;rw[hb]at hk;injection hk with hk;injection hk with _ h2 _;exact hn h2.symm
theorem XW {B:Nat}{w:World}{T:TypeId}{n s:Nat}{v:Value}{xs:List Value}{ex:List TypeId}(h:w.ownsRow B T s v n xs){j:Nat}(hj:v.ownBlock=some j)(hT:T∈ex):∃cs U fr,w.heap[j]?=some (.cells cs U fr)∧U∈ex:=by
 rcases h.2 with⟨hv,_⟩|⟨g,cap,cur,hv,_,hb,_⟩
 · rw[hv]at hj;cases hj
 · rw[hv]at hj;have hg:g=j:=by simpa[Value.ownBlock]using hj
   subst hg;exact⟨_,_,_,hb,hT⟩
theorem mr {B b gn gs k:Nat}{w W:World}{v:Value}{st:St}{s:ByteArray}(h:BS B W b gn gs v { st with now:=st.now.set k s,pend:=st.pend++[(k,s)] })(hb:Below B w W)(ho:Off AZ w W) :
 Dev B (if st.lim=true then W.setCell ⟨b,4,none⟩ (.int .i64 (st.left-1)) else W) b (BU st k s)∧Below B w (if st.lim=true then W.setCell ⟨b,4,none⟩ (.int .i64 (st.left-1)) else W)∧Off AZ w (if st.lim=true then W.setCell ⟨b,4,none⟩ (.int .i64 (st.left-1)) else W):=by
 unfold BU;cases hl:st.lim
 · simp only[Bool.false_eq_true,if_false];refine⟨⟨gn,gs,v,?_⟩,hb,ho⟩;simpa[hl]using h
 · simp only[if_true];refine⟨⟨gn,gs,v,?_⟩,hb.setCell (p:=⟨b,4,none⟩) h.hb _,ho.setCell h.hd (by simp) _⟩;have:=h.Aak (st.left-1);simpa[hl]using this
set_option maxHeartbeats 4000000 in
theorem yf (B b k:Nat)(st:St)(s:ByteArray)(w:World)(h:Dev B w b st)(hg:Good st)(hp:st.pend.length≤1000)(ha:EW st.now.length st.lim st.left k=0)(hk:k<st.now.length)(hs:s.size=64)(hB:B≤w.heap.size) :
 Calls Tryz.prog 165 #[.pointer (some ⟨b,0,none⟩),.int .i64 k,.string s] w (fun e w'=>e=.returned (.int .i64 0)∧Dev B w' b (BU st k s)∧Below B w w'∧Off AZ w w'):=by
 obtain⟨gn,gs,vp,h⟩:=h;obtain⟨c0,c1,c2,c3,c4⟩:=h.cells;have cA:=eZ b _ _ _ _ _ k w c0 c3 c4;rw[ha]at cA;obtain⟨cap,BR,FR,kc,hBR⟩:∃cap BR FR,(convert 9 121 (.string s)).run Tryz.prog w=.ok (.slice (some ⟨w.heap.size,0,none⟩) 64 cap) (w.drew.alloc (.cells BR 5 FR))∧∀(j:Nat) (v:Value),(sec s)[j]?=some v→BR[j]?=some v:=by
  have:=run_bytes_of_string (P:=Tryz.prog) w 9 121 5 s Tryz.underlying9 Tryz.underlying121 Tryz.underlying5;rw[hs]at this;refine⟨_,_,_,this,fun j v hv=>?_⟩;have hj:j<s.data.size:=by
   have:=(Ed.1 hv).1;rw[Da]at this;exact this
  rw[bytesRow_at s _ j hj,←hv];unfold sec;rw[Hl,Array.getElem?_toList,Array.getElem?_eq_getElem hj];rfl
 have HD:=Aa h;have hkz:(k:Int)<(st.now.length:Int):=by omega
 have HG:=Aa hg;have qU:Hid ((sec s).length=64):=Aa (by rw[Da,hs]);have hap:=qA;have hzw:=VR;have FJ:=Aa (qm k s hs);have hbs:=Uv k s hs;have HL1:Hid ((Instr.loadAt 165 (.pointer (some ⟨w.heap.size,0,none⟩))).run Tryz.prog (w.alloc (.cells BR 5 FR)).drew=.ok (.agg (sec s).toArray) (w.alloc (.cells BR 5 FR)).drew):=
  Aa (run_loadAt_mid (P:=Tryz.prog) _ _ 0 _ (sec s) _ (fun j v hv=>by
   rw[Gl];show(w.alloc _).cell? _=_
   rw[AB _ _ _ _ _ _ (Ai _ _)];exact hBR j v hv) Tryz.underlying165 rfl (by rw[qU.out];exact Tryz.Mm))
 have HWL:Hid ((EI (k,s)).length=65):=Aa (FP (p:=(k,s)) hs);have hS1:(storeCells ⟨w.heap.size+1,0,none⟩ (EI (k,s))).run Tryz.prog ((w.alloc (.cells BR 5 FR)).alloc (.cells z65 167)).drew=.ok () ((w.alloc (.cells BR 5 FR)).alloc (.cells (EI (k,s)).toArray 167)).drew:=by
  have:=run_storeCells_new (P:=Tryz.prog) (w.alloc (.cells BR 5 FR)).drew 167 z65 (EI (k,s)).toArray (by rw[FN,HWL.out];exact Tryz.Rk) ((show z65.size=65 from rfl).trans (by rw[FN,HWL.out])) (all_oneCell_toArray (Q5 _));rw[show(w.alloc (.cells BR 5 FR)).drew.heap.size=w.heap.size+1 by show(w.heap.push _).size=_;simp,Ih]at this;exact this
 have s1:(w.alloc (.cells BR 5 FR)).heap.size=w.heap.size+1:=by simp
 have HB3:Hid (Below w.heap.size w ((w.alloc (.cells BR 5 FR)).alloc (.cells (EI (k,s)).toArray 167)).drew):=Aa ((((Ad _ w).alloc (Ae _) _).alloc (by rw[s1];omega) _).drew);have I6:Hid (Off [] w ((w.alloc (.cells BR 5 FR)).alloc (.cells (EI (k,s)).toArray 167)).drew):=Aa ((((Off.refl [] w).alloc _).alloc _).drew);have HT3:Hid (((w.alloc (.cells BR 5 FR)).alloc (.cells (EI (k,s)).toArray 167)).drew.heap[w.heap.size+1]?=some (.cells (EI (k,s)).toArray 167 (0,0))):=Aa (by
  rw[←s1];exact Ai _ _)
 have HD3:=Aa (h.off I6.out (by simp) (by simp) (by simp));have Aaz:=Tryz.underlying165;have yR:(Tryz.prog.info? 165).map (·.size)=some (sec s).length:=by rw[qU.out];exact Tryz.Mm
 have hone:∀v∈sec s,v.oneCell'=true:=Ox s;have hsl:(sec s).length=64:=qU.out;have HVT:Hid (∀j,vp.ownBlock=some j→j<w.heap.size+1):=Aa (fun j hj=>by have:=(h.pd.lt j hj).2;omega);have HL:Hid (st.lim=true→0<st.left∧st.left≤9223372036854775807):=Aa (fun e=>by
  have h1:=hg.nO e;have h2:=hg.nN.2;refine⟨?_,h2⟩;rcases Int.lt_or_eq_of_le h1 with h3|h3
  · exact h3
  · unfold EW at ha;rw[e,←h3]at ha;simp at ha)
 generalize hn:st.now.length=n at *;clear h hg ha hBR;go_enter Tryz.func165,Tryz.ntmps165;go_wp2_with fail;refine cA.mono ?_;rintro e w2 ⟨rfl,rfl⟩;go_upto_region 7 with(first
  | ((with_reducible refine Jl 165 _ (.pointer (some ⟨w.heap.size,0,none⟩)) (.agg (sec s).toArray) ?_ ?_ ?_);exact rfl;exact HL1.out)
  | ((with_reducible refine PE 167 _ #[(0,.int .i64 k),(1,.agg (sec s).toArray)] (.agg (EI (k,s)).toArray) ?_ ?_ ?_);exact rfl;exact FJ.out _))
 generalize ht:w.heap.size+1=t at *;generalize ((w.alloc (.cells BR 5 FR)).alloc (.cells (EI (k,s)).toArray 167)).drew=W3 at *;have Zh:=Aa ht;clear hS1 HL1 kc s1 ht c0 c1 c2 c3 c4 cA;obtain⟨c0,c1,c2,c3,c4⟩:=HD3.out.cells;rw[hn]at c0 c1;have r3:W3.rangeAt t 1 (sec s):=fun j v hv=>by
  rw[AB W3 t _ _ _ _ HT3.out,Gd,EI,Nat.add_comm,List.getElem?_cons_succ];exact hv
 have t3:W3.there gn (k*64) 64:=C9 HD3.out.nw _ _ (by
  rw[FN,flat,G6 sec 64 _ (fun x hx=>by rw[Da];exact HG.out.cu x hx),hn];have:(k+1)*64≤n*64:=Nat.mul_le_mul_right _ hk;omega)
 have hbg:b≠gn:=CP HD3.out.hd HD3.out.nw (by decide);have uR:t≠gn:=CP HT3.out HD3.out.nw (by decide);have HK:Hid (∀W:World,(W.cell? ⟨b,0,none⟩=some (.slice (some ⟨gn,0,none⟩) n n)∧W.rangeAt t 1 (sec s)∧W.there gn (k*64) 64)→((W.setCells gn (k*64) (sec s)).cell? ⟨b,0,none⟩=some (.slice (some ⟨gn,0,none⟩) n n)∧(W.setCells gn (k*64) (sec s)).rangeAt t 1 (sec s)∧(W.setCells gn (k*64) (sec s)).there gn (k*64) 64)):=Aa (fun W hW =>
  ⟨by rw[World.cell?_setCells_out gn _ _ _ _ (fun e=>absurd e hbg)];exact hW.1,World.rangeAt_setCells_apart hW.2.1 _ _ _ (Or.inl uR),World.there_setCells hW.2.2 _ _ _⟩)
 go_region_held3 (fun w'=>w'.cell? ⟨b,0,none⟩=some (.slice (some ⟨gn,0,none⟩) n n)∧w'.rangeAt t 1 (sec s)∧w'.there gn (k*64) 64) (first|assumption|exact HK.out _ (by assumption)|go_keep_ranges) (fail);have HD4:Hid (BS B (W3.drew.setCells gn (k*64) (sec s)) b gn gs vp { st with now:=st.now.set k s }):=Aa ((HD3.out.off (w':=W3.drew) (Off.refl [] W3) (by simp) (by simp) (by simp)).Aaj HG.out.cu (by rw[hn];exact hk) hs);have kC:Hid ((W3.drew.setCells gn (k*64) (sec s)).heap[t]?=some (.cells (EI (k,s)).toArray 167 (0,0))):=Aa (by rw[Cj gn _ _ _ _ uR];exact HT3.out);have KT:Hid (Below B w (W3.drew.setCells gn (k*64) (sec s))):=Aa (Below.setCells ((HB3.out.mono hB).drew) HD3.out.hgn _ _);have qY:Hid (Off AZ w (W3.drew.setCells gn (k*64) (sec s))):=Aa (Off.setCells ((I6.out.mono (ex':=AZ) (by simp)).drew) (b:=gn) (C:=(flat st.now).toArray) HD3.out.nw (by simp) _);clear HD3 HT3 HK HB3 I6 r3 t3 c0 c1 c2 c3 c4;rename_i hHeld;clear hHeld;generalize W3.drew.setCells gn (k*64) (sec s)=W4 at *;obtain⟨c0,c1,c2,c3,c4⟩:=HD4.out.cells;have f2:=HD4.out.frozen 2;have r4:W4.rangeAt t 0 (EI (k,s)):=fun j v hv=>by
  rw[AB W4 t _ _ _ _ kC.out,Gd,Gl];exact hv
 have Abw:=Tryz.underlying167;have hwl:(EI (k,s)).length=65:=HWL.out;have AbK:(Tryz.prog.info? 167).map (·.size)=some (EI (k,s)).length:=by rw[HWL.out];exact Tryz.Rk
 go_upto_region 8 with fail;have kF:Hid (∀W:World,W.cell? ⟨b,2,none⟩=some vp→(Instr.loadAt 73 (.pointer (some ⟨b,2,none⟩))).run Tryz.prog W=.ok vp W):=Aa (fun W h=>iB b vp W h);have Zl:Hid (∀W:World,_):=Aa hbs;clear hbs;have qW:Hid ((W4.drew.alloc (.cells (EI (k,s)).toArray 167)).rangeAt t 0 (EI (k,s))):=Aa (World.rangeAt_alloc (w:=W4.drew) r4 _);have HC5:Hid ((W4.drew.alloc (.cells (EI (k,s)).toArray 167)).cell? ⟨b,2,none⟩=some vp):=Aa (by rw[World.cell?_alloc_lt _ _ _ (Ab HD4.out.hd)];exact c2);obtain⟨i0,hi0,hz0,hz1,hz2⟩:=info_parts Tryz.dS;have HP5:Hid ((W4.drew.alloc (.cells (EI (k,s)).toArray 167)).ownsRow B 167 65 vp st.pend.length (J8 st.pend)):=Aa (K4 (ex:=[]) HD4.out.pd (by simp) ((Off.refl [] W4.drew).alloc _));have HN5:Hid (∀j u,(EI (k,s))[j]?=some u→(W4.drew.alloc (.cells (EI (k,s)).toArray 167)).cell? ((⟨W4.heap.size,0,none⟩:Addr).add j)=some u):=Aa (fun j u hu=>World.news_of_block (Ai W4.drew _) j u (by rw[Ih];exact hu));have JG:Hid (Below B w (W4.drew.alloc (.cells (EI (k,s)).toArray 167))):=Aa ((KT.out.drew).alloc (by show B≤W4.heap.size;have:=KT.out.size;omega) _);have Ze:Hid (Off AZ w (W4.drew.alloc (.cells (EI (k,s)).toArray 167))):=Aa ((qY.out.drew).alloc _);have HS5:Hid (B≤(W4.drew.alloc (.cells (EI (k,s)).toArray 167)).heap.size):=Aa (Al hB JG.out.size);have H5:Hid (∀j (cs:Array Value) (T:TypeId) (fr:Nat×Nat),W4.heap[j]?=some (Obj.cells cs T fr)→(W4.drew.alloc (.cells (EI (k,s)).toArray 167)).heap[j]?=some (Obj.cells cs T fr)):=Aa (fun j cs T fr hj=>by
  rw[Cx W4.drew _ _ (Ab hj)];exact hj)
 have Za:Hid (vp.ownBlock≠some b∧vp.ownBlock≠some gn∧vp.ownBlock≠some gs∧vp.ownBlock≠some t):=Aa ⟨own_ne HD4.out.pd HD4.out.hd (by decide),own_ne HD4.out.pd HD4.out.nw (by decide),own_ne HD4.out.pd HD4.out.sf (by decide),fun e=>by have:=HVT.out t e;omega⟩;have zN:Hid (t≠b):=Aa (CP kC.out HD4.out.hd (by decide));have HPC:Hid (J8 st.pend++EI (k,s)=J8 (st.pend++[(k,s)])):=Aa (by unfold J8;rw[FL];simp);have sj:Hid (st.pend.length+1=(st.pend++[(k,s)]).length):=Aa (by simp);refine wp_region_held_drew (S:=fun w'=>w'.rangeAt t 0 (EI (k,s))) (by kernel_rfl) r4 (fun hHeld=>?_);refine wpAnyH_take (i:=0) (oi:={ dst:=some 32,op:=.move (.tmp 0),type:=_,pos:=_,after:=_,guard:=none }) (v:=.pointer (some ⟨b,0,none⟩)) rfl (by kernel_rfl) (by kernel_rfl) (by kernel_rfl) (fun _ _ _ h=>h) (Or.inl ⟨by rfl,by intro _ _;rfl⟩) (by assumption) ?_;simp only[Act.put,List.setIfInBounds_toArray,List.set_cons_zero,List.set_cons_succ];refine wpAnyH_take (i:=1) (oi:={ dst:=some 33,op:=.move (.tmp 0),type:=_,pos:=_,after:=_,guard:=none }) (v:=.pointer (some ⟨b,0,none⟩)) rfl (by kernel_rfl) (by kernel_rfl) (by kernel_rfl) (fun _ _ _ h=>h) (Or.inl ⟨by rfl,by intro _ _;rfl⟩) (by assumption) ?_;simp only[Act.put,List.setIfInBounds_toArray,List.set_cons_zero,List.set_cons_succ];refine wpAnyH_take (i:=2) (oi:={ dst:=some 34,op:=.nilCheck (.tmp 33),type:=_,pos:=_,after:=_,guard:=none }) (v:=.pointer (some ⟨b,0,none⟩)) rfl (by kernel_rfl) (by kernel_rfl) (by kernel_rfl) (fun _ _ _ h=>h) (Or.inl ⟨by rfl,by intro w _;rfl⟩) (by assumption) ?_;simp only[Act.put,List.setIfInBounds_toArray,List.set_cons_zero,List.set_cons_succ];refine wpAnyH_take (i:=3) (oi:={ dst:=some 35,op:=.fieldAddr 77 (.tmp 34) 2,type:=_,pos:=_,after:=_,guard:=none }) (v:=.pointer (some ⟨b,2,none⟩)) rfl (by kernel_rfl) (by kernel_rfl) (by kernel_rfl) (fun _ _ _ h=>h) (Or.inl ⟨by rfl,by intro w _;go_simp⟩) (by assumption) ?_;simp only[Act.put,List.setIfInBounds_toArray,List.set_cons_zero,List.set_cons_succ];refine wpAnyH_take (i:=5) (oi:={ dst:=some 37,op:=.load 167 (.tmp 8),type:=_,pos:=_,after:=_,guard:=none }) (v:=.agg (EI (k,s)).toArray) rfl (by kernel_rfl) (by kernel_rfl) (by kernel_rfl) (fun _ _ _ h=>h) (yieldsIf_load_mid (by rfl) _ _ rfl t 0 rfl (EI (k,s)) _ (fun w hw=>hw) Abw rfl AbK) (by assumption) ?_;simp only[Act.put,List.setIfInBounds_toArray,List.set_cons_zero,List.set_cons_succ];refine wpAnyH_ready (rs:=[4,6]) (by kernel_rfl) (by simp) (AllReadyH.cons (o:={ dst:=some 36,op:=.load 73 (.tmp 35),type:=_,pos:=_,after:=_,guard:=none }) rfl (fun K hK=>?_) (AllReadyH.cons (o:={ dst:=some 38,op:=.buildSlice 73 1 #[(0,.tmp 37)],type:=_,pos:=_,after:=_,guard:=none }) rfl (fun K hK=>?_) AllReadyH.nil));rotate_left
 · skip
   refine MK rfl (LU 73 1 _ rfl #[(0,.agg (EI (k,s)).toArray)] (.slice (some ⟨W4.heap.size,0,none⟩) 1 1) rfl (Zl.out W4.drew) ?_);refine hK.out _ _ qW.out (fun WR=>?_);clear hK K hHeld;simp only[Act.put,List.setIfInBounds_toArray,List.set_cons_zero,List.set_cons_succ];refine wpAnyH_ready (rs:=[4]) (by kernel_rfl) (by simp) (AllReadyH.cons (o:={ dst:=some 36,op:=.load 73 (.tmp 35),type:=_,pos:=_,after:=_,guard:=none }) rfl (fun K hK=>?_) AllReadyH.nil);refine MK rfl (Xy 73 _ rfl (.pointer (some ⟨b,2,none⟩)) vp rfl (kF.out _ HC5.out) ?_);refine hK.out _ _ qW.out (fun Tg=>?_);clear hK K WR;simp only[Act.put,List.setIfInBounds_toArray,List.set_cons_zero,List.set_cons_succ];refine wpAnyH_ready (rs:=[7]) (by kernel_rfl) (by simp) (AllReadyH.cons (o:={ dst:=some 39,op:=.call { callee:=.builtin .append,args:=#[.tmp 36,.tmp 38],argTypes:=#[73,73] },type:=_,pos:=_,after:=_,guard:=none }) rfl (fun K hK=>?_) AllReadyH.nil);refine step_append_lies (W4.drew.alloc (.cells (EI (k,s)).toArray 167)) rfl _ _ 73 rfl B 167 i0 (.agg z65) 65 72 Tryz.underlying73 hi0 hz0 hz1 hz2 rfl (by decide) vp st.pend.length (J8 st.pend) rfl HP5.out ⟨W4.heap.size,0,none⟩ 1 1 (EI (k,s)) rfl HWL.out HN5.out (Q5 _) (by decide) (by unfold maxLen;omega) (by omega) HS5.out _ rfl ?_;intro g9 I5 w9 Jv EF Te ow;have fq:Hid (∀j (cs:Array Value) (T:TypeId) (fr:Nat×Nat),W4.heap[j]?=some (Obj.cells cs T fr)→vp.ownBlock≠some j→w9.heap[j]?=some (Obj.cells cs T fr)):=Aa (fun j cs T fr hj hne=>by
    have h9:=H5.out j cs T fr hj;rw[EF.block j (Ab h9) (fun e=>hne e.symm)];exact h9)
   have ht9:=fq.out t _ _ _ kC.out Za.out.2.2.2;have Rl:w9.rangeAt t 0 (EI (k,s)):=fun j v hv=>by
    rw[AB w9 t _ _ _ _ ht9,Gd,Gl];exact hv
   refine hK.out _ _ Rl (fun ay=>?_);simp only[Act.put,List.setIfInBounds_toArray,List.set_cons_zero,List.set_cons_succ];clear hK K;have Gh:=fq.out b _ _ _ HD4.out.hd Za.out.1;have uZ:w9.cell? ⟨b,2,none⟩=some vp:=by rw[AB w9 b _ _ _ _ Gh];rfl
   have hf9:w9.frozen? ⟨b,2,none⟩=false:=E8 w9 b _ _ _ Gh;refine wpAnyH_take (i:=8) (oi:={ dst:=some 40,op:=.nilCheck (.tmp 32),type:=_,pos:=_,after:=_,guard:=none }) (v:=.pointer (some ⟨b,0,none⟩)) rfl (by kernel_rfl) (by kernel_rfl) (by kernel_rfl) (fun _ _ _ h=>h) (Or.inl ⟨by rfl,by intro w _;rfl⟩) (by assumption) ?_;simp only[Act.put,List.setIfInBounds_toArray,List.set_cons_zero,List.set_cons_succ];refine wpAnyH_take (i:=9) (oi:={ dst:=some 41,op:=.fieldAddr 77 (.tmp 40) 2,type:=_,pos:=_,after:=_,guard:=none }) (v:=.pointer (some ⟨b,2,none⟩)) rfl (by kernel_rfl) (by kernel_rfl) (by kernel_rfl) (fun _ _ _ h=>h) (Or.inl ⟨by rfl,by intro w _;go_simp⟩) (by assumption) ?_;simp only[Act.put,List.setIfInBounds_toArray,List.set_cons_zero,List.set_cons_succ];refine wpAnyH_ready (rs:=[10]) (by kernel_rfl) (by simp) (AllReadyH.cons (o:={ dst:=none,op:=.store 73 (.tmp 41) (.tmp 39),type:=_,pos:=_,after:=_,guard:=none }) rfl (fun K hK=>?_) AllReadyH.nil);refine MK rfl (UB 73 _ _ rfl (.pointer (some ⟨b,2,none⟩)) (.slice (some ⟨g9,0,none⟩) (st.pend.length+1) I5) rfl rfl (RU b _ _ _ vp w9 uZ hf9) ?_);refine hK.out _ _ (fun j v hv=>by rw[World.cell?_setCell_other _ _ _ _ (fun e=>zN.out (by injection e with e1 _ _;exact e1.symm))];exact Rl j v hv) (fun ax=>?_);clear hK K;refine wpAnyH_done (by kernel_rfl) ?_ _;have HD6:Hid (BS B (w9.setCell ⟨b,2,none⟩ (.slice (some ⟨g9,0,none⟩) (st.pend.length+1) I5)) b gn gs (.slice (some ⟨g9,0,none⟩) (st.pend.length+1) I5) { st with now:=st.now.set k s,pend:=st.pend++[(k,s)] }):=Aa (HD4.out.Wv (Gh.trans HD4.out.hd.symm) ((fq.out gn _ _ _ HD4.out.nw Za.out.2.1).trans HD4.out.nw.symm) ((fq.out gs _ _ _ HD4.out.sf Za.out.2.2.1).trans HD4.out.sf.symm) (by rw[←HPC.out,←sj.out];exact Jv));have VO:Hid (Below B w (w9.setCell ⟨b,2,none⟩ (.slice (some ⟨g9,0,none⟩) (st.pend.length+1) I5))):=Aa ((JG.out.grown EF HS5.out (fun j hj=>(HP5.out.lt j hj).1)).setCell (p:=⟨b,2,none⟩) HD4.out.hb _);have vZ:Hid (Off AZ w (w9.setCell ⟨b,2,none⟩ (.slice (some ⟨g9,0,none⟩) (st.pend.length+1) I5))):=Aa (Off.setCell (Ze.out.grown EF (fun j hj=>XW HP5.out hj (by simp))) Gh (by simp) _);clear Jv EF Te ow fq ht9 Rl ay Gh uZ hf9 ax c0 c1 c2 c3 c4 f2 r4;obtain⟨v6,hv6⟩:∃v6,v6=Value.slice (some ⟨g9,0,none⟩) (st.pend.length+1) I5:=⟨_,rfl⟩;rw[←hv6]at HD6 VO vZ ⊢;generalize w9.setCell ⟨b,2,none⟩ v6=W6 at *;obtain⟨c0,c1,c2,c3,c4⟩:=HD6.out.cells;have f4:=HD6.out.frozen 4;have cS:=cZ b st.lim st.left W6 c3 c4 f4 HL.out;clear c0 c1 c2 hv6;go_wp2_with fail;refine cS.mono ?_;rintro e w7 ⟨rfl,hw7⟩;have qQ:=Aa hw7;clear hw7 cS;go_wp2;go_ret;refine⟨rfl,?_⟩;have:=mr HD6.out VO.out vZ.out;rw[←qQ.out]at this;exact this
 · skip
   refine MK rfl (Xy 73 _ rfl (.pointer (some ⟨b,2,none⟩)) vp rfl (kF.out _ c2) ?_);refine hK.out _ _ r4 (fun Tg=>?_);clear hK K hHeld;simp only[Act.put,List.setIfInBounds_toArray,List.set_cons_zero,List.set_cons_succ];refine wpAnyH_ready (rs:=[6]) (by kernel_rfl) (by simp) (AllReadyH.cons (o:={ dst:=some 38,op:=.buildSlice 73 1 #[(0,.tmp 37)],type:=_,pos:=_,after:=_,guard:=none }) rfl (fun K hK=>?_) AllReadyH.nil);refine MK rfl (LU 73 1 _ rfl #[(0,.agg (EI (k,s)).toArray)] (.slice (some ⟨W4.heap.size,0,none⟩) 1 1) rfl (Zl.out W4.drew) ?_);refine hK.out _ _ qW.out (fun WR=>?_);clear hK K Tg;simp only[Act.put,List.setIfInBounds_toArray,List.set_cons_zero,List.set_cons_succ];refine wpAnyH_ready (rs:=[7]) (by kernel_rfl) (by simp) (AllReadyH.cons (o:={ dst:=some 39,op:=.call { callee:=.builtin .append,args:=#[.tmp 36,.tmp 38],argTypes:=#[73,73] },type:=_,pos:=_,after:=_,guard:=none }) rfl (fun K hK=>?_) AllReadyH.nil);refine step_append_lies (W4.drew.alloc (.cells (EI (k,s)).toArray 167)) rfl _ _ 73 rfl B 167 i0 (.agg z65) 65 72 Tryz.underlying73 hi0 hz0 hz1 hz2 rfl (by decide) vp st.pend.length (J8 st.pend) rfl HP5.out ⟨W4.heap.size,0,none⟩ 1 1 (EI (k,s)) rfl HWL.out HN5.out (Q5 _) (by decide) (by unfold maxLen;omega) (by omega) HS5.out _ rfl ?_;intro g9 I5 w9 Jv EF Te ow;have fq:Hid (∀j (cs:Array Value) (T:TypeId) (fr:Nat×Nat),W4.heap[j]?=some (Obj.cells cs T fr)→vp.ownBlock≠some j→w9.heap[j]?=some (Obj.cells cs T fr)):=Aa (fun j cs T fr hj hne=>by
    have h9:=H5.out j cs T fr hj;rw[EF.block j (Ab h9) (fun e=>hne e.symm)];exact h9)
   have ht9:=fq.out t _ _ _ kC.out Za.out.2.2.2;have Rl:w9.rangeAt t 0 (EI (k,s)):=fun j v hv=>by
    rw[AB w9 t _ _ _ _ ht9,Gd,Gl];exact hv
   refine hK.out _ _ Rl (fun ay=>?_);simp only[Act.put,List.setIfInBounds_toArray,List.set_cons_zero,List.set_cons_succ];clear hK K;have Gh:=fq.out b _ _ _ HD4.out.hd Za.out.1;have uZ:w9.cell? ⟨b,2,none⟩=some vp:=by rw[AB w9 b _ _ _ _ Gh];rfl
   have hf9:w9.frozen? ⟨b,2,none⟩=false:=E8 w9 b _ _ _ Gh;refine wpAnyH_take (i:=8) (oi:={ dst:=some 40,op:=.nilCheck (.tmp 32),type:=_,pos:=_,after:=_,guard:=none }) (v:=.pointer (some ⟨b,0,none⟩)) rfl (by kernel_rfl) (by kernel_rfl) (by kernel_rfl) (fun _ _ _ h=>h) (Or.inl ⟨by rfl,by intro w _;rfl⟩) (by assumption) ?_;simp only[Act.put,List.setIfInBounds_toArray,List.set_cons_zero,List.set_cons_succ];refine wpAnyH_take (i:=9) (oi:={ dst:=some 41,op:=.fieldAddr 77 (.tmp 40) 2,type:=_,pos:=_,after:=_,guard:=none }) (v:=.pointer (some ⟨b,2,none⟩)) rfl (by kernel_rfl) (by kernel_rfl) (by kernel_rfl) (fun _ _ _ h=>h) (Or.inl ⟨by rfl,by intro w _;go_simp⟩) (by assumption) ?_;simp only[Act.put,List.setIfInBounds_toArray,List.set_cons_zero,List.set_cons_succ];refine wpAnyH_ready (rs:=[10]) (by kernel_rfl) (by simp) (AllReadyH.cons (o:={ dst:=none,op:=.store 73 (.tmp 41) (.tmp 39),type:=_,pos:=_,after:=_,guard:=none }) rfl (fun K hK=>?_) AllReadyH.nil);refine MK rfl (UB 73 _ _ rfl (.pointer (some ⟨b,2,none⟩)) (.slice (some ⟨g9,0,none⟩) (st.pend.length+1) I5) rfl rfl (RU b _ _ _ vp w9 uZ hf9) ?_);refine hK.out _ _ (fun j v hv=>by rw[World.cell?_setCell_other _ _ _ _ (fun e=>zN.out (by injection e with e1 _ _;exact e1.symm))];exact Rl j v hv) (fun ax=>?_);clear hK K;refine wpAnyH_done (by kernel_rfl) ?_ _;have HD6:Hid (BS B (w9.setCell ⟨b,2,none⟩ (.slice (some ⟨g9,0,none⟩) (st.pend.length+1) I5)) b gn gs (.slice (some ⟨g9,0,none⟩) (st.pend.length+1) I5) { st with now:=st.now.set k s,pend:=st.pend++[(k,s)] }):=Aa (HD4.out.Wv (Gh.trans HD4.out.hd.symm) ((fq.out gn _ _ _ HD4.out.nw Za.out.2.1).trans HD4.out.nw.symm) ((fq.out gs _ _ _ HD4.out.sf Za.out.2.2.1).trans HD4.out.sf.symm) (by rw[←HPC.out,←sj.out];exact Jv));have VO:Hid (Below B w (w9.setCell ⟨b,2,none⟩ (.slice (some ⟨g9,0,none⟩) (st.pend.length+1) I5))):=Aa ((JG.out.grown EF HS5.out (fun j hj=>(HP5.out.lt j hj).1)).setCell (p:=⟨b,2,none⟩) HD4.out.hb _);have vZ:Hid (Off AZ w (w9.setCell ⟨b,2,none⟩ (.slice (some ⟨g9,0,none⟩) (st.pend.length+1) I5))):=Aa (Off.setCell (Ze.out.grown EF (fun j hj=>XW HP5.out hj (by simp))) Gh (by simp) _);clear Jv EF Te ow fq ht9 Rl ay Gh uZ hf9 ax c0 c1 c2 c3 c4 f2 r4;obtain⟨v6,hv6⟩:∃v6,v6=Value.slice (some ⟨g9,0,none⟩) (st.pend.length+1) I5:=⟨_,rfl⟩;rw[←hv6]at HD6 VO vZ ⊢;generalize w9.setCell ⟨b,2,none⟩ v6=W6 at *;obtain⟨c0,c1,c2,c3,c4⟩:=HD6.out.cells;have f4:=HD6.out.frozen 4;have cS:=cZ b st.lim st.left W6 c3 c4 f4 HL.out;clear c0 c1 c2 hv6;go_wp2_with fail;refine cS.mono ?_;rintro e w7 ⟨rfl,hw7⟩;have qQ:=Aa hw7;clear hw7 cS;go_wp2;go_ret;refine⟨rfl,?_⟩;have:=mr HD6.out VO.out vZ.out;rw[←qQ.out]at this;exact this
theorem Ph {n:Nat}{lim:Bool}{left i:Int}(h:EW n lim left i=0):∃k:Nat,i=k∧k<n:=by
 unfold EW at h;split at h
 · cases h
 · split at h
   · cases h
   · exact⟨i.toNat,by omega,by omega⟩
set_option maxHeartbeats 2000000 in
theorem UZ (B b:Nat)(st:St)(i:Int)(s:ByteArray)(w:World)(h:Dev B w b st)(hg:Good st)(hp:st.pend.length≤1000)(hB:B≤w.heap.size) :
 Calls Tryz.prog 165 #[.pointer (some ⟨b,0,none⟩),.int .i64 i,.string s] w (EC B b st i s w):=by
 unfold EC;by_cases ha:EW st.now.length st.lim st.left i=0
 · obtain⟨k,rfl,hk⟩:=Ph ha;by_cases hs:s.size=64
   · have hq:Dn st k s=0:=by unfold Dn;rw[if_pos ha,if_pos hs]
     rw[hq,if_pos rfl];exact yf B b k st s w h hg hp ha hk hs hB
   · have hq:Dn st k s=1:=by unfold Dn;rw[if_pos ha,if_neg hs]
     rw[hq,if_neg (by decide)];have HD:=Aa h;obtain⟨gn,gs,vp,h⟩:=h;obtain⟨c0,c1,c2,c3,c4⟩:=h.cells;have cA:=eZ b _ _ _ _ _ k w c0 c3 c4;rw[ha]at cA;have hne:((s.size:Int)==64)=false:=by rw[A8];omega
     have hne2:((s.size:Int)!=64)=true:=by rw[bne,hne];rfl
     generalize st.now.length=n at *;clear h hg hq ha;go_enter Tryz.func165,Tryz.ntmps165;go_wp2_with fail;refine cA.mono ?_;rintro e w2 ⟨rfl,rfl⟩;go_wp2;go_ret;exact⟨rfl,HD.out,Ad _ _,Off.refl _ _⟩
 · have hq:Dn st i s=EW st.now.length st.lim st.left i:=by unfold Dn;rw[if_neg ha]
   rw[hq,if_neg ha];have HD:=Aa h;obtain⟨gn,gs,vp,h⟩:=h;obtain⟨c0,c1,c2,c3,c4⟩:=h.cells;have cA:=eZ b _ _ _ _ _ i w c0 c3 c4;have hne:(EW st.now.length st.lim st.left i==0)=false:=by simpa using ha
   generalize EW st.now.length st.lim st.left i=q at *;generalize st.now.length=n at *;clear h hg hq;go_enter Tryz.func165,Tryz.ntmps165;go_wp2_with fail;refine cA.mono ?_;rintro e w2 ⟨rfl,rfl⟩;go_wp2;go_ret;exact⟨rfl,HD.out,Ad _ _,Off.refl _ _⟩
def BJ (st:St):Bool:=st.lim&&st.left==0
def JA (st:St)(n:Int):St:=if BJ st=true then st else { st with lim:=decide (0≤n),left:=n }
theorem BS.kP {B:Nat}{W W':World}{b gn gs:Nat}{vp:Value}{st:St}(h:BS B W b gn gs vp st)(l:Bool)(x:Int)(hb:W'.heap[b]?=some (.cells (head gn gs st.now.length vp l x) 77 (0,0)))(hf:∀j,j≠b→W'.heap[j]?=W.heap[j]?):BS B W' b gn gs vp { st with lim:=l,left:=x }:=by
 have h1:gn≠b:=Ne.symm (CP h.hd h.nw (by decide));have h2:gs≠b:=Ne.symm (CP h.hd h.sf (by decide));refine⟨h.hb,h.hgn,h.hgs,h.ne,hb,(hf gn h1).trans h.nw,(hf gs h2).trans h.sf,⟨h.pd.1,?_⟩⟩;rcases h.pd.2 with hn|⟨g,cap,cur,hv,hg,hh,r⟩
 · exact Or.inl hn
 · exact Or.inr ⟨g,cap,cur,hv,hg,(hf g (CP hh h.hd (by decide))).trans hh,r⟩
set_option maxHeartbeats 2000000 in
theorem wX (B b:Nat)(st:St)(n:Int)(w:World)(h:Dev B w b st) :
 Calls Tryz.prog 11 #[.pointer (some ⟨b,0,none⟩),.int .i64 n] w fun e w'=>e=.returned (.tuple #[])∧Dev B w' b (JA st n)∧Below B w w'∧Off AZ w w':=by
 unfold JA BJ;have HD:=Aa h;obtain⟨gn,gs,vp,h⟩:=h;obtain⟨c0,c1,c2,c3,c4⟩:=h.cells;have cG:=WU b _ _ w c3 c4;cases hg:(st.lim&&st.left==0)
 · rw[hg]at cG;simp only[Bool.false_eq_true,if_false];have f3:=h.frozen 3;have f4:=h.frozen 4;have HH:=Aa h;have HW:Hid (∀l:Bool,l=decide (0≤n)→(Dev B ((w.setCell ⟨b,3,none⟩ (.bool l)).setCell ⟨b,4,none⟩ (.int .i64 n)) b { st with lim:=decide (0≤n),left:=n }∧Below B w ((w.setCell ⟨b,3,none⟩ (.bool l)).setCell ⟨b,4,none⟩ (.int .i64 n))∧Off AZ w ((w.setCell ⟨b,3,none⟩ (.bool l)).setCell ⟨b,4,none⟩ (.int .i64 n)))):=Aa (fun l hl=>by
    subst hl;have e1:=Bj w b 3 _ _ (.bool (decide (0≤n))) HH.out.hd;have e2:=Bj _ b 4 _ _ (.int .i64 n) e1;refine⟨⟨gn,gs,vp,HH.out.kP _ _ e2 (fun j hj=>?_)⟩,((Ad B w).setCell (p:=⟨b,3,none⟩) HH.out.hb _).setCell (p:=⟨b,4,none⟩) HH.out.hb _,Off.setCell (Off.setCell (Off.refl _ w) HH.out.hd (by simp) _) e1 (by simp) _⟩;rw[heap_setCell_other _ _ _ _ hj,heap_setCell_other _ _ _ _ hj])
   clear h hg;by_cases hn:0≤n
   · have hd:decide (0≤n)=true:=AX hn;rw[hd]at HW;go_enter Tryz.func11,Tryz.ntmps11;go_wp2_with fail;refine cG.mono ?_;rintro e w2 ⟨rfl,rfl⟩;go_wp2;go_end0;refine⟨rfl,?_⟩;have:=HW.out true rfl;simpa[hd]using this
   · have hd:decide (0≤n)=false:=A7 hn;rw[hd]at HW;go_enter Tryz.func11,Tryz.ntmps11;go_wp2_with fail;refine cG.mono ?_;rintro e w2 ⟨rfl,rfl⟩;go_wp2;go_end0;refine⟨rfl,?_⟩;have:=HW.out false rfl;simpa[hd]using this
 · rw[hg]at cG;simp only[if_true];clear h hg;go_enter Tryz.func11,Tryz.ntmps11;go_wp2_with fail;refine cG.mono ?_;rintro e w2 ⟨rfl,rfl⟩;go_wp2;refine Br (results_none rfl _ _ _) rfl ?_;exact⟨rfl,HD.out,Ad _ _,Off.refl _ _⟩
def setFrom (src:List ByteArray)(ps:List (Nat×ByteArray))(l:List ByteArray):List ByteArray:=ps.foldl (fun l p=>l.set p.1 (src.getD p.1 ⟨#[]⟩)) l
theorem LX (src:List ByteArray):∀(ps:List (Nat×ByteArray)) (l:List ByteArray),(setFrom src ps l).length=l.length
 | [],l=>rfl
 | p::ps,l=>by
  show(setFrom src ps (l.set _ _)).length=_
  rw[LX src ps,List.length_set]
theorem Ov (src:List ByteArray)(ps:List (Nat×ByteArray))(p:Nat×ByteArray)(l:List ByteArray):setFrom src (ps++[p]) l=(setFrom src ps l).set p.1 (src.getD p.1 ⟨#[]⟩):=by
 unfold setFrom;rw[List.foldl_append];rfl
theorem Qq (src:List ByteArray):∀(ps:List (Nat×ByteArray)) (l:List ByteArray) (i:Nat),(∀p∈ps,p.1<src.length)→src.length=l.length →
 (setFrom src ps l)[i]?=if ∃p∈ps,p.1=i then src[i]? else l[i]?
 | [],l,i,_,_=>by simp[setFrom]
 | p::ps,l,i,hs,hl=>by
  show(setFrom src ps (l.set _ _))[i]?=_
  rw[Qq src ps _ i (fun q hq=>hs q (by simp[hq])) (by rw[List.length_set];exact hl)];have hp:=hs p (by simp);by_cases h1:∃q∈ps,q.1=i
  · rw[if_pos h1,if_pos];obtain⟨q,hq,e⟩:=h1;exact⟨q,by simp[hq],e⟩
  · rw[if_neg h1];by_cases h2:p.1=i
    · rw[if_pos ⟨p,by simp,h2⟩];subst h2;rw[List.getElem?_set_self (by omega),FK,Ci hp];rfl
    · rw[Ji h2,if_neg];rintro⟨q,hq,e⟩;rcases Er.1 hq with rfl|hq
      · exact h2 e
      · exact h1 ⟨q,hq,e⟩
theorem Qr {src l:List ByteArray}{ps:List (Nat×ByteArray)}(hs:∀p∈ps,p.1<src.length)(hl:src.length=l.length)(h:∀i,(∀p∈ps,p.1≠i)→src[i]?=l[i]?):setFrom src ps l=src:=by
 apply List.ext_getElem?;intro i;rw[Qq src ps l i hs hl];split
 · rfl
 · rename_i hn;exact(h i (fun p hp e=>hn ⟨p,hp,e⟩)).symm
theorem Ow {src:List ByteArray}{ps:List (Nat×ByteArray)}{l:List ByteArray}(hs:∀p∈ps,p.1<src.length)(h1:∀x∈src,x.size=64)(h2:∀x∈l,x.size=64):∀x∈setFrom src ps l,x.size=64:=by
 induction ps generalizing l with
 | nil=>exact h2
 | cons p ps ih =>
  refine ih (l:=l.set _ _) (fun q hq=>hs q (by simp[hq])) (fun x hx=>?_);rcases List.mem_or_eq_of_mem_set hx with h|h
  · exact h2 x h
  · rw[h];have hp:=hs p (by simp);rw[FK,Ci hp];exact h1 _ (List.getElem_mem hp)
theorem Ww {B:Nat}{W:World}{vp:Value}{ps:List (Nat×ByteArray)}(h:W.ownsRow B 167 65 vp ps.length (J8 ps))(hs:∀p∈ps,p.2.size=64){j:Nat}{p:Nat×ByteArray}(hp:ps[j]?=some p) :
 ∃gp cap,vp=.slice (some ⟨gp,0,none⟩) ps.length cap∧(Instr.loadAt 167 (.pointer (some ⟨gp,j*65,none⟩))).run Tryz.prog W=.ok (.agg (EI p).toArray) W:=by
 have hj:j<ps.length:=(Ed.1 hp).1;have hw:∀q∈ps,(EI q).length=65:=fun q hq=>FP (hs q hq)
 rcases h.2 with⟨_,h0⟩|⟨g,cap,cur,hv,_,hb,hn,_,hc,ht⟩
 · omega
 · refine⟨g,cap,hv,run_loadAt_mid (P:=Tryz.prog) W g (j*65) _ (EI p) _ ?_ Tryz.underlying167 rfl (by rw[hw p (Dr hp)];exact Tryz.Rk)⟩;refine Fx EI 65 (R:=cur.toList.drop (ps.length*65)) hw hp (w:=W) (b:=g) (T:=167) (fr:=(0,0)) ?_;rw[hb];have e:cur.toList=J8 ps++cur.toList.drop (ps.length*65):=by rw[←ht,List.take_append_drop]
   congr 2;apply Array.ext';rw[Ih];exact e
theorem RQ (W:World)(p:Nat×ByteArray)(hp:p.2.size=64):(storeCells ⟨W.heap.size,0,none⟩ (EI p)).run Tryz.prog (W.alloc (.cells z65 167))=.ok () (W.alloc (.cells (EI p).toArray 167)):=by
 have hw:=FP hp;have:=run_storeCells_new (P:=Tryz.prog) W 167 z65 (EI p).toArray (by rw[FN,hw];exact Tryz.Rk) ((show z65.size=65 from rfl).trans (by rw[FN,hw])) (all_oneCell_toArray (Q5 _));rw[Ih]at this;exact this
theorem BS.alloc {B:Nat}{W:World}{b gn gs:Nat}{vp:Value}{st:St}(h:BS B W b gn gs vp st)(o:Obj):BS B (W.alloc o) b gn gs vp st:=h.off (ex:=[]) ((Off.refl _ W).alloc o) (by simp) (by simp) (by simp)
theorem BS.drew {B:Nat}{W:World}{b gn gs:Nat}{vp:Value}{st:St}(h:BS B W b gn gs vp st):BS B W.drew b gn gs vp st:=h.off (ex:=[]) ((Off.refl [] W).drew) (by simp) (by simp) (by simp)
theorem BS.mo {B:Nat}{W:World}{b gn gs:Nat}{vp:Value}{st:St}(h:BS B W b gn gs vp st)(hl:∀x∈st.now,x.size=64){k:Nat}{x:ByteArray}(hk:st.now[k]?=some x):W.rangeAt gn (k*64) (sec x):=
 Fx sec 64 (R:=[]) (fun s hs=>by rw[Da];exact hl s hs) hk (w:=W) (b:=gn) (T:=165) (fr:=(0,0)) (by rw[Ct];exact h.nw)
theorem BS.gM {B:Nat}{W:World}{b gn gs:Nat}{vp:Value}{st:St}(h:BS B W b gn gs vp st)(hl:∀x∈st.safe,x.size=64){k:Nat}{x:ByteArray}(hk:st.safe[k]?=some x):W.rangeAt gs (k*64) (sec x):=
 Fx sec 64 (R:=[]) (fun s hs=>by rw[Da];exact hl s hs) hk (w:=W) (b:=gs) (T:=165) (fr:=(0,0)) (by rw[Ct];exact h.sf)
theorem Nz {W:World}{g:Nat}{l:List ByteArray}(hb:W.heap[g]?=some (.cells (flat l).toArray 165 (0,0)))(hl:∀x∈l,x.size=64){k:Nat}(hk:k<l.length):W.there g (k*64) 64:=C9 hb _ _ (by
 rw[FN,flat,G6 sec 64 _ (fun x hx=>by rw[Da];exact hl x hx)];have:(k+1)*64≤l.length*64:=Nat.mul_le_mul_right _ hk;omega)
def Dq (st:St):St:={ st with safe:=st.now,pend:=[] }
def VQ (B b:Nat)(st:St)(w:World)(e:Ending)(w':World):Prop:=e=.returned (.int .i64 (if BJ st=true then 13 else 0))∧Dev B w' b (if BJ st=true then st else Dq st)∧Below B w w'∧Off AZ w w'
theorem BS.mY {B:Nat}{W:World}{b gn gs:Nat}{vp:Value}{st:St}(h:BS B W b gn gs vp st):BS B (W.setCell ⟨b,2,none⟩ (.slice none 0 0)) b gn gs (.slice none 0 0) { st with pend:=[] }:=
 h.Wv (ps:=[]) rfl rfl rfl ⟨rfl,Or.inl ⟨rfl,rfl⟩⟩
set_option maxHeartbeats 4000000 in
theorem pg (B b:Nat)(st:St)(w:World)(h:Dev B w b st)(hg:Good st)(hp:st.pend.length≤1000000)(hn0:BJ st=false)(hB:B≤w.heap.size) :
 Calls Tryz.prog 53 #[.pointer (some ⟨b,0,none⟩)] w (fun e w'=>e=.returned (.int .i64 0)∧Dev B w' b (Dq st)∧Below B w w'∧Off AZ w w'):=by
 obtain⟨gn,gs,vp,h⟩:=h;obtain⟨c0,c1,c2,c3,c4⟩:=h.cells;have cG:=WU b _ _ w c3 c4;unfold BJ at hn0;rw[hn0]at cG;have HD:=Aa h;have HG:=Aa hg;obtain⟨n,hn⟩:∃n,st.now.length=n:=⟨_,rfl⟩;have HN:=Aa hn;obtain⟨m,hm⟩:∃m,st.pend.length=m:=⟨_,rfl⟩;have HM:=Aa hm;obtain⟨ap,cap,hvp⟩:=h.vp;rw[hm]at hvp hp;subst hvp;have hzw:=VR;have Aaz:=Tryz.underlying165;clear h hg hn0 hn hm c0 c1 c3 c4;go_enter Tryz.func53,Tryz.ntmps53;go_wp2_with fail;refine cG.mono ?_;rintro e w2 ⟨rfl,rfl⟩;go_wp2_with fail;clear c2 cG;go_loopw [14] (fun iv wr=>∃j:Nat,j≤m∧iv=.int .i64 j∧BS B wr b gn gs (.slice ap m cap) { st with safe:=setFrom st.now (st.pend.take j) st.safe }∧Below B w wr∧Off AZ w wr) (fun iv _=>m-(intOf iv).toNat)
 case atStart=>exact⟨0,by omega,rfl,HD.out,Ad _ _,Off.refl _ _⟩
 case round =>
  obtain⟨j,hj,rfl,hd,hb,ho⟩:=hrel;have kG:=Aa hd;have xI:=Aa hb;have HOj:=Aa ho;clear hd hb ho;by_cases hjm:j<m
  · have hjz:(j:Int)<(m:Int):=by omega
    obtain⟨p,ae⟩:∃p,st.pend[j]?=some p:=⟨_,Ci (by have:=HM.out;omega)⟩;have hpm:=Dr ae;rcases p with⟨k,s⟩;obtain⟨hpk,hps⟩:=HG.out.IE _ hpm;simp only at hpk hps;obtain⟨gp,cp,hv,hld⟩:=Ww kG.out.pd (fun q hq=>(HG.out.IE q hq).2) ae;have hv2:ap=some ⟨gp,0,none⟩:=by injection hv
    subst hv2;have kF:=Aa hld;have hst:=RQ wr (k,s) hps;have HPJ:=Aa ae;have hwl:(EI (k,s)).length=65:=FP (p:=(k,s)) hps;have HD1:Hid (BS B (wr.alloc (.cells (EI (k,s)).toArray 167)) b gn gs (.slice (some ⟨gp,0,none⟩) m cap) { st with safe:=setFrom st.now (st.pend.take j) st.safe }):=Aa (kG.out.alloc _);have HB1:Hid (Below B w (wr.alloc (.cells (EI (k,s)).toArray 167))):=Aa (xI.out.alloc (Al hB xI.out.size) _);have Zf:Hid (Off AZ w (wr.alloc (.cells (EI (k,s)).toArray 167))):=Aa (HOj.out.alloc _);have HT1:Hid ((wr.alloc (.cells (EI (k,s)).toArray 167)).heap[wr.heap.size]?=some (.cells (EI (k,s)).toArray 167 (0,0))):=Aa (Ai _ _);obtain⟨x,hx⟩:∃x,st.now[k]?=some x:=⟨_,Ci hpk⟩;have hxs:=HG.out.cu x (Dr hx);have hsl:(sec x).length=64:=by rw[Da,hxs]
    have yR:(Tryz.prog.info? 165).map (·.size)=some (sec x).length:=by rw[hsl];exact Tryz.Mm
    have hone:∀v∈sec x,v.oneCell'=true:=Ox x;have HX:=Aa hx;have HXS:=Aa hxs;have hpk':k<n:=by have:=HN.out;omega
    have hkz:(k:Int)<(n:Int):=by omega
    clear hv hld ae hpm hpk hx hxs;go_upto_region 6 with(first|((with_reducible refine Jl 167 _ (.pointer (some ⟨gp,j*65,none⟩)) (.agg (EI (k,s)).toArray) ?_ ?_ ?_);exact rfl;exact kF.out));clear hst kF;generalize wr.heap.size=t at *;generalize wr.alloc (.cells (EI (k,s)).toArray 167)=W1 at *;have hct:W1.cell? ⟨t,0,none⟩=some (.int .i64 k):=by rw[AB W1 t _ _ _ _ HT1.out];rfl
    obtain⟨c0,c1,c2,c3,c4⟩:=HD1.out.cells;simp only at c0 c1;rw[HN.out]at c0 c1;have QN:Hid (∀x∈setFrom st.now (st.pend.take j) st.safe,x.size=64):=Aa (Ow (fun q hq=>(HG.out.IE q (List.mem_of_mem_take hq)).1) HG.out.cu HG.out.szs);have rz:Hid ((setFrom st.now (st.pend.take j) st.safe).length=n):=Aa (by rw[LX,HG.out.same,HN.out]);have r1:=HD1.out.mo HG.out.cu HX.out;have t1:=Nz HD1.out.sf QN.out (k:=k) (by rw[rz.out];exact hpk');have hbg:b≠gs:=CP HD1.out.hd HD1.out.sf (by decide);have uR:t≠gs:=CP HT1.out HD1.out.sf (by decide);have hgg:gn≠gs:=HD1.out.ne;have HK:Hid (∀W:World,(W.cell? ⟨b,0,none⟩=some (.slice (some ⟨gn,0,none⟩) n n)∧W.cell? ⟨b,1,none⟩=some (.slice (some ⟨gs,0,none⟩) n n)∧W.cell? ⟨t,0,none⟩=some (.int .i64 k)∧W.rangeAt gn (k*64) (sec x)∧W.there gs (k*64) 64)→((W.setCells gs (k*64) (sec x)).cell? ⟨b,0,none⟩=some (.slice (some ⟨gn,0,none⟩) n n)∧(W.setCells gs (k*64) (sec x)).cell? ⟨b,1,none⟩=some (.slice (some ⟨gs,0,none⟩) n n)∧(W.setCells gs (k*64) (sec x)).cell? ⟨t,0,none⟩=some (.int .i64 k)∧(W.setCells gs (k*64) (sec x)).rangeAt gn (k*64) (sec x)∧(W.setCells gs (k*64) (sec x)).there gs (k*64) 64)):=Aa (fun W hW =>
     ⟨by rw[World.cell?_setCells_out gs _ _ _ _ (fun e=>absurd e hbg)];exact hW.1,by rw[World.cell?_setCells_out gs _ _ _ _ (fun e=>absurd e hbg)];exact hW.2.1,by rw[World.cell?_setCells_out gs _ _ _ _ (fun e=>absurd e uR)];exact hW.2.2.1,World.rangeAt_setCells_apart hW.2.2.2.1 _ _ _ (Or.inl hgg),World.there_setCells hW.2.2.2.2 _ _ _⟩)
    have GA:Hid (BS B (W1.drew.setCells gs (k*64) (sec x)) b gn gs (.slice (some ⟨gp,0,none⟩) m cap) { st with safe:=setFrom st.now (st.pend.take (j+1)) st.safe }):=Aa (by
     rw[Hw HPJ.out,Ov,show st.now.getD k ⟨#[]⟩=x by rw[FK,HX.out];rfl];exact HD1.out.drew.wF QN.out (by rw[rz.out];exact hpk') HXS.out)
    have GD:Hid (Below B w (W1.drew.setCells gs (k*64) (sec x))):=Aa (Below.setCells HB1.out.drew HD1.out.hgs _ _);have Xw:Hid (Off AZ w (W1.drew.setCells gs (k*64) (sec x))):=Aa (Off.setCells Zf.out.drew (b:=gs) (C:=(flat (setFrom st.now (st.pend.take j) st.safe)).toArray) HD1.out.sf (by simp) _);clear c2 c3 c4;go_region_held3 (fun w'=>w'.cell? ⟨b,0,none⟩=some (.slice (some ⟨gn,0,none⟩) n n)∧w'.cell? ⟨b,1,none⟩=some (.slice (some ⟨gs,0,none⟩) n n)∧w'.cell? ⟨t,0,none⟩=some (.int .i64 k)∧w'.rangeAt gn (k*64) (sec x)∧w'.there gs (k*64) 64) (first|assumption|exact HK.out _ (by assumption)|exact⟨c0,c1,hct,r1,t1⟩) (fail);rename_i hHeld;clear hHeld HK c0 c1 hct r1 t1;go_wp2;go_roundw
    case rel=>exact⟨j+1,by omega,by first|rfl|go_num,GA.out,GD.out,Xw.out⟩
    case measure=>simp[intOf];omega
  · have hge:¬((j:Int)<(m:Int)):=by omega
    have yP:j=m:=by omega
    subst yP;obtain⟨c0,c1,c2,c3,c4⟩:=kG.out.cells;have f2:=kG.out.frozen 2;have GA:Hid (BS B (wr.setCell ⟨b,2,none⟩ (.slice none 0 0)) b gn gs (.slice none 0 0) (Dq st)):=Aa (by
     have h9:=kG.out.mY;rw[CO (by have:=HM.out;omega),Qr (fun q hq=>(HG.out.IE q hq).1) HG.out.same.symm HG.out.off]at h9;exact h9)
    have GD:Hid (Below B w (wr.setCell ⟨b,2,none⟩ (.slice none 0 0))):=Aa (xI.out.setCell (p:=⟨b,2,none⟩) kG.out.hb _);have Xw:Hid (Off AZ w (wr.setCell ⟨b,2,none⟩ (.slice none 0 0))):=Aa (HOj.out.setCell kG.out.hd (by simp) _);clear c0 c1 c3 c4;go_wp2;go_ret;exact⟨rfl,⟨gn,gs,_,GA.out⟩,GD.out,Xw.out⟩
set_option maxHeartbeats 2000000 in
theorem vD (B b:Nat)(st:St)(w:World)(h:Dev B w b st)(hg:Good st)(hp:st.pend.length≤1000000)(hB:B≤w.heap.size) :
 Calls Tryz.prog 53 #[.pointer (some ⟨b,0,none⟩)] w (VQ B b st w):=by
 unfold VQ;cases hgo:BJ st
 · rw[if_neg (by decide),if_neg (by decide)];exact pg B b st w h hg hp hgo hB
 · rw[if_pos rfl,if_pos rfl];have HD:=Aa h;obtain⟨gn,gs,vp,h⟩:=h;obtain⟨c0,c1,c2,c3,c4⟩:=h.cells;have cG:=WU b _ _ w c3 c4;unfold BJ at hgo;rw[hgo]at cG;clear h hg hgo;go_enter Tryz.func53,Tryz.ntmps53;go_wp2_with fail;refine cG.mono ?_;rintro e w2 ⟨rfl,rfl⟩;go_wp2;go_ret;exact⟨rfl,HD.out,Ad _ _,Off.refl _ _⟩
end Go.Proofs.YtdmkhmeaphaapaaGreat.V
