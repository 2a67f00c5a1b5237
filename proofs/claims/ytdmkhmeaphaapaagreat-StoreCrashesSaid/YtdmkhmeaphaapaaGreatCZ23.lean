/- Kit. -/
import Derived.Test.YtdmkhmeaphaapaaGreatProg
import Derived.WalkKit
import Derived.WalkSpells
import Derived.IntWalk
import Derived.ProofKit
import Derived.Lib.Hide
import Derived.Lib.Builder
import Derived.Below
import Derived.Sort.WalkC
import Derived.LoopTactic
import Derived.Deep.LoopGhost
import Derived.Deep.QuietTactic
import Derived.Deep.MidRow
import Derived.Deep.RegionHeld3
import Derived.Deep.AppendLies
import Derived.Deep.RegionLaw
import Derived.Laws.NewBlocks
import Derived.Laws.IdiomStrings
import Derived.Laws.MakeOwn
import Derived.KernelRfl
import Derived.BigQuiet
import Derived.BigRegion
import Derived.Great.BuildSlice
import Derived.Deep.WholeRow
import Derived.Deep.CutRange
import Derived.OwnWalk
import Derived.Test.YtdmkhmeaphaapaaGreatCZ1
import Derived.Test.YtdmkhmeaphaapaaGreatCZ0
set_option maxRecDepth 100000
set_option linter.unusedVariables false
set_option linter.unusedSimpArgs false
namespace Go.Proofs.YtdmkhmeaphaapaaGreat.V
open Go.RowKit
section
variable {α:Type}
theorem rq (f:α→List Value)(c:Nat)(l:List α)(i:Nat)(x:α)(h:∀x∈l,(f x).length=c)(hi:i<l.length)(hx:(f x).length=c):(l.flatMap f).take (i*c)++f x++(l.flatMap f).drop (i*c+c)=(l.set i x).flatMap f:=by
 rw[Qi f c l i h,show i*c+c=(i+1)*c by rw[Nat.add_mul];omega,Nb f c l (i+1) h,List.set_eq_take_append_cons_drop,if_pos hi,FB,List.flatMap_cons,Ch]
end
def sec (s:ByteArray):List Value:=s.data.toList.map fun b=>Value.int .u8 b.toNat
theorem Da (s:ByteArray):(sec s).length=s.size:=by simp[sec]
theorem OO (s:ByteArray):∀v∈sec s,v.oneCell'=true:=fun v hv=>by
 obtain⟨b,_,rfl⟩:=CG.1 hv;rfl
def flat (l:List ByteArray):List Value:=l.flatMap sec
def EL (p:Nat×ByteArray):List Value:=.int .i64 p.1::sec p.2
theorem FX {p:Nat×ByteArray}(h:p.2.size=64):(EL p).length=65:=by simp[EL,Da,h]
theorem Ro (p:Nat×ByteArray):∀v∈EL p,v.oneCell'=true:=fun v hv=>by
 rcases Em.1 hv with rfl|hv
 · rfl
 · exact OO _ v hv
def Km (l:List (Nat×ByteArray)):List Value:=l.flatMap EL
def Off (ex:List TypeId)(w w':World):Prop:=∀(T:TypeId),T∉ex→∀(k:Nat) (cs:Array Value) (fr:Nat×Nat),w.heap[k]?=some (.cells cs T fr)→w'.heap[k]?=some (.cells cs T fr)
theorem Off.refl (ex:List TypeId)(w:World):Off ex w w:=fun _ _ _ _ _ h=>h
theorem Off.trans {ex:List TypeId}{a b c:World}(h:Off ex a b)(h':Off ex b c):Off ex a c:=fun T hT k cs fr hk=>h' T hT k cs fr (h T hT k cs fr hk)
theorem Off.drew {ex:List TypeId}{a w:World}(h:Off ex a w):Off ex a w.drew:=h
theorem Off.alloc {ex:List TypeId}{a w:World}(h:Off ex a w)(o:Obj):Off ex a (w.alloc o):=h.trans fun T hT k cs fr hk=>by
 rw[Ct w o k (Ab hk)];exact hk
theorem Off.setCell {ex:List TypeId}{a w:World}(h:Off ex a w){b j:Nat}{C:Array Value}{T:TypeId}{fr:Nat×Nat}(hb:w.heap[b]?=some (.cells C T fr))(hT:T∈ex)(x:Value):Off ex a (w.setCell ⟨b,j,none⟩ x):=h.trans fun T' hT' k cs fr' hk=>by
 rw[heap_setCell_other w ⟨b,j,none⟩ k x (fun e=>by
  subst e;rw[hb]at hk;injection hk with hk;injection hk with _ h2 _;exact hT' (h2▸hT))]
 exact hk
theorem Off.setCells {ex:List TypeId}{a w:World}(h:Off ex a w){b o:Nat}{C:Array Value}{T:TypeId}{fr:Nat×Nat}(hb:w.heap[b]?=some (.cells C T fr))(hT:T∈ex)(vs:List Value):Off ex a (w.setCells b o vs):=h.trans fun T' hT' k cs fr' hk=>by
 rw[Cq b vs o w k (fun e=>by
  subst e;rw[hb]at hk;injection hk with hk;injection hk with _ h2 _;exact hT' (h2▸hT))]
 exact hk
theorem Off.grown {ex:List TypeId}{a w w':World}{row:Option Nat}(h:Off ex a w)(hg:w.grownBy w' row)(hr:∀k,row=some k→∃cs T fr,w.heap[k]?=some (.cells cs T fr)∧T∈ex):Off ex a w':=h.trans fun T hT k cs fr hk=>by
 rw[hg.block k (Ab hk) (fun e=>by
  obtain⟨cs',T',fr',h1,h2⟩:=hr k e.symm;rw[hk]at h1;injection h1 with h1;injection h1 with _ h3 _;exact hT (h3▸h2))]
 exact hk
theorem Off.mono {ex ex':List TypeId}{w w':World}(h:Off ex w w')(hs:∀T∈ex,T∈ex'):Off ex' w w':=fun T hT=>h T (fun hm=>hT (hs T hm))
end Go.Proofs.YtdmkhmeaphaapaaGreat.V
namespace Go.Proofs.YtdmkhmeaphaapaaGreat.V
open Go.RowKit Go.Sort
structure St where
 now:List ByteArray
 safe:List ByteArray
 pend:List (Nat×ByteArray)
 lim:Bool
 left:Int
structure Good (st:St):Prop where
 same:st.safe.length=st.now.length
 fq:∀s∈st.now,s.size=64
 szs:∀s∈st.safe,s.size=64
 IY:∀p∈st.pend,p.1<st.now.length∧p.2.size=64
 few:st.now.length≤4096
 p9:st.lim=true→0≤st.left
 p8:-9223372036854775808≤st.left∧st.left≤9223372036854775807
 off:∀i,(∀p∈st.pend,p.1≠i)→st.now[i]?=st.safe[i]?
def head (gn gs n:Nat)(vp:Value)(lim:Bool)(left:Int):Array Value:=#[.slice (some ⟨gn,0,none⟩) n n,.slice (some ⟨gs,0,none⟩) n n,vp,.bool lim,.int .i64 left]
structure BU (B:Nat)(w:World)(b gn gs:Nat)(vp:Value)(st:St):Prop where
 hb:B≤b
 hgn:B≤gn
 hgs:B≤gs
 ne:gn≠gs
 hd:w.heap[b]?=some (.cells (head gn gs st.now.length vp st.lim st.left) 77 (0,0))
 nw:w.heap[gn]?=some (.cells (flat st.now).toArray 165 (0,0))
 sf:w.heap[gs]?=some (.cells (flat st.safe).toArray 165 (0,0))
 pd:w.ownsRow B 167 65 vp st.pend.length (Km st.pend)
def Dev (B:Nat)(w:World)(b:Nat)(st:St):Prop:=∃gn gs vp,BU B w b gn gs vp st
abbrev AZ:List TypeId:=[77,165,167,4]
theorem Lc {B:Nat}{w w':World}{v:Value}{n s:Nat}{T:TypeId}{xs:List Value}{ex:List TypeId}(h:w.ownsRow B T s v n xs)(hT:T∉ex)(ho:Off ex w w'):w'.ownsRow B T s v n xs:=by
 refine⟨h.1,?_⟩;rcases h.2 with hn|⟨g,cap,cur,hv,hg,hb,r⟩
 · exact Or.inl hn
 · exact Or.inr ⟨g,cap,cur,hv,hg,ho T hT g cur (0,0) hb,r⟩
theorem BU.off {B:Nat}{w w':World}{b gn gs:Nat}{vp:Value}{st:St}(h:BU B w b gn gs vp st){ex:List TypeId}(ho:Off ex w w')(h1:77∉ex)(h2:165∉ex)(h3:167∉ex):BU B w' b gn gs vp st:=
 ⟨h.hb,h.hgn,h.hgs,h.ne,ho _ h1 _ _ _ h.hd,ho _ h2 _ _ _ h.nw,ho _ h2 _ _ _ h.sf,Lc h.pd h3 ho⟩
theorem Dev.off {B:Nat}{w w':World}{b:Nat}{st:St}(h:Dev B w b st){ex:List TypeId}(ho:Off ex w w')(h1:77∉ex)(h2:165∉ex)(h3:167∉ex):Dev B w' b st:=by
 obtain⟨gn,gs,vp,h⟩:=h;exact⟨gn,gs,vp,h.off ho h1 h2 h3⟩
theorem BU.cells {B:Nat}{w:World}{b gn gs:Nat}{vp:Value}{st:St}(h:BU B w b gn gs vp st) :
 w.cell? ⟨b,0,none⟩=some (.slice (some ⟨gn,0,none⟩) st.now.length st.now.length)∧w.cell? ⟨b,1,none⟩=some (.slice (some ⟨gs,0,none⟩) st.now.length st.now.length)∧w.cell? ⟨b,2,none⟩=some vp∧w.cell? ⟨b,3,none⟩=some (.bool st.lim)∧w.cell? ⟨b,4,none⟩=some (.int .i64 st.left):=by
 refine⟨?_,?_,?_,?_,?_⟩<;>(rw[AB w b _ _ _ _ h.hd];rfl)
theorem BU.frozen {B:Nat}{w:World}{b gn gs:Nat}{vp:Value}{st:St}(h:BU B w b gn gs vp st)(j:Nat):w.frozen? ⟨b,j,none⟩=false:=Fp w b j _ _ h.hd
theorem BU.vp {B:Nat}{w:World}{b gn gs:Nat}{vp:Value}{st:St}(h:BU B w b gn gs vp st):∃a cap,vp=.slice a st.pend.length cap:=by
 rcases h.pd.2 with⟨hv,h0⟩|⟨g,cap,cur,hv,_⟩
 · exact⟨none,0,by rw[hv,h0]⟩
 · exact⟨_,cap,hv⟩
set_option maxHeartbeats 1000000 in
theorem Xv (b:Nat)(lim:Bool)(left:Int)(w:World)(h3:w.cell? ⟨b,3,none⟩=some (.bool lim))(h4:w.cell? ⟨b,4,none⟩=some (.int .i64 left)) :
 Calls Tryz.prog 31 #[.pointer (some ⟨b,3,none⟩)] w fun e w'=>e=.returned (.bool (lim&&left==0))∧w=w':=by
 cases lim
 · go_enter Tryz.func31,Tryz.ntmps31;go_wp2;go_ret;exact⟨rfl,rfl⟩
 · go_enter Tryz.func31,Tryz.ntmps31;go_wp2;go_ret;exact⟨rfl,rfl⟩
set_option maxHeartbeats 1000000 in
theorem aO (b n cap:Nat)(a:Option Addr)(w:World)(h0:w.cell? ⟨b,0,none⟩=some (.slice a n cap)) :
 Calls Tryz.prog 90 #[.pointer (some ⟨b,0,none⟩)] w fun e w'=>e=.returned (.int .i64 n)∧w=w':=by
 go_enter Tryz.func90,Tryz.ntmps90;go_wp2;go_ret;exact⟨rfl,rfl⟩
def Fa (n:Nat)(lim:Bool)(left i:Int):Int:=if(lim&&left==0)=true then 13 else if i<0∨(n:Int)≤i then 1 else 0
set_option maxHeartbeats 1000000 in
theorem iq (b n cap:Nat)(a:Option Addr)(lim:Bool)(left i:Int)(w:World)(h0:w.cell? ⟨b,0,none⟩=some (.slice a n cap))(h3:w.cell? ⟨b,3,none⟩=some (.bool lim))(h4:w.cell? ⟨b,4,none⟩=some (.int .i64 left)) :
 Calls Tryz.prog 127 #[.pointer (some ⟨b,0,none⟩),.int .i64 i] w fun e w'=>e=.returned (.int .i64 (Fa n lim left i))∧w=w':=by
 have cG:=Xv b lim left w h3 h4;unfold Fa;cases hg:(lim&&left==0)
 · rw[hg]at cG;by_cases h1:i<0
   · rw[if_neg (by simp),if_pos (Or.inl h1)];go_enter Tryz.func127,Tryz.ntmps127;go_wp2_with fail;refine cG.mono ?_;rintro e w2 ⟨rfl,rfl⟩;go_wp2;go_ret;exact⟨rfl,rfl⟩
   · by_cases h2:(n:Int)≤i
     · rw[if_neg (by simp),if_pos (Or.inr h2)];go_enter Tryz.func127,Tryz.ntmps127;go_wp2_with fail;refine cG.mono ?_;rintro e w2 ⟨rfl,rfl⟩;go_wp2;go_ret;exact⟨rfl,rfl⟩
     · rw[if_neg (by simp),if_neg (by omega)];go_enter Tryz.func127,Tryz.ntmps127;go_wp2_with fail;refine cG.mono ?_;rintro e w2 ⟨rfl,rfl⟩;go_wp2;go_ret;exact⟨rfl,rfl⟩
 · rw[hg]at cG;rw[if_pos rfl];go_enter Tryz.func127,Tryz.ntmps127;go_wp2_with fail;refine cG.mono ?_;rintro e w2 ⟨rfl,rfl⟩;go_wp2;go_ret;exact⟨rfl,rfl⟩
def Hu (B:Nat)(st:St)(i:Int)(w:World)(e:Ending)(w':World):Prop:=w=w'∧e=.returned (.tuple #[.string (if Fa st.now.length st.lim st.left i=0 then st.now.getD i.toNat ⟨#[]⟩ else⟨#[]⟩),.int .i64 (Fa st.now.length st.lim st.left i)])
set_option maxHeartbeats 2000000 in
theorem Zg (B b:Nat)(st:St)(i:Int)(w:World)(h:Dev B w b st)(hg:Good st) :
 Calls Tryz.prog 91 #[.pointer (some ⟨b,0,none⟩),.int .i64 i] w (Hu B st i w):=by
 unfold Hu;obtain⟨gn,gs,vp,h⟩:=h;obtain⟨c0,c1,c2,c3,c4⟩:=h.cells;have cA:=iq b _ _ _ _ _ i w c0 c3 c4;by_cases ha:Fa st.now.length st.lim st.left i=0
 · rw[if_pos ha];rw[ha]at cA ⊢;obtain⟨k,rfl,hk⟩:∃k:Nat,i=k∧k<st.now.length:=by
    unfold Fa at ha;split at ha
    · cases ha
    · split at ha
      · cases ha
      · exact⟨i.toNat,by omega,by omega⟩
   have hx:st.now[k]?=some (st.now.getD k ⟨#[]⟩):=by rw[Gi,Co hk];rfl
   have hr:=FK sec 64 (R:=[]) (fun s hs=>by rw[Da];exact hg.fq s hs) hx (w:=w) (b:=gn) (T:=165) (fr:=(0,0)) (by rw[Cz];exact h.nw);have hsz:(st.now.getD k ⟨#[]⟩).size=64:=hg.fq _ (CU hx);rw[show((k:Int).toNat)=k from rfl];have hkz:(k:Int)<(st.now.length:Int):=by omega
   generalize st.now.getD k ⟨#[]⟩=x at *;generalize st.now.length=n at *;have hc:(convert 121 9 (.slice (some ⟨gn,k*64,none⟩) 64 64)).run Tryz.prog w=.ok (.string x) w:=by
    have:=run_convert_bytes_back (P:=Tryz.prog) w 121 9 5 ⟨gn,k*64,none⟩ 64 x.data.toList Tryz.underlying121 Tryz.underlying5 Tryz.underlying9 (fun j hj=>by
     rw[Addr.add_mid];exact hr j _ (by simp[sec,List.getElem?_eq_getElem hj]))
    have hl:x.data.toList.length=64:=by rw[←hsz];simp
    rw[hl]at this;rw[this]
   clear h hg hr ha hx hk;go_enter Tryz.func91,Tryz.ntmps91;go_wp2_with fail;refine cA.mono ?_;rintro e w2 ⟨rfl,rfl⟩;go_wp2;go_ret2;exact⟨rfl,rfl⟩
 · rw[if_neg ha];have hne:(Fa st.now.length st.lim st.left i==0)=false:=by simpa using ha
   generalize Fa st.now.length st.lim st.left i=q at *;generalize st.now.length=n at *;clear h hg;go_enter Tryz.func91,Tryz.ntmps91;go_wp2_with fail;refine cA.mono ?_;rintro e w2 ⟨rfl,rfl⟩;go_wp2;go_ret2;exact⟨rfl,rfl⟩
def BC:ByteArray:=⟨Array.replicate 64 0⟩
def Hz (n:Nat):St:=⟨List.replicate n BC,List.replicate n BC,[],false,0⟩
theorem xB (n:Nat)(h:n≤4096):Good (Hz n):=by
 have hz:∀s∈List.replicate n BC,s.size=64:=fun s hs=>by rw[(List.mem_replicate.1 hs).2];rfl
 exact⟨by simp[Hz],hz,hz,(fun p hp=>by cases hp),by simpa[Hz]using h,(fun e=>by cases e),by simp[Hz],fun i _=>rfl⟩
def uY:Array Value:=Array.replicate 64 (.int .u8 0)
theorem Tryz.qj:(Tryz.prog.info? 165).map (fun i=>(i.zero,i.size,i.bytes))=some (some (.agg uY),64,64):=by kernel_rfl
theorem jP (n:Nat):madeCells (Value.agg uY).cells (n*64)=(flat (List.replicate n BC)).toArray:=by
 apply Array.ext';rw[Iw];have h1:sec BC=List.replicate 64 (.int .u8 0):=by simp[sec,BC]
 have h2:flat (List.replicate n BC)=List.replicate (n*64) (.int .u8 0):=by
  unfold flat
  induction n with
  | zero=>rfl
  | succ n ih=>rw[List.replicate_succ,List.flatMap_cons,ih,h1,Nat.add_mul,Nat.add_comm,List.replicate_append_replicate]
 rw[h2];apply List.ext_getElem?;intro i;simp only[madeCells,Value.cells,uY];by_cases h:i<n*64
 · simp[h];have:i%64<64:=Nat.mod_lt _ (by decide);simp[this]
 · simp[h]
theorem WM (n:Nat)(hn:n≤4096)(W:World):(Instr.makeSlice 72 (.int .i64 n) (.int .i64 n)).run Tryz.prog W=.ok (.slice (some ⟨W.heap.size,0,none⟩) n n) (W.alloc (.cells (flat (List.replicate n BC)).toArray 165)):=by
 obtain⟨i0,hi0,hz0,hz1,hz2⟩:=info_parts Tryz.qj;have:=run_make (P:=Tryz.prog) W 72 165 i0 (.agg uY) Tryz.underlying72 hi0 hz0 .i64 .i64 n n (by omega) (by omega) (by rw[hz2];omega) (by omega);rw[hz1,DY,jP]at this;exact this
theorem rR {B:Nat}{w W:World}(n gn gs b:Nat)(hB:B≤w.heap.size)(hn:gn≠gs)(h1:w.heap.size≤gn)(h2:w.heap.size≤gs)(h3:w.heap.size≤b)
 (e1:W.heap[gn]?=some (.cells (flat (List.replicate n BC)).toArray 165 (0,0))) (e2:W.heap[gs]?=some (.cells (flat (List.replicate n BC)).toArray 165 (0,0)))
 (e3:W.heap[b]?=some (.cells #[.slice (some ⟨gn,0,none⟩) n n,.slice (some ⟨gs,0,none⟩) n n,.slice none 0 0,.bool false,.int .i64 0] 77 (0,0))):Dev B W b (Hz n):=
 ⟨gn,gs,.slice none 0 0,by omega,by omega,by omega,hn,by rw[e3];simp[head,Hz],e1,e2,⟨rfl,Or.inl ⟨rfl,rfl⟩⟩⟩
theorem fU (w:World)(N b:Nat)(Z:Array Value)(hZ:(flat (List.replicate N BC)).toArray=Z)(gn:Nat)(h:(gn=w.heap.size∧b=w.heap.size+1+1)∨(gn=w.heap.size+1∧b=w.heap.size+1+1)) :
 Dev w.heap.size (((w.alloc (.cells Z 165)).alloc (.cells Z 165)).alloc (.cells #[.slice (some ⟨gn,0,none⟩) N N,.slice (some ⟨2*w.heap.size+1-gn,0,none⟩) N N,.slice none 0 0,.bool false,.int .i64 0] 77)).drew b (Hz N):=by
 have s1:(w.alloc (.cells Z 165)).heap.size=w.heap.size+1:=by simp
 have s2:((w.alloc (.cells Z 165)).alloc (.cells Z 165)).heap.size=w.heap.size+1+1:=by simp
 have a0:∀o,(((w.alloc (.cells Z 165)).alloc (.cells Z 165)).alloc o).heap[w.heap.size]?=some (.cells Z 165 (0,0)):=fun o=>by
  rw[Ct _ _ _ (by rw[s2];omega),Ct _ _ _ (by rw[s1];omega)];exact Ai _ _
 have a1:∀o,(((w.alloc (.cells Z 165)).alloc (.cells Z 165)).alloc o).heap[w.heap.size+1]?=some (.cells Z 165 (0,0)):=fun o=>by
  rw[Ct _ _ _ (by rw[s2];omega),←s1];exact Ai _ _
 have a2:∀o,(((w.alloc (.cells Z 165)).alloc (.cells Z 165)).alloc o).heap[w.heap.size+1+1]?=some o:=fun o=>by
  rw[←s2];exact Ai _ _
 rcases h with⟨rfl,rfl⟩|⟨rfl,rfl⟩
 · rw[show 2*w.heap.size+1-w.heap.size=w.heap.size+1 by omega];refine rR (w:=w) N w.heap.size (w.heap.size+1) (w.heap.size+1+1) (Ae _) (by omega) (by omega) (by omega) (by omega) ?_ ?_ ?_
   · rw[hZ];exact a0 _
   · rw[hZ];exact a1 _
   · exact a2 _
 · rw[show 2*w.heap.size+1-(w.heap.size+1)=w.heap.size by omega];refine rR (w:=w) N (w.heap.size+1) w.heap.size (w.heap.size+1+1) (Ae _) (by omega) (by omega) (by omega) (by omega) ?_ ?_ ?_
   · rw[hZ];exact a1 _
   · rw[hZ];exact a0 _
   · exact a2 _
theorem Acb (w:World)(N:Nat)(Z:Array Value)(hZ:(flat (List.replicate N BC)).toArray=Z) :
 Dev w.heap.size (((w.alloc (.cells Z 165)).alloc (.cells Z 165)).alloc (.cells #[.slice (some ⟨w.heap.size,0,none⟩) N N,.slice (some ⟨w.heap.size+1,0,none⟩) N N,.slice none 0 0,.bool false,.int .i64 0] 77)).drew (w.heap.size+1+1) (Hz N):=by
 have:=fU w N _ Z hZ _ (Or.inl ⟨rfl,rfl⟩);rwa[show 2*w.heap.size+1-w.heap.size=w.heap.size+1 by omega]at this
theorem Aca (w:World)(N:Nat)(Z:Array Value)(hZ:(flat (List.replicate N BC)).toArray=Z) :
 Dev w.heap.size (((w.alloc (.cells Z 165)).alloc (.cells Z 165)).alloc (.cells #[.slice (some ⟨w.heap.size+1,0,none⟩) N N,.slice (some ⟨w.heap.size,0,none⟩) N N,.slice none 0 0,.bool false,.int .i64 0] 77)).drew (w.heap.size+1+1) (Hz N):=by
 have:=fU w N _ Z hZ _ (Or.inr ⟨rfl,rfl⟩);rwa[show 2*w.heap.size+1-(w.heap.size+1)=w.heap.size by omega]at this
def Sr (n:Int):Nat:=(min (max n 0) 4096).toNat
def Ke (n:Int)(w:World)(e:Ending)(w':World):Prop:=∃b,e=.returned (.pointer (some ⟨b,0,none⟩))∧Dev w.heap.size w' b (Hz (Sr n))∧Below w.heap.size w w'∧Off [] w w'
set_option maxHeartbeats 2000000 in
theorem fT (n:Int)(w:World):Calls Tryz.prog 8 #[.int .i64 n] w (Ke n w):=by
 unfold Ke;obtain⟨N,hN,AcG⟩:∃N:Nat,min (max n 0) 4096=(N:Int)∧N≤4096:=⟨Sr n,by unfold Sr;omega,by unfold Sr;omega⟩;have hs:Sr n=N:=by unfold Sr;rw[hN];rfl
 have hm:=WM N AcG;rw[hs];clear hs;generalize hZ:(flat (List.replicate N BC)).toArray=Z at *;go_enter Tryz.func8,Tryz.ntmps8;go_wp2;go_big_region
 all_goals go_wp2
 all_goals go_ret
 · exact⟨_,rfl,Acb w N Z hZ,((((Ad _ w).alloc (Ae _) _).alloc (by simp) _).alloc (by simp;omega) _).drew,(((Off.refl [] w).alloc _).alloc _).alloc _⟩
 · exact⟨_,rfl,Aca w N Z hZ,((((Ad _ w).alloc (Ae _) _).alloc (by simp) _).alloc (by simp;omega) _).drew,(((Off.refl [] w).alloc _).alloc _).alloc _⟩
section
variable {P:Program}{ops:Array Oper}{rest:List Oper}{d:Option Tmp}{T:TypeId}{pos:String}{af:Array Edge}{a:Act}{w w':World}{Q:Exit→Act→World→Prop}
end
theorem Ma {P:Program}{o:Oper}{a:Act}{w w':World}{K:Act→World→Prop}{Q:Exit→Act→World→Prop}(ty:TypeId)(n:Nat)(parts:Array (Nat×Operand))(ho:o.op=.buildSlice ty n parts)(vs:Array (Nat×Value))(v:Value)(hv:(parts.toList.map fun(i,x)=>(i,a.eval x))=vs.toList)(hr:(Instr.buildSlice ty n vs).run P w=.ok v w')
 (h:K (a.put o.dst v) w'):o.wp P a w K Q:=by
 unfold Oper.wp execOp;have hv':(parts.map fun(i,x)=>(i,a.eval x))=vs:=by
  apply Array.ext';rw[Array.toList_map];exact hv
 simp only[ho,hv',Sem.run_bind,hr,Result.andThen_ok];exact h
theorem MW {o:Oper}{ys:Nat→Option Bool}{X Y:Prop}(hgd:o.guard=none)(h:X):if Region.wanted o ys=true then X else Y:=by
 have hw:Region.wanted o ys=true:=by simp[Region.wanted,hgd]
 rw[if_pos hw];exact h
theorem X9 {P:Program}{o:Oper}{a:Act}{w:World}{K:Act→World→Prop}{Q:Exit→Act→World→Prop}(ty:TypeId)(x:Operand)(ho:o.op=.load ty x)(px v:Value)(hx:a.eval x=px)(hr:(Instr.loadAt ty px).run P w=.ok v w)(h:K (a.put o.dst v) w):o.wp P a w K Q:=by
 unfold Oper.wp execOp;simp only[ho,hx,Sem.run_bind,hr,Result.andThen_ok];exact h
theorem U2 {P:Program}{o:Oper}{a:Act}{w w':World}{K:Act→World→Prop}{Q:Exit→Act→World→Prop}(ty:TypeId)(x y:Operand)(ho:o.op=.store ty x y)(px vy:Value)(hx:a.eval x=px)(hy:a.eval y=vy)(hr:(Instr.storeAt ty px vy).run P w=.ok () w')(h:K (a.put o.dst undef) w'):o.wp P a w K Q:=by
 unfold Oper.wp execOp;simp only[ho,hx,hy,Sem.run_bind,hr,Result.andThen_ok];exact h
theorem jR (b:Nat)(v:Value)(W:World)(h:W.cell? ⟨b,2,none⟩=some v):(Instr.loadAt 73 (.pointer (some ⟨b,2,none⟩))).run Tryz.prog W=.ok v W:=by go_simp
theorem Sl (b:Nat)(ad:Option Addr)(m cap:Nat)(u:Value)(W:World)(h:W.cell? ⟨b,2,none⟩=some u)(hf:W.frozen? ⟨b,2,none⟩=false):(Instr.storeAt 73 (.pointer (some ⟨b,2,none⟩)) (.slice ad m cap)).run Tryz.prog W=.ok () (W.setCell ⟨b,2,none⟩ (.slice ad m cap)):=by
 go_simp
def z65:Array Value:=#[.int .i64 0]++Array.replicate 64 (.int .u8 0)
theorem OB:z65.size=65:=rfl
theorem Tryz.gF:(Tryz.prog.info? 167).map (fun i=>(i.zero,i.size,i.bytes))=some (some (.agg z65),65,72):=by kernel_rfl
theorem Tryz.Mx:(Tryz.prog.info? 165).map (·.size)=some 64:=by kernel_rfl
theorem Tryz.Rz:(Tryz.prog.info? 167).map (·.size)=some 65:=by kernel_rfl
theorem Wq (W:World):(zeroValue 167).run Tryz.prog W=.ok (.agg z65) W:=
 (zero_of_info (P:=Tryz.prog) (t:=167) (v:=.agg z65) (n:=65) (by kernel_rfl)).1 W
theorem sZ (a:Addr)(cap:Nat)(W:World):(Instr.arrayAt 165 (.slice (some a) 64 cap)).run Tryz.prog W=.ok (.pointer (some a)) W:=by
 simp[Instr.arrayAt,run_underlying Tryz.underlying165]
theorem sP (parts:List (Nat×Value)):Tryz.prog.built 167 parts=Instr.fill ((#[(0,1),(1,64)]:Array (Nat×Nat))[·]?) z65 parts:=by kernel_rfl
theorem xH (k:Nat)(s:ByteArray)(hs:s.size=64):Instr.fill ((#[(0,1),(1,64)]:Array (Nat×Nat))[·]?) z65 [(0,.int .i64 k),(1,.agg (sec s).toArray)]=some (EL (k,s)).toArray:=by
 have hl:(sec s).length=64:=by rw[Da,hs]
 have h1:(Value.int .i64 (k:Int)).cells=#[.int .i64 (k:Int)]:=rfl;have h2:(Value.agg (sec s).toArray).cells=(sec s).toArray:=rfl;have hz:(z65.setIfInBounds 0 (.int .i64 (k:Int))).size=65:=by simp[OB]
 obtain⟨g1,g2⟩:=Go.Great.foldl_set 1 (sec s) 0 (z65.setIfInBounds 0 (.int .i64 (k:Int)));unfold Instr.fill;simp only[List.getElem?_toArray,List.getElem?_cons_zero,h1];rw[if_neg (by simp[OB])];unfold Instr.fill;simp only[List.getElem?_cons_succ,List.getElem?_cons_zero,h2];rw[if_neg (by simp[OB,hl])];unfold Instr.fill;congr 1;rw[←Array.foldl_toList,Array.toList_zipIdx,Iw];have h0:((#[Value.int .i64 (k:Int)]:Array Value).zipIdx.foldl (fun cs (x:Value×Nat)=>cs.setIfInBounds (0+x.2) x.1) z65)=z65.setIfInBounds 0 (.int .i64 (k:Int)):=rfl;have h0':(Array.foldl (fun cs (x:Value×Nat)=>match x with|(c,j)=>cs.setIfInBounds (0+j) c) z65 (#[Value.int .i64 (k:Int)]:Array Value).zipIdx)=z65.setIfInBounds 0 (.int .i64 (k:Int)):=rfl;apply Array.ext_getElem?;intro j;refine Eq.trans (g2 j) ?_;rw[hl,hz];by_cases hj:1+0≤j∧j<1+0+64∧j<65
 · rw[if_pos hj];obtain⟨m,rfl⟩:∃m,j=m+1:=⟨j-1,by omega⟩;rw[Gp,EL,List.getElem?_cons_succ,show m+1-(1+0)=m by omega]
 · rw[if_neg hj];by_cases hj0:j=0
   · subst hj0;exact(Qu (by rw[OB];decide)).trans rfl
   · rw[Array.getElem?_eq_none (by rw[hz];omega),Array.getElem?_eq_none (by rw[Gq,FX (p:=(k,s)) hs];omega)]
theorem sQ (k:Nat)(s:ByteArray)(hs:s.size=64)(W:World):(Instr.build 167 #[(0,.int .i64 k),(1,.agg (sec s).toArray)]).run Tryz.prog W=.ok (.agg (EL (k,s)).toArray) W:=
 run_build W _ _ _ (by rw[sP];exact xH k s hs)
theorem UR (k:Nat)(s:ByteArray)(hs:s.size=64)(W:World):(Instr.buildSlice 73 1 #[(0,.agg (EL (k,s)).toArray)]).run Tryz.prog W=.ok (.slice (some ⟨W.heap.size,0,none⟩) 1 1) (W.alloc (.cells (EL (k,s)).toArray 167)):=by
 obtain⟨i0,hi0,hz0,hz1,hz2⟩:=info_parts Tryz.gF;refine run_buildSlice (P:=Tryz.prog) W _ _ 1 _ (EL (k,s)).toArray i0 (.agg z65) Tryz.underlying73 hi0 hz0 (by rw[hz1];decide) (by rw[hz1];decide) ?_;rw[hz1];have:=Go.Great.fill_whole (s:=65) (by decide) [.agg (EL (k,s)).toArray] ((Array.range (1*65)).map ((Value.agg z65).cells[·%(Value.agg z65).cells.size]!)) (fun v hv=>by
  rw[Cn.1 hv];show(EL (k,s)).toArray.size=65
  rw[Gq,FX (p:=(k,s)) hs]) (by simp)
 refine Eq.trans ?_ (this.trans ?_)
 · rfl
 · simp[Value.cells]
set_option maxHeartbeats 1000000 in
theorem fw (b:Nat)(lim:Bool)(left:Int)(w:World)(h3:w.cell? ⟨b,3,none⟩=some (.bool lim))(h4:w.cell? ⟨b,4,none⟩=some (.int .i64 left))(hf:w.frozen? ⟨b,4,none⟩=false)(hl:lim=true→0<left∧left≤9223372036854775807) :
 Calls Tryz.prog 186 #[.pointer (some ⟨b,3,none⟩)] w fun e w'=>e=.returned (.tuple #[])∧w'=if lim then w.setCell ⟨b,4,none⟩ (.int .i64 (left-1)) else w:=by
 cases lim
 · clear hl;go_enter Tryz.func186,Tryz.ntmps186;go_wp2;go_end0;exact⟨rfl,rfl⟩
 · obtain⟨h0,h1⟩:=hl rfl;have hw:IntKind.i64.wrap (left-1)=left-1:=by rw[El];omega
   go_enter Tryz.func186,Tryz.ntmps186;go_wp2;go_end0;exact⟨rfl,rfl⟩
def BV (st:St)(k:Nat)(s:ByteArray):St:={ st with now:=st.now.set k s,pend:=st.pend++[(k,s)],left:=if st.lim then st.left-1 else st.left }
def Dq (st:St)(i:Int)(s:ByteArray):Int:=if Fa st.now.length st.lim st.left i=0 then(if s.size=64 then 0 else 1) else Fa st.now.length st.lim st.left i
def ED (B b:Nat)(st:St)(i:Int)(s:ByteArray)(w:World)(e:Ending)(w':World):Prop:=e=.returned (.int .i64 (Dq st i s))∧Dev B w' b (if Dq st i s=0 then BV st i.toNat s else st)∧Below B w w'∧Off AZ w w'
theorem ND {W:World}{g k:Nat}{l:List ByteArray}{s:ByteArray}(hb:W.heap[g]?=some (.cells (flat l).toArray 165 (0,0)))(hl:∀x∈l,x.size=64)(hk:k<l.length)(hs:s.size=64):(W.setCells g (k*64) (sec s)).heap[g]?=some (.cells (flat (l.set k s)).toArray 165 (0,0)):=by
 have h1:∀x∈l,(sec x).length=64:=fun x hx=>by rw[Da];exact hl x hx
 have h2:(sec s).length=64:=by rw[Da,hs]
 have hle:k*64+64≤(flat l).length:=by
  rw[flat,Hm sec 64 _ h1];have:(k+1)*64≤l.length*64:=Nat.mul_le_mul_right _ hk;omega
 rw[Cm g _ (sec s) (k*64) W _ hb (by rw[h2];exact hle),h2];unfold flat;rw[rq sec 64 l k s h1 hk h2]
theorem BU.Aa9 {B:Nat}{W:World}{b gn gs:Nat}{vp:Value}{st:St}(h:BU B W b gn gs vp st){k:Nat}{s:ByteArray}(hl:∀x∈st.now,x.size=64)(hk:k<st.now.length)(hs:s.size=64):BU B (W.setCells gn (k*64) (sec s)) b gn gs vp { st with now:=st.now.set k s }:=by
 have ho:Off [165] W (W.setCells gn (k*64) (sec s)):=(Off.refl _ W).setCells h.nw (by simp) _;refine⟨h.hb,h.hgn,h.hgs,h.ne,?_,ND h.nw hl hk hs,?_,Lc h.pd (by decide) ho⟩
 · rw[List.length_set];exact ho _ (by decide) _ _ _ h.hd
 · rw[Cq gn _ _ _ _ (Ne.symm h.ne)];exact h.sf
theorem BU.yu {B:Nat}{W:World}{b gn gs:Nat}{vp:Value}{st:St}(h:BU B W b gn gs vp st){k:Nat}{s:ByteArray}(hl:∀x∈st.safe,x.size=64)(hk:k<st.safe.length)(hs:s.size=64):BU B (W.setCells gs (k*64) (sec s)) b gn gs vp { st with safe:=st.safe.set k s }:=by
 have ho:Off [165] W (W.setCells gs (k*64) (sec s)):=(Off.refl _ W).setCells h.sf (by simp) _;refine⟨h.hb,h.hgn,h.hgs,h.ne,ho _ (by decide) _ _ _ h.hd,?_,ND h.sf hl hk hs,Lc h.pd (by decide) ho⟩;rw[Cq gs _ _ _ _ h.ne];exact h.nw
theorem BU.WZ {B:Nat}{W W':World}{b gn gs:Nat}{vp v':Value}{st:St}{ps:List (Nat×ByteArray)}(h:BU B W b gn gs vp st)(hb:W'.heap[b]?=W.heap[b]?)(hn:W'.heap[gn]?=W.heap[gn]?)(hs:W'.heap[gs]?=W.heap[gs]?)(hown:W'.ownsRow B 167 65 v' ps.length (Km ps)):BU B (W'.setCell ⟨b,2,none⟩ v') b gn gs v' { st with pend:=ps }:=by
 have hbb:=hb.trans h.hd;have ho:Off [77] W' (W'.setCell ⟨b,2,none⟩ v'):=(Off.refl _ W').setCell hbb (by simp) _;refine⟨h.hb,h.hgn,h.hgs,h.ne,?_,ho _ (by decide) _ _ _ (hn.trans h.nw),ho _ (by decide) _ _ _ (hs.trans h.sf),Lc hown (by decide) ho⟩;rw[Bn W' b 2 _ _ v' hbb];rfl
theorem BU.Aa' {B:Nat}{W:World}{b gn gs:Nat}{vp:Value}{st:St}(h:BU B W b gn gs vp st)(x:Int):BU B (W.setCell ⟨b,4,none⟩ (.int .i64 x)) b gn gs vp { st with left:=x }:=by
 have ho:Off [77] W (W.setCell ⟨b,4,none⟩ (.int .i64 x)):=(Off.refl _ W).setCell h.hd (by simp) _;refine⟨h.hb,h.hgn,h.hgs,h.ne,?_,ho _ (by decide) _ _ _ h.nw,ho _ (by decide) _ _ _ h.sf,Lc h.pd (by decide) ho⟩;rw[Bn W b 4 _ _ _ h.hd];rfl
theorem own_ne {B:Nat}{w:World}{T U:TypeId}{n s k:Nat}{v:Value}{xs:List Value}{C:Array Value}{fr:Nat×Nat}(h:w.ownsRow B T s v n xs)(hk:w.heap[k]?=some (.cells C U fr))(hn:U≠T):v.ownBlock≠some k:=fun e=>by
 rcases h.2 with⟨hv,_⟩|⟨g,cap,cur,hv,_,hb,_⟩
 · rw[hv]at e;cases e
 · rw[hv]at e;have hg:g=k:=by simpa[Value.ownBlock]using e
   subst hg;rw[hb]at hk;injection hk with hk;injection hk with _ h2 _;exact hn h2.symm
theorem YA {B:Nat}{w:World}{T:TypeId}{n s:Nat}{v:Value}{xs:List Value}{ex:List TypeId}(h:w.ownsRow B T s v n xs){j:Nat}(hj:v.ownBlock=some j)(hT:T∈ex):∃cs U fr,w.heap[j]?=some (.cells cs U fr)∧U∈ex:=by
 rcases h.2 with⟨hv,_⟩|⟨g,cap,cur,hv,_,hb,_⟩
 · rw[hv]at hj;cases hj
 · rw[hv]at hj;have hg:g=j:=by simpa[Value.ownBlock]using hj
   subst hg;exact⟨_,_,_,hb,hT⟩
theorem oH {B b gn gs k:Nat}{w W:World}{v:Value}{st:St}{s:ByteArray}(h:BU B W b gn gs v { st with now:=st.now.set k s,pend:=st.pend++[(k,s)] })(hb:Below B w W)(ho:Off AZ w W) :
 Dev B (if st.lim=true then W.setCell ⟨b,4,none⟩ (.int .i64 (st.left-1)) else W) b (BV st k s)∧Below B w (if st.lim=true then W.setCell ⟨b,4,none⟩ (.int .i64 (st.left-1)) else W)∧Off AZ w (if st.lim=true then W.setCell ⟨b,4,none⟩ (.int .i64 (st.left-1)) else W):=by
 unfold BV;cases hl:st.lim
 · simp only[Bool.false_eq_true,if_false];refine⟨⟨gn,gs,v,?_⟩,hb,ho⟩;simpa[hl]using h
 · simp only[if_true];refine⟨⟨gn,gs,v,?_⟩,hb.setCell (p:=⟨b,4,none⟩) h.hb _,ho.setCell h.hd (by simp) _⟩;have:=h.Aa' (st.left-1);simpa[hl]using this
set_option maxHeartbeats 4000000 in
theorem zZ (B b k:Nat)(st:St)(s:ByteArray)(w:World)(h:Dev B w b st)(hg:Good st)(hp:st.pend.length≤1000)(ha:Fa st.now.length st.lim st.left k=0)(hk:k<st.now.length)(hs:s.size=64)(hB:B≤w.heap.size) :
 Calls Tryz.prog 165 #[.pointer (some ⟨b,0,none⟩),.int .i64 k,.string s] w (fun e w'=>e=.returned (.int .i64 0)∧Dev B w' b (BV st k s)∧Below B w w'∧Off AZ w w'):=by
 obtain⟨gn,gs,vp,h⟩:=h;obtain⟨c0,c1,c2,c3,c4⟩:=h.cells;have cA:=iq b _ _ _ _ _ k w c0 c3 c4;rw[ha]at cA;obtain⟨cap,BR,FR,kc,hBR⟩:∃cap BR FR,(convert 9 121 (.string s)).run Tryz.prog w=.ok (.slice (some ⟨w.heap.size,0,none⟩) 64 cap) (w.drew.alloc (.cells BR 5 FR))∧∀(j:Nat) (v:Value),(sec s)[j]?=some v→BR[j]?=some v:=by
  have:=run_bytes_of_string (P:=Tryz.prog) w 9 121 5 s Tryz.underlying9 Tryz.underlying121 Tryz.underlying5;rw[hs]at this;refine⟨_,_,_,this,fun j v hv=>?_⟩;have hj:j<s.data.size:=by
   have:=(DL.1 hv).1;rw[Da]at this;exact this
  rw[bytesRow_at s _ j hj,←hv];unfold sec;rw[GZ,Array.getElem?_toList,Array.getElem?_eq_getElem hj];rfl
 have HD:=Aa h;have hkz:(k:Int)<(st.now.length:Int):=by omega
 have HG:=Aa hg;have ui:Hid ((sec s).length=64):=Aa (by rw[Da,hs]);have hap:=sZ;have hzw:=Wq;have FU:=Aa (sQ k s hs);have hbs:=UR k s hs;have HL1:Hid ((Instr.loadAt 165 (.pointer (some ⟨w.heap.size,0,none⟩))).run Tryz.prog (w.alloc (.cells BR 5 FR)).drew=.ok (.agg (sec s).toArray) (w.alloc (.cells BR 5 FR)).drew):=
  Aa (run_loadAt_mid (P:=Tryz.prog) _ _ 0 _ (sec s) _ (fun j v hv=>by
   rw[Gh];show(w.alloc _).cell? _=_
   rw[AB _ _ _ _ _ _ (Ai _ _)];exact hBR j v hv) Tryz.underlying165 rfl (by rw[ui.out];exact Tryz.Mx))
 have HWL:Hid ((EL (k,s)).length=65):=Aa (FX (p:=(k,s)) hs);have hS1:(storeCells ⟨w.heap.size+1,0,none⟩ (EL (k,s))).run Tryz.prog ((w.alloc (.cells BR 5 FR)).alloc (.cells z65 167)).drew=.ok () ((w.alloc (.cells BR 5 FR)).alloc (.cells (EL (k,s)).toArray 167)).drew:=by
  have:=run_storeCells_new (P:=Tryz.prog) (w.alloc (.cells BR 5 FR)).drew 167 z65 (EL (k,s)).toArray (by rw[Gq,HWL.out];exact Tryz.Rz) ((show z65.size=65 from rfl).trans (by rw[Gq,HWL.out])) (all_oneCell_toArray (Ro _));rw[show(w.alloc (.cells BR 5 FR)).drew.heap.size=w.heap.size+1 by show(w.heap.push _).size=_;simp,Iw]at this;exact this
 have s1:(w.alloc (.cells BR 5 FR)).heap.size=w.heap.size+1:=by simp
 have HB3:Hid (Below w.heap.size w ((w.alloc (.cells BR 5 FR)).alloc (.cells (EL (k,s)).toArray 167)).drew):=Aa ((((Ad _ w).alloc (Ae _) _).alloc (by rw[s1];omega) _).drew);have Jf:Hid (Off [] w ((w.alloc (.cells BR 5 FR)).alloc (.cells (EL (k,s)).toArray 167)).drew):=Aa ((((Off.refl [] w).alloc _).alloc _).drew);have HT3:Hid (((w.alloc (.cells BR 5 FR)).alloc (.cells (EL (k,s)).toArray 167)).drew.heap[w.heap.size+1]?=some (.cells (EL (k,s)).toArray 167 (0,0))):=Aa (by
  rw[←s1];exact Ai _ _)
 have HD3:=Aa (h.off Jf.out (by simp) (by simp) (by simp));have Abp:=Tryz.underlying165;have Aav:(Tryz.prog.info? 165).map (·.size)=some (sec s).length:=by rw[ui.out];exact Tryz.Mx
 have hone:∀v∈sec s,v.oneCell'=true:=OO s;have hsl:(sec s).length=64:=ui.out;have HVT:Hid (∀j,vp.ownBlock=some j→j<w.heap.size+1):=Aa (fun j hj=>by have:=(h.pd.lt j hj).2;omega);have HL:Hid (st.lim=true→0<st.left∧st.left≤9223372036854775807):=Aa (fun e=>by
  have h1:=hg.p9 e;have h2:=hg.p8.2;refine⟨?_,h2⟩;rcases Int.lt_or_eq_of_le h1 with h3|h3
  · exact h3
  · unfold Fa at ha;rw[e,←h3]at ha;simp at ha)
 generalize hn:st.now.length=n at *;clear h hg ha hBR;go_enter Tryz.func165,Tryz.ntmps165;go_wp2_with fail;refine cA.mono ?_;rintro e w2 ⟨rfl,rfl⟩;go_upto_region 7 with(first
  | ((with_reducible refine Jt 165 _ (.pointer (some ⟨w.heap.size,0,none⟩)) (.agg (sec s).toArray) ?_ ?_ ?_);exact rfl;exact HL1.out)
  | ((with_reducible refine PT 167 _ #[(0,.int .i64 k),(1,.agg (sec s).toArray)] (.agg (EL (k,s)).toArray) ?_ ?_ ?_);exact rfl;exact FU.out _))
 generalize ht:w.heap.size+1=t at *;generalize ((w.alloc (.cells BR 5 FR)).alloc (.cells (EL (k,s)).toArray 167)).drew=W3 at *;have Z7:=Aa ht;clear hS1 HL1 kc s1 ht c0 c1 c2 c3 c4 cA;obtain⟨c0,c1,c2,c3,c4⟩:=HD3.out.cells;rw[hn]at c0 c1;have r3:W3.rangeAt t 1 (sec s):=fun j v hv=>by
  rw[AB W3 t _ _ _ _ HT3.out,Gp,EL,Nat.add_comm,List.getElem?_cons_succ];exact hv
 have t3:W3.there gn (k*64) 64:=C9 HD3.out.nw _ _ (by
  rw[Gq,flat,Hm sec 64 _ (fun x hx=>by rw[Da];exact HG.out.fq x hx),hn];have:(k+1)*64≤n*64:=Nat.mul_le_mul_right _ hk;omega)
 have hbg:b≠gn:=Ci HD3.out.hd HD3.out.nw (by decide);have wW:t≠gn:=Ci HT3.out HD3.out.nw (by decide);have HK:Hid (∀W:World,(W.cell? ⟨b,0,none⟩=some (.slice (some ⟨gn,0,none⟩) n n)∧W.rangeAt t 1 (sec s)∧W.there gn (k*64) 64)→((W.setCells gn (k*64) (sec s)).cell? ⟨b,0,none⟩=some (.slice (some ⟨gn,0,none⟩) n n)∧(W.setCells gn (k*64) (sec s)).rangeAt t 1 (sec s)∧(W.setCells gn (k*64) (sec s)).there gn (k*64) 64)):=Aa (fun W hW =>
  ⟨by rw[World.cell?_setCells_out gn _ _ _ _ (fun e=>absurd e hbg)];exact hW.1,World.rangeAt_setCells_apart hW.2.1 _ _ _ (Or.inl wW),World.there_setCells hW.2.2 _ _ _⟩)
 go_region_held3 (fun w'=>w'.cell? ⟨b,0,none⟩=some (.slice (some ⟨gn,0,none⟩) n n)∧w'.rangeAt t 1 (sec s)∧w'.there gn (k*64) 64) (first|assumption|exact HK.out _ (by assumption)|go_keep_ranges) (fail);have HD4:Hid (BU B (W3.drew.setCells gn (k*64) (sec s)) b gn gs vp { st with now:=st.now.set k s }):=Aa ((HD3.out.off (w':=W3.drew) (Off.refl [] W3) (by simp) (by simp) (by simp)).Aa9 HG.out.fq (by rw[hn];exact hk) hs);have ZU:Hid ((W3.drew.setCells gn (k*64) (sec s)).heap[t]?=some (.cells (EL (k,s)).toArray 167 (0,0))):=Aa (by rw[Cq gn _ _ _ _ wW];exact HT3.out);have LY:Hid (Below B w (W3.drew.setCells gn (k*64) (sec s))):=Aa (Below.setCells ((HB3.out.mono hB).drew) HD3.out.hgn _ _);have uq:Hid (Off AZ w (W3.drew.setCells gn (k*64) (sec s))):=Aa (Off.setCells ((Jf.out.mono (ex':=AZ) (by simp)).drew) (b:=gn) (C:=(flat st.now).toArray) HD3.out.nw (by simp) _);clear HD3 HT3 HK HB3 Jf r3 t3 c0 c1 c2 c3 c4;rename_i hHeld;clear hHeld;generalize W3.drew.setCells gn (k*64) (sec s)=W4 at *;obtain⟨c0,c1,c2,c3,c4⟩:=HD4.out.cells;have f2:=HD4.out.frozen 2;have r4:W4.rangeAt t 0 (EL (k,s)):=fun j v hv=>by
  rw[AB W4 t _ _ _ _ ZU.out,Gp,Gh];exact hv
 have Ach:=Tryz.underlying167;have hwl:(EL (k,s)).length=65:=HWL.out;have Acz:(Tryz.prog.info? 167).map (·.size)=some (EL (k,s)).length:=by rw[HWL.out];exact Tryz.Rz
 go_upto_region 8 with fail;have mF:Hid (∀W:World,W.cell? ⟨b,2,none⟩=some vp→(Instr.loadAt 73 (.pointer (some ⟨b,2,none⟩))).run Tryz.prog W=.ok vp W):=Aa (fun W h=>jR b vp W h);have ma:Hid (∀W:World,_):=Aa hbs;clear hbs;have dX:Hid ((W4.drew.alloc (.cells (EL (k,s)).toArray 167)).rangeAt t 0 (EL (k,s))):=Aa (World.rangeAt_alloc (w:=W4.drew) r4 _);have HC5:Hid ((W4.drew.alloc (.cells (EL (k,s)).toArray 167)).cell? ⟨b,2,none⟩=some vp):=Aa (by rw[World.cell?_alloc_lt _ _ _ (Ab HD4.out.hd)];exact c2);obtain⟨i0,hi0,hz0,hz1,hz2⟩:=info_parts Tryz.gF;have HP5:Hid ((W4.drew.alloc (.cells (EL (k,s)).toArray 167)).ownsRow B 167 65 vp st.pend.length (Km st.pend)):=Aa (Lc (ex:=[]) HD4.out.pd (by simp) ((Off.refl [] W4.drew).alloc _));have HN5:Hid (∀j u,(EL (k,s))[j]?=some u→(W4.drew.alloc (.cells (EL (k,s)).toArray 167)).cell? ((⟨W4.heap.size,0,none⟩:Addr).add j)=some u):=Aa (fun j u hu=>World.news_of_block (Ai W4.drew _) j u (by rw[Iw];exact hu));have I4:Hid (Below B w (W4.drew.alloc (.cells (EL (k,s)).toArray 167))):=Aa ((LY.out.drew).alloc (by show B≤W4.heap.size;have:=LY.out.size;omega) _);have ZX:Hid (Off AZ w (W4.drew.alloc (.cells (EL (k,s)).toArray 167))):=Aa ((uq.out.drew).alloc _);have HS5:Hid (B≤(W4.drew.alloc (.cells (EL (k,s)).toArray 167)).heap.size):=Aa (Ao hB I4.out.size);have H5:Hid (∀j (cs:Array Value) (T:TypeId) (fr:Nat×Nat),W4.heap[j]?=some (Obj.cells cs T fr)→(W4.drew.alloc (.cells (EL (k,s)).toArray 167)).heap[j]?=some (Obj.cells cs T fr)):=Aa (fun j cs T fr hj=>by
  rw[Ct W4.drew _ _ (Ab hj)];exact hj)
 have ZP:Hid (vp.ownBlock≠some b∧vp.ownBlock≠some gn∧vp.ownBlock≠some gs∧vp.ownBlock≠some t):=Aa ⟨own_ne HD4.out.pd HD4.out.hd (by decide),own_ne HD4.out.pd HD4.out.nw (by decide),own_ne HD4.out.pd HD4.out.sf (by decide),fun e=>by have:=HVT.out t e;omega⟩;have HTB:Hid (t≠b):=Aa (Ci ZU.out HD4.out.hd (by decide));have HPC:Hid (Km st.pend++EL (k,s)=Km (st.pend++[(k,s)])):=Aa (by unfold Km;rw[FB];simp);have mE:Hid (st.pend.length+1=(st.pend++[(k,s)]).length):=Aa (by simp);refine wp_region_held_drew (S:=fun w'=>w'.rangeAt t 0 (EL (k,s))) (by kernel_rfl) r4 (fun hHeld=>?_);refine wpAnyH_take (i:=0) (oi:={ dst:=some 32,op:=.move (.tmp 0),type:=_,pos:=_,after:=_,guard:=none }) (v:=.pointer (some ⟨b,0,none⟩)) rfl (by kernel_rfl) (by kernel_rfl) (by kernel_rfl) (fun _ _ _ h=>h) (Or.inl ⟨by rfl,by intro _ _;rfl⟩) (by assumption) ?_;simp only[Act.put,List.setIfInBounds_toArray,List.set_cons_zero,List.set_cons_succ];refine wpAnyH_take (i:=1) (oi:={ dst:=some 33,op:=.move (.tmp 0),type:=_,pos:=_,after:=_,guard:=none }) (v:=.pointer (some ⟨b,0,none⟩)) rfl (by kernel_rfl) (by kernel_rfl) (by kernel_rfl) (fun _ _ _ h=>h) (Or.inl ⟨by rfl,by intro _ _;rfl⟩) (by assumption) ?_;simp only[Act.put,List.setIfInBounds_toArray,List.set_cons_zero,List.set_cons_succ];refine wpAnyH_take (i:=2) (oi:={ dst:=some 34,op:=.nilCheck (.tmp 33),type:=_,pos:=_,after:=_,guard:=none }) (v:=.pointer (some ⟨b,0,none⟩)) rfl (by kernel_rfl) (by kernel_rfl) (by kernel_rfl) (fun _ _ _ h=>h) (Or.inl ⟨by rfl,by intro w _;rfl⟩) (by assumption) ?_;simp only[Act.put,List.setIfInBounds_toArray,List.set_cons_zero,List.set_cons_succ];refine wpAnyH_take (i:=3) (oi:={ dst:=some 35,op:=.fieldAddr 77 (.tmp 34) 2,type:=_,pos:=_,after:=_,guard:=none }) (v:=.pointer (some ⟨b,2,none⟩)) rfl (by kernel_rfl) (by kernel_rfl) (by kernel_rfl) (fun _ _ _ h=>h) (Or.inl ⟨by rfl,by intro w _;go_simp⟩) (by assumption) ?_;simp only[Act.put,List.setIfInBounds_toArray,List.set_cons_zero,List.set_cons_succ];refine wpAnyH_take (i:=5) (oi:={ dst:=some 37,op:=.load 167 (.tmp 8),type:=_,pos:=_,after:=_,guard:=none }) (v:=.agg (EL (k,s)).toArray) rfl (by kernel_rfl) (by kernel_rfl) (by kernel_rfl) (fun _ _ _ h=>h) (yieldsIf_load_mid (by rfl) _ _ rfl t 0 rfl (EL (k,s)) _ (fun w hw=>hw) Ach rfl Acz) (by assumption) ?_;simp only[Act.put,List.setIfInBounds_toArray,List.set_cons_zero,List.set_cons_succ];refine wpAnyH_ready (rs:=[4,6]) (by kernel_rfl) (by simp) (AllReadyH.cons (o:={ dst:=some 36,op:=.load 73 (.tmp 35),type:=_,pos:=_,after:=_,guard:=none }) rfl (fun K hK=>?_) (AllReadyH.cons (o:={ dst:=some 38,op:=.buildSlice 73 1 #[(0,.tmp 37)],type:=_,pos:=_,after:=_,guard:=none }) rfl (fun K hK=>?_) AllReadyH.nil));rotate_left
 · skip
   refine MW rfl (Ma 73 1 _ rfl #[(0,.agg (EL (k,s)).toArray)] (.slice (some ⟨W4.heap.size,0,none⟩) 1 1) rfl (ma.out W4.drew) ?_);refine hK.out _ _ dX.out (fun Xr=>?_);clear hK K hHeld;simp only[Act.put,List.setIfInBounds_toArray,List.set_cons_zero,List.set_cons_succ];refine wpAnyH_ready (rs:=[4]) (by kernel_rfl) (by simp) (AllReadyH.cons (o:={ dst:=some 36,op:=.load 73 (.tmp 35),type:=_,pos:=_,after:=_,guard:=none }) rfl (fun K hK=>?_) AllReadyH.nil);refine MW rfl (X9 73 _ rfl (.pointer (some ⟨b,2,none⟩)) vp rfl (mF.out _ HC5.out) ?_);refine hK.out _ _ dX.out (fun TA=>?_);clear hK K Xr;simp only[Act.put,List.setIfInBounds_toArray,List.set_cons_zero,List.set_cons_succ];refine wpAnyH_ready (rs:=[7]) (by kernel_rfl) (by simp) (AllReadyH.cons (o:={ dst:=some 39,op:=.call { callee:=.builtin .append,args:=#[.tmp 36,.tmp 38],argTypes:=#[73,73] },type:=_,pos:=_,after:=_,guard:=none }) rfl (fun K hK=>?_) AllReadyH.nil);refine step_append_lies (W4.drew.alloc (.cells (EL (k,s)).toArray 167)) rfl _ _ 73 rfl B 167 i0 (.agg z65) 65 72 Tryz.underlying73 hi0 hz0 hz1 hz2 rfl (by decide) vp st.pend.length (Km st.pend) rfl HP5.out ⟨W4.heap.size,0,none⟩ 1 1 (EL (k,s)) rfl HWL.out HN5.out (Ro _) (by decide) (by unfold maxLen;omega) (by omega) HS5.out _ rfl ?_;intro g9 Je w9 JF EG Ty qD;have iy:Hid (∀j (cs:Array Value) (T:TypeId) (fr:Nat×Nat),W4.heap[j]?=some (Obj.cells cs T fr)→vp.ownBlock≠some j→w9.heap[j]?=some (Obj.cells cs T fr)):=Aa (fun j cs T fr hj hne=>by
    have h9:=H5.out j cs T fr hj;rw[EG.block j (Ab h9) (fun e=>hne e.symm)];exact h9)
   have bL:=iy.out t _ _ _ ZU.out ZP.out.2.2.2;have Y2:w9.rangeAt t 0 (EL (k,s)):=fun j v hv=>by
    rw[AB w9 t _ _ _ _ bL,Gp,Gh];exact hv
   refine hK.out _ _ Y2 (fun bW=>?_);simp only[Act.put,List.setIfInBounds_toArray,List.set_cons_zero,List.set_cons_succ];clear hK K;have EY:=iy.out b _ _ _ HD4.out.hd ZP.out.1;have xu:w9.cell? ⟨b,2,none⟩=some vp:=by rw[AB w9 b _ _ _ _ EY];rfl
   have hf9:w9.frozen? ⟨b,2,none⟩=false:=Fp w9 b _ _ _ EY;refine wpAnyH_take (i:=8) (oi:={ dst:=some 40,op:=.nilCheck (.tmp 32),type:=_,pos:=_,after:=_,guard:=none }) (v:=.pointer (some ⟨b,0,none⟩)) rfl (by kernel_rfl) (by kernel_rfl) (by kernel_rfl) (fun _ _ _ h=>h) (Or.inl ⟨by rfl,by intro w _;rfl⟩) (by assumption) ?_;simp only[Act.put,List.setIfInBounds_toArray,List.set_cons_zero,List.set_cons_succ];refine wpAnyH_take (i:=9) (oi:={ dst:=some 41,op:=.fieldAddr 77 (.tmp 40) 2,type:=_,pos:=_,after:=_,guard:=none }) (v:=.pointer (some ⟨b,2,none⟩)) rfl (by kernel_rfl) (by kernel_rfl) (by kernel_rfl) (fun _ _ _ h=>h) (Or.inl ⟨by rfl,by intro w _;go_simp⟩) (by assumption) ?_;simp only[Act.put,List.setIfInBounds_toArray,List.set_cons_zero,List.set_cons_succ];refine wpAnyH_ready (rs:=[10]) (by kernel_rfl) (by simp) (AllReadyH.cons (o:={ dst:=none,op:=.store 73 (.tmp 41) (.tmp 39),type:=_,pos:=_,after:=_,guard:=none }) rfl (fun K hK=>?_) AllReadyH.nil);refine MW rfl (U2 73 _ _ rfl (.pointer (some ⟨b,2,none⟩)) (.slice (some ⟨g9,0,none⟩) (st.pend.length+1) Je) rfl rfl (Sl b _ _ _ vp w9 xu hf9) ?_);refine hK.out _ _ (fun j v hv=>by rw[World.cell?_setCell_other _ _ _ _ (fun e=>HTB.out (by injection e with e1 _ _;exact e1.symm))];exact Y2 j v hv) (fun bV=>?_);clear hK K;refine wpAnyH_done (by kernel_rfl) ?_ _;have HD6:Hid (BU B (w9.setCell ⟨b,2,none⟩ (.slice (some ⟨g9,0,none⟩) (st.pend.length+1) Je)) b gn gs (.slice (some ⟨g9,0,none⟩) (st.pend.length+1) Je) { st with now:=st.now.set k s,pend:=st.pend++[(k,s)] }):=Aa (HD4.out.WZ (EY.trans HD4.out.hd.symm) ((iy.out gn _ _ _ HD4.out.nw ZP.out.2.1).trans HD4.out.nw.symm) ((iy.out gs _ _ _ HD4.out.sf ZP.out.2.2.1).trans HD4.out.sf.symm) (by rw[←HPC.out,←mE.out];exact JF));have RJ:Hid (Below B w (w9.setCell ⟨b,2,none⟩ (.slice (some ⟨g9,0,none⟩) (st.pend.length+1) Je))):=Aa ((I4.out.grown EG HS5.out (fun j hj=>(HP5.out.lt j hj).1)).setCell (p:=⟨b,2,none⟩) HD4.out.hb _);have x8:Hid (Off AZ w (w9.setCell ⟨b,2,none⟩ (.slice (some ⟨g9,0,none⟩) (st.pend.length+1) Je))):=Aa (Off.setCell (ZX.out.grown EG (fun j hj=>YA HP5.out hj (by simp))) EY (by simp) _);clear JF EG Ty qD iy bL Y2 bW EY xu hf9 bV c0 c1 c2 c3 c4 f2 r4;obtain⟨v6,hv6⟩:∃v6,v6=Value.slice (some ⟨g9,0,none⟩) (st.pend.length+1) Je:=⟨_,rfl⟩;rw[←hv6]at HD6 RJ x8 ⊢;generalize w9.setCell ⟨b,2,none⟩ v6=W6 at *;obtain⟨c0,c1,c2,c3,c4⟩:=HD6.out.cells;have f4:=HD6.out.frozen 4;have cS:=fw b st.lim st.left W6 c3 c4 f4 HL.out;clear c0 c1 c2 hv6;go_wp2_with fail;refine cS.mono ?_;rintro e w7 ⟨rfl,hw7⟩;have uf:=Aa hw7;clear hw7 cS;go_wp2;go_ret;refine⟨rfl,?_⟩;have:=oH HD6.out RJ.out x8.out;rw[←uf.out]at this;exact this
 · skip
   refine MW rfl (X9 73 _ rfl (.pointer (some ⟨b,2,none⟩)) vp rfl (mF.out _ c2) ?_);refine hK.out _ _ r4 (fun TA=>?_);clear hK K hHeld;simp only[Act.put,List.setIfInBounds_toArray,List.set_cons_zero,List.set_cons_succ];refine wpAnyH_ready (rs:=[6]) (by kernel_rfl) (by simp) (AllReadyH.cons (o:={ dst:=some 38,op:=.buildSlice 73 1 #[(0,.tmp 37)],type:=_,pos:=_,after:=_,guard:=none }) rfl (fun K hK=>?_) AllReadyH.nil);refine MW rfl (Ma 73 1 _ rfl #[(0,.agg (EL (k,s)).toArray)] (.slice (some ⟨W4.heap.size,0,none⟩) 1 1) rfl (ma.out W4.drew) ?_);refine hK.out _ _ dX.out (fun Xr=>?_);clear hK K TA;simp only[Act.put,List.setIfInBounds_toArray,List.set_cons_zero,List.set_cons_succ];refine wpAnyH_ready (rs:=[7]) (by kernel_rfl) (by simp) (AllReadyH.cons (o:={ dst:=some 39,op:=.call { callee:=.builtin .append,args:=#[.tmp 36,.tmp 38],argTypes:=#[73,73] },type:=_,pos:=_,after:=_,guard:=none }) rfl (fun K hK=>?_) AllReadyH.nil);refine step_append_lies (W4.drew.alloc (.cells (EL (k,s)).toArray 167)) rfl _ _ 73 rfl B 167 i0 (.agg z65) 65 72 Tryz.underlying73 hi0 hz0 hz1 hz2 rfl (by decide) vp st.pend.length (Km st.pend) rfl HP5.out ⟨W4.heap.size,0,none⟩ 1 1 (EL (k,s)) rfl HWL.out HN5.out (Ro _) (by decide) (by unfold maxLen;omega) (by omega) HS5.out _ rfl ?_;intro g9 Je w9 JF EG Ty qD;have iy:Hid (∀j (cs:Array Value) (T:TypeId) (fr:Nat×Nat),W4.heap[j]?=some (Obj.cells cs T fr)→vp.ownBlock≠some j→w9.heap[j]?=some (Obj.cells cs T fr)):=Aa (fun j cs T fr hj hne=>by
    have h9:=H5.out j cs T fr hj;rw[EG.block j (Ab h9) (fun e=>hne e.symm)];exact h9)
   have bL:=iy.out t _ _ _ ZU.out ZP.out.2.2.2;have Y2:w9.rangeAt t 0 (EL (k,s)):=fun j v hv=>by
    rw[AB w9 t _ _ _ _ bL,Gp,Gh];exact hv
   refine hK.out _ _ Y2 (fun bW=>?_);simp only[Act.put,List.setIfInBounds_toArray,List.set_cons_zero,List.set_cons_succ];clear hK K;have EY:=iy.out b _ _ _ HD4.out.hd ZP.out.1;have xu:w9.cell? ⟨b,2,none⟩=some vp:=by rw[AB w9 b _ _ _ _ EY];rfl
   have hf9:w9.frozen? ⟨b,2,none⟩=false:=Fp w9 b _ _ _ EY;refine wpAnyH_take (i:=8) (oi:={ dst:=some 40,op:=.nilCheck (.tmp 32),type:=_,pos:=_,after:=_,guard:=none }) (v:=.pointer (some ⟨b,0,none⟩)) rfl (by kernel_rfl) (by kernel_rfl) (by kernel_rfl) (fun _ _ _ h=>h) (Or.inl ⟨by rfl,by intro w _;rfl⟩) (by assumption) ?_;simp only[Act.put,List.setIfInBounds_toArray,List.set_cons_zero,List.set_cons_succ];refine wpAnyH_take (i:=9) (oi:={ dst:=some 41,op:=.fieldAddr 77 (.tmp 40) 2,type:=_,pos:=_,after:=_,guard:=none }) (v:=.pointer (some ⟨b,2,none⟩)) rfl (by kernel_rfl) (by kernel_rfl) (by kernel_rfl) (fun _ _ _ h=>h) (Or.inl ⟨by rfl,by intro w _;go_simp⟩) (by assumption) ?_;simp only[Act.put,List.setIfInBounds_toArray,List.set_cons_zero,List.set_cons_succ];refine wpAnyH_ready (rs:=[10]) (by kernel_rfl) (by simp) (AllReadyH.cons (o:={ dst:=none,op:=.store 73 (.tmp 41) (.tmp 39),type:=_,pos:=_,after:=_,guard:=none }) rfl (fun K hK=>?_) AllReadyH.nil);refine MW rfl (U2 73 _ _ rfl (.pointer (some ⟨b,2,none⟩)) (.slice (some ⟨g9,0,none⟩) (st.pend.length+1) Je) rfl rfl (Sl b _ _ _ vp w9 xu hf9) ?_);refine hK.out _ _ (fun j v hv=>by rw[World.cell?_setCell_other _ _ _ _ (fun e=>HTB.out (by injection e with e1 _ _;exact e1.symm))];exact Y2 j v hv) (fun bV=>?_);clear hK K;refine wpAnyH_done (by kernel_rfl) ?_ _;have HD6:Hid (BU B (w9.setCell ⟨b,2,none⟩ (.slice (some ⟨g9,0,none⟩) (st.pend.length+1) Je)) b gn gs (.slice (some ⟨g9,0,none⟩) (st.pend.length+1) Je) { st with now:=st.now.set k s,pend:=st.pend++[(k,s)] }):=Aa (HD4.out.WZ (EY.trans HD4.out.hd.symm) ((iy.out gn _ _ _ HD4.out.nw ZP.out.2.1).trans HD4.out.nw.symm) ((iy.out gs _ _ _ HD4.out.sf ZP.out.2.2.1).trans HD4.out.sf.symm) (by rw[←HPC.out,←mE.out];exact JF));have RJ:Hid (Below B w (w9.setCell ⟨b,2,none⟩ (.slice (some ⟨g9,0,none⟩) (st.pend.length+1) Je))):=Aa ((I4.out.grown EG HS5.out (fun j hj=>(HP5.out.lt j hj).1)).setCell (p:=⟨b,2,none⟩) HD4.out.hb _);have x8:Hid (Off AZ w (w9.setCell ⟨b,2,none⟩ (.slice (some ⟨g9,0,none⟩) (st.pend.length+1) Je))):=Aa (Off.setCell (ZX.out.grown EG (fun j hj=>YA HP5.out hj (by simp))) EY (by simp) _);clear JF EG Ty qD iy bL Y2 bW EY xu hf9 bV c0 c1 c2 c3 c4 f2 r4;obtain⟨v6,hv6⟩:∃v6,v6=Value.slice (some ⟨g9,0,none⟩) (st.pend.length+1) Je:=⟨_,rfl⟩;rw[←hv6]at HD6 RJ x8 ⊢;generalize w9.setCell ⟨b,2,none⟩ v6=W6 at *;obtain⟨c0,c1,c2,c3,c4⟩:=HD6.out.cells;have f4:=HD6.out.frozen 4;have cS:=fw b st.lim st.left W6 c3 c4 f4 HL.out;clear c0 c1 c2 hv6;go_wp2_with fail;refine cS.mono ?_;rintro e w7 ⟨rfl,hw7⟩;have uf:=Aa hw7;clear hw7 cS;go_wp2;go_ret;refine⟨rfl,?_⟩;have:=oH HD6.out RJ.out x8.out;rw[←uf.out]at this;exact this
theorem PD {n:Nat}{lim:Bool}{left i:Int}(h:Fa n lim left i=0):∃k:Nat,i=k∧k<n:=by
 unfold Fa at h;split at h
 · cases h
 · split at h
   · cases h
   · exact⟨i.toNat,by omega,by omega⟩
set_option maxHeartbeats 2000000 in
theorem Vn (B b:Nat)(st:St)(i:Int)(s:ByteArray)(w:World)(h:Dev B w b st)(hg:Good st)(hp:st.pend.length≤1000)(hB:B≤w.heap.size) :
 Calls Tryz.prog 165 #[.pointer (some ⟨b,0,none⟩),.int .i64 i,.string s] w (ED B b st i s w):=by
 unfold ED;by_cases ha:Fa st.now.length st.lim st.left i=0
 · obtain⟨k,rfl,hk⟩:=PD ha;by_cases hs:s.size=64
   · have hq:Dq st k s=0:=by unfold Dq;rw[if_pos ha,if_pos hs]
     rw[hq,if_pos rfl];exact zZ B b k st s w h hg hp ha hk hs hB
   · have hq:Dq st k s=1:=by unfold Dq;rw[if_pos ha,if_neg hs]
     rw[hq,if_neg (by decide)];have HD:=Aa h;obtain⟨gn,gs,vp,h⟩:=h;obtain⟨c0,c1,c2,c3,c4⟩:=h.cells;have cA:=iq b _ _ _ _ _ k w c0 c3 c4;rw[ha]at cA;have hne:((s.size:Int)==64)=false:=by rw[Ba];omega
     have hne2:((s.size:Int)!=64)=true:=by rw[bne,hne];rfl
     generalize st.now.length=n at *;clear h hg hq ha;go_enter Tryz.func165,Tryz.ntmps165;go_wp2_with fail;refine cA.mono ?_;rintro e w2 ⟨rfl,rfl⟩;go_wp2;go_ret;exact⟨rfl,HD.out,Ad _ _,Off.refl _ _⟩
 · have hq:Dq st i s=Fa st.now.length st.lim st.left i:=by unfold Dq;rw[if_neg ha]
   rw[hq,if_neg ha];have HD:=Aa h;obtain⟨gn,gs,vp,h⟩:=h;obtain⟨c0,c1,c2,c3,c4⟩:=h.cells;have cA:=iq b _ _ _ _ _ i w c0 c3 c4;have hne:(Fa st.now.length st.lim st.left i==0)=false:=by simpa using ha
   generalize Fa st.now.length st.lim st.left i=q at *;generalize st.now.length=n at *;clear h hg hq;go_enter Tryz.func165,Tryz.ntmps165;go_wp2_with fail;refine cA.mono ?_;rintro e w2 ⟨rfl,rfl⟩;go_wp2;go_ret;exact⟨rfl,HD.out,Ad _ _,Off.refl _ _⟩
def BJ (st:St):Bool:=st.lim&&st.left==0
def JK (st:St)(n:Int):St:=if BJ st=true then st else { st with lim:=decide (0≤n),left:=n }
theorem BU.mR {B:Nat}{W W':World}{b gn gs:Nat}{vp:Value}{st:St}(h:BU B W b gn gs vp st)(l:Bool)(x:Int)(hb:W'.heap[b]?=some (.cells (head gn gs st.now.length vp l x) 77 (0,0)))(hf:∀j,j≠b→W'.heap[j]?=W.heap[j]?):BU B W' b gn gs vp { st with lim:=l,left:=x }:=by
 have h1:gn≠b:=Ne.symm (Ci h.hd h.nw (by decide));have h2:gs≠b:=Ne.symm (Ci h.hd h.sf (by decide));refine⟨h.hb,h.hgn,h.hgs,h.ne,hb,(hf gn h1).trans h.nw,(hf gs h2).trans h.sf,⟨h.pd.1,?_⟩⟩;rcases h.pd.2 with hn|⟨g,cap,cur,hv,hg,hh,r⟩
 · exact Or.inl hn
 · exact Or.inr ⟨g,cap,cur,hv,hg,(hf g (Ci hh h.hd (by decide))).trans hh,r⟩
set_option maxHeartbeats 2000000 in
theorem yO (B b:Nat)(st:St)(n:Int)(w:World)(h:Dev B w b st) :
 Calls Tryz.prog 11 #[.pointer (some ⟨b,0,none⟩),.int .i64 n] w fun e w'=>e=.returned (.tuple #[])∧Dev B w' b (JK st n)∧Below B w w'∧Off AZ w w':=by
 unfold JK BJ;have HD:=Aa h;obtain⟨gn,gs,vp,h⟩:=h;obtain⟨c0,c1,c2,c3,c4⟩:=h.cells;have cG:=Xv b _ _ w c3 c4;cases hg:(st.lim&&st.left==0)
 · rw[hg]at cG;simp only[Bool.false_eq_true,if_false];have f3:=h.frozen 3;have f4:=h.frozen 4;have HH:=Aa h;have HW:Hid (∀l:Bool,l=decide (0≤n)→(Dev B ((w.setCell ⟨b,3,none⟩ (.bool l)).setCell ⟨b,4,none⟩ (.int .i64 n)) b { st with lim:=decide (0≤n),left:=n }∧Below B w ((w.setCell ⟨b,3,none⟩ (.bool l)).setCell ⟨b,4,none⟩ (.int .i64 n))∧Off AZ w ((w.setCell ⟨b,3,none⟩ (.bool l)).setCell ⟨b,4,none⟩ (.int .i64 n)))):=Aa (fun l hl=>by
    subst hl;have e1:=Bn w b 3 _ _ (.bool (decide (0≤n))) HH.out.hd;have e2:=Bn _ b 4 _ _ (.int .i64 n) e1;refine⟨⟨gn,gs,vp,HH.out.mR _ _ e2 (fun j hj=>?_)⟩,((Ad B w).setCell (p:=⟨b,3,none⟩) HH.out.hb _).setCell (p:=⟨b,4,none⟩) HH.out.hb _,Off.setCell (Off.setCell (Off.refl _ w) HH.out.hd (by simp) _) e1 (by simp) _⟩;rw[heap_setCell_other _ _ _ _ hj,heap_setCell_other _ _ _ _ hj])
   clear h hg;by_cases hn:0≤n
   · have hd:decide (0≤n)=true:=A8 hn;rw[hd]at HW;go_enter Tryz.func11,Tryz.ntmps11;go_wp2_with fail;refine cG.mono ?_;rintro e w2 ⟨rfl,rfl⟩;go_wp2;go_end0;refine⟨rfl,?_⟩;have:=HW.out true rfl;simpa[hd]using this
   · have hd:decide (0≤n)=false:=Bb hn;rw[hd]at HW;go_enter Tryz.func11,Tryz.ntmps11;go_wp2_with fail;refine cG.mono ?_;rintro e w2 ⟨rfl,rfl⟩;go_wp2;go_end0;refine⟨rfl,?_⟩;have:=HW.out false rfl;simpa[hd]using this
 · rw[hg]at cG;simp only[if_true];clear h hg;go_enter Tryz.func11,Tryz.ntmps11;go_wp2_with fail;refine cG.mono ?_;rintro e w2 ⟨rfl,rfl⟩;go_wp2;refine Bv (results_none rfl _ _ _) rfl ?_;exact⟨rfl,HD.out,Ad _ _,Off.refl _ _⟩
def setFrom (src:List ByteArray)(ps:List (Nat×ByteArray))(l:List ByteArray):List ByteArray:=ps.foldl (fun l p=>l.set p.1 (src.getD p.1 ⟨#[]⟩)) l
theorem Mf (src:List ByteArray):∀(ps:List (Nat×ByteArray)) (l:List ByteArray),(setFrom src ps l).length=l.length
 | [],l=>rfl
 | p::ps,l=>by
  show(setFrom src ps (l.set _ _)).length=_
  rw[Mf src ps,List.length_set]
theorem OL (src:List ByteArray)(ps:List (Nat×ByteArray))(p:Nat×ByteArray)(l:List ByteArray):setFrom src (ps++[p]) l=(setFrom src ps l).set p.1 (src.getD p.1 ⟨#[]⟩):=by
 unfold setFrom;rw[List.foldl_append];rfl
theorem QA (src:List ByteArray):∀(ps:List (Nat×ByteArray)) (l:List ByteArray) (i:Nat),(∀p∈ps,p.1<src.length)→src.length=l.length →
 (setFrom src ps l)[i]?=if ∃p∈ps,p.1=i then src[i]? else l[i]?
 | [],l,i,_,_=>by simp[setFrom]
 | p::ps,l,i,hs,hl=>by
  show(setFrom src ps (l.set _ _))[i]?=_
  rw[QA src ps _ i (fun q hq=>hs q (by simp[hq])) (by rw[List.length_set];exact hl)];have hp:=hs p (by simp);by_cases h1:∃q∈ps,q.1=i
  · rw[if_pos h1,if_pos];obtain⟨q,hq,e⟩:=h1;exact⟨q,by simp[hq],e⟩
  · rw[if_neg h1];by_cases h2:p.1=i
    · rw[if_pos ⟨p,by simp,h2⟩];subst h2;rw[List.getElem?_set_self (by omega),Gi,Co hp];rfl
    · rw[Jr h2,if_neg];rintro⟨q,hq,e⟩;rcases Em.1 hq with rfl|hq
      · exact h2 e
      · exact h1 ⟨q,hq,e⟩
theorem QB {src l:List ByteArray}{ps:List (Nat×ByteArray)}(hs:∀p∈ps,p.1<src.length)(hl:src.length=l.length)(h:∀i,(∀p∈ps,p.1≠i)→src[i]?=l[i]?):setFrom src ps l=src:=by
 apply List.ext_getElem?;intro i;rw[QA src ps l i hs hl];split
 · rfl
 · rename_i hn;exact(h i (fun p hp e=>hn ⟨p,hp,e⟩)).symm
theorem OM {src:List ByteArray}{ps:List (Nat×ByteArray)}{l:List ByteArray}(hs:∀p∈ps,p.1<src.length)(h1:∀x∈src,x.size=64)(h2:∀x∈l,x.size=64):∀x∈setFrom src ps l,x.size=64:=by
 induction ps generalizing l with
 | nil=>exact h2
 | cons p ps ih =>
  refine ih (l:=l.set _ _) (fun q hq=>hs q (by simp[hq])) (fun x hx=>?_);rcases List.mem_or_eq_of_mem_set hx with h|h
  · exact h2 x h
  · rw[h];have hp:=hs p (by simp);rw[Gi,Co hp];exact h1 _ (List.getElem_mem hp)
theorem Xa {B:Nat}{W:World}{vp:Value}{ps:List (Nat×ByteArray)}(h:W.ownsRow B 167 65 vp ps.length (Km ps))(hs:∀p∈ps,p.2.size=64){j:Nat}{p:Nat×ByteArray}(hp:ps[j]?=some p) :
 ∃gp cap,vp=.slice (some ⟨gp,0,none⟩) ps.length cap∧(Instr.loadAt 167 (.pointer (some ⟨gp,j*65,none⟩))).run Tryz.prog W=.ok (.agg (EL p).toArray) W:=by
 have hj:j<ps.length:=(DL.1 hp).1;have hw:∀q∈ps,(EL q).length=65:=fun q hq=>FX (hs q hq)
 rcases h.2 with⟨_,h0⟩|⟨g,cap,cur,hv,_,hb,hn,_,hc,ht⟩
 · omega
 · refine⟨g,cap,hv,run_loadAt_mid (P:=Tryz.prog) W g (j*65) _ (EL p) _ ?_ Tryz.underlying167 rfl (by rw[hw p (CU hp)];exact Tryz.Rz)⟩;refine FK EL 65 (R:=cur.toList.drop (ps.length*65)) hw hp (w:=W) (b:=g) (T:=167) (fr:=(0,0)) ?_;rw[hb];have e:cur.toList=Km ps++cur.toList.drop (ps.length*65):=by rw[←ht,List.take_append_drop]
   congr 2;apply Array.ext';rw[Iw];exact e
theorem Sk (W:World)(p:Nat×ByteArray)(hp:p.2.size=64):(storeCells ⟨W.heap.size,0,none⟩ (EL p)).run Tryz.prog (W.alloc (.cells z65 167))=.ok () (W.alloc (.cells (EL p).toArray 167)):=by
 have hw:=FX hp;have:=run_storeCells_new (P:=Tryz.prog) W 167 z65 (EL p).toArray (by rw[Gq,hw];exact Tryz.Rz) ((show z65.size=65 from rfl).trans (by rw[Gq,hw])) (all_oneCell_toArray (Ro _));rw[Iw]at this;exact this
theorem BU.alloc {B:Nat}{W:World}{b gn gs:Nat}{vp:Value}{st:St}(h:BU B W b gn gs vp st)(o:Obj):BU B (W.alloc o) b gn gs vp st:=h.off (ex:=[]) ((Off.refl _ W).alloc o) (by simp) (by simp) (by simp)
theorem BU.drew {B:Nat}{W:World}{b gn gs:Nat}{vp:Value}{st:St}(h:BU B W b gn gs vp st):BU B W.drew b gn gs vp st:=h.off (ex:=[]) ((Off.refl [] W).drew) (by simp) (by simp) (by simp)
theorem BU.oF {B:Nat}{W:World}{b gn gs:Nat}{vp:Value}{st:St}(h:BU B W b gn gs vp st)(hl:∀x∈st.now,x.size=64){k:Nat}{x:ByteArray}(hk:st.now[k]?=some x):W.rangeAt gn (k*64) (sec x):=
 FK sec 64 (R:=[]) (fun s hs=>by rw[Da];exact hl s hs) hk (w:=W) (b:=gn) (T:=165) (fr:=(0,0)) (by rw[Cz];exact h.nw)
theorem BU.jq {B:Nat}{W:World}{b gn gs:Nat}{vp:Value}{st:St}(h:BU B W b gn gs vp st)(hl:∀x∈st.safe,x.size=64){k:Nat}{x:ByteArray}(hk:st.safe[k]?=some x):W.rangeAt gs (k*64) (sec x):=
 FK sec 64 (R:=[]) (fun s hs=>by rw[Da];exact hl s hs) hk (w:=W) (b:=gs) (T:=165) (fr:=(0,0)) (by rw[Cz];exact h.sf)
theorem NS {W:World}{g:Nat}{l:List ByteArray}(hb:W.heap[g]?=some (.cells (flat l).toArray 165 (0,0)))(hl:∀x∈l,x.size=64){k:Nat}(hk:k<l.length):W.there g (k*64) 64:=C9 hb _ _ (by
 rw[Gq,flat,Hm sec 64 _ (fun x hx=>by rw[Da];exact hl x hx)];have:(k+1)*64≤l.length*64:=Nat.mul_le_mul_right _ hk;omega)
def Dt (st:St):St:={ st with safe:=st.now,pend:=[] }
def Wp (B b:Nat)(st:St)(w:World)(e:Ending)(w':World):Prop:=e=.returned (.int .i64 (if BJ st=true then 13 else 0))∧Dev B w' b (if BJ st=true then st else Dt st)∧Below B w w'∧Off AZ w w'
theorem BU.pq {B:Nat}{W:World}{b gn gs:Nat}{vp:Value}{st:St}(h:BU B W b gn gs vp st):BU B (W.setCell ⟨b,2,none⟩ (.slice none 0 0)) b gn gs (.slice none 0 0) { st with pend:=[] }:=
 h.WZ (ps:=[]) rfl rfl rfl ⟨rfl,Or.inl ⟨rfl,rfl⟩⟩
set_option maxHeartbeats 4000000 in
theorem qZ (B b:Nat)(st:St)(w:World)(h:Dev B w b st)(hg:Good st)(hp:st.pend.length≤1000000)(hn0:BJ st=false)(hB:B≤w.heap.size) :
 Calls Tryz.prog 53 #[.pointer (some ⟨b,0,none⟩)] w (fun e w'=>e=.returned (.int .i64 0)∧Dev B w' b (Dt st)∧Below B w w'∧Off AZ w w'):=by
 obtain⟨gn,gs,vp,h⟩:=h;obtain⟨c0,c1,c2,c3,c4⟩:=h.cells;have cG:=Xv b _ _ w c3 c4;unfold BJ at hn0;rw[hn0]at cG;have HD:=Aa h;have HG:=Aa hg;obtain⟨n,hn⟩:∃n,st.now.length=n:=⟨_,rfl⟩;have HN:=Aa hn;obtain⟨m,hm⟩:∃m,st.pend.length=m:=⟨_,rfl⟩;have HM:=Aa hm;obtain⟨ap,cap,hvp⟩:=h.vp;rw[hm]at hvp hp;subst hvp;have hzw:=Wq;have Abp:=Tryz.underlying165;clear h hg hn0 hn hm c0 c1 c3 c4;go_enter Tryz.func53,Tryz.ntmps53;go_wp2_with fail;refine cG.mono ?_;rintro e w2 ⟨rfl,rfl⟩;go_wp2_with fail;clear c2 cG;go_loopw [14] (fun iv wr=>∃j:Nat,j≤m∧iv=.int .i64 j∧BU B wr b gn gs (.slice ap m cap) { st with safe:=setFrom st.now (st.pend.take j) st.safe }∧Below B w wr∧Off AZ w wr) (fun iv _=>m-(intOf iv).toNat)
 case atStart=>exact⟨0,by omega,rfl,HD.out,Ad _ _,Off.refl _ _⟩
 case round =>
  obtain⟨j,hj,rfl,hd,hb,ho⟩:=hrel;have mH:=Aa hd;have zF:=Aa hb;have HOj:=Aa ho;clear hd hb ho;by_cases hjm:j<m
  · have hjz:(j:Int)<(m:Int):=by omega
    obtain⟨p,bM⟩:∃p,st.pend[j]?=some p:=⟨_,Co (by have:=HM.out;omega)⟩;have hpm:=CU bM;rcases p with⟨k,s⟩;obtain⟨hpk,hps⟩:=HG.out.IY _ hpm;simp only at hpk hps;obtain⟨gp,cp,hv,hld⟩:=Xa mH.out.pd (fun q hq=>(HG.out.IY q hq).2) bM;have hv2:ap=some ⟨gp,0,none⟩:=by injection hv
    subst hv2;have mF:=Aa hld;have hst:=Sk wr (k,s) hps;have HPJ:=Aa bM;have hwl:(EL (k,s)).length=65:=FX (p:=(k,s)) hps;have HD1:Hid (BU B (wr.alloc (.cells (EL (k,s)).toArray 167)) b gn gs (.slice (some ⟨gp,0,none⟩) m cap) { st with safe:=setFrom st.now (st.pend.take j) st.safe }):=Aa (mH.out.alloc _);have HB1:Hid (Below B w (wr.alloc (.cells (EL (k,s)).toArray 167))):=Aa (zF.out.alloc (Ao hB zF.out.size) _);have ZY:Hid (Off AZ w (wr.alloc (.cells (EL (k,s)).toArray 167))):=Aa (HOj.out.alloc _);have HT1:Hid ((wr.alloc (.cells (EL (k,s)).toArray 167)).heap[wr.heap.size]?=some (.cells (EL (k,s)).toArray 167 (0,0))):=Aa (Ai _ _);obtain⟨x,hx⟩:∃x,st.now[k]?=some x:=⟨_,Co hpk⟩;have hxs:=HG.out.fq x (CU hx);have hsl:(sec x).length=64:=by rw[Da,hxs]
    have Aav:(Tryz.prog.info? 165).map (·.size)=some (sec x).length:=by rw[hsl];exact Tryz.Mx
    have hone:∀v∈sec x,v.oneCell'=true:=OO x;have HX:=Aa hx;have HXS:=Aa hxs;have hpk':k<n:=by have:=HN.out;omega
    have hkz:(k:Int)<(n:Int):=by omega
    clear hv hld bM hpm hpk hx hxs;go_upto_region 6 with(first|((with_reducible refine Jt 167 _ (.pointer (some ⟨gp,j*65,none⟩)) (.agg (EL (k,s)).toArray) ?_ ?_ ?_);exact rfl;exact mF.out));clear hst mF;generalize wr.heap.size=t at *;generalize wr.alloc (.cells (EL (k,s)).toArray 167)=W1 at *;have hct:W1.cell? ⟨t,0,none⟩=some (.int .i64 k):=by rw[AB W1 t _ _ _ _ HT1.out];rfl
    obtain⟨c0,c1,c2,c3,c4⟩:=HD1.out.cells;simp only at c0 c1;rw[HN.out]at c0 c1;have Qq:Hid (∀x∈setFrom st.now (st.pend.take j) st.safe,x.size=64):=Aa (OM (fun q hq=>(HG.out.IY q (List.mem_of_mem_take hq)).1) HG.out.fq HG.out.szs);have uz:Hid ((setFrom st.now (st.pend.take j) st.safe).length=n):=Aa (by rw[Mf,HG.out.same,HN.out]);have r1:=HD1.out.oF HG.out.fq HX.out;have t1:=NS HD1.out.sf Qq.out (k:=k) (by rw[uz.out];exact hpk');have hbg:b≠gs:=Ci HD1.out.hd HD1.out.sf (by decide);have wW:t≠gs:=Ci HT1.out HD1.out.sf (by decide);have hgg:gn≠gs:=HD1.out.ne;have HK:Hid (∀W:World,(W.cell? ⟨b,0,none⟩=some (.slice (some ⟨gn,0,none⟩) n n)∧W.cell? ⟨b,1,none⟩=some (.slice (some ⟨gs,0,none⟩) n n)∧W.cell? ⟨t,0,none⟩=some (.int .i64 k)∧W.rangeAt gn (k*64) (sec x)∧W.there gs (k*64) 64)→((W.setCells gs (k*64) (sec x)).cell? ⟨b,0,none⟩=some (.slice (some ⟨gn,0,none⟩) n n)∧(W.setCells gs (k*64) (sec x)).cell? ⟨b,1,none⟩=some (.slice (some ⟨gs,0,none⟩) n n)∧(W.setCells gs (k*64) (sec x)).cell? ⟨t,0,none⟩=some (.int .i64 k)∧(W.setCells gs (k*64) (sec x)).rangeAt gn (k*64) (sec x)∧(W.setCells gs (k*64) (sec x)).there gs (k*64) 64)):=Aa (fun W hW =>
     ⟨by rw[World.cell?_setCells_out gs _ _ _ _ (fun e=>absurd e hbg)];exact hW.1,by rw[World.cell?_setCells_out gs _ _ _ _ (fun e=>absurd e hbg)];exact hW.2.1,by rw[World.cell?_setCells_out gs _ _ _ _ (fun e=>absurd e wW)];exact hW.2.2.1,World.rangeAt_setCells_apart hW.2.2.2.1 _ _ _ (Or.inl hgg),World.there_setCells hW.2.2.2.2 _ _ _⟩)
    have GM:Hid (BU B (W1.drew.setCells gs (k*64) (sec x)) b gn gs (.slice (some ⟨gp,0,none⟩) m cap) { st with safe:=setFrom st.now (st.pend.take (j+1)) st.safe }):=Aa (by
     rw[GQ HPJ.out,OL,show st.now.getD k ⟨#[]⟩=x by rw[Gi,HX.out];rfl];exact HD1.out.drew.yu Qq.out (by rw[uz.out];exact hpk') HXS.out)
    have GN:Hid (Below B w (W1.drew.setCells gs (k*64) (sec x))):=Aa (Below.setCells HB1.out.drew HD1.out.hgs _ _);have X7:Hid (Off AZ w (W1.drew.setCells gs (k*64) (sec x))):=Aa (Off.setCells ZY.out.drew (b:=gs) (C:=(flat (setFrom st.now (st.pend.take j) st.safe)).toArray) HD1.out.sf (by simp) _);clear c2 c3 c4;go_region_held3 (fun w'=>w'.cell? ⟨b,0,none⟩=some (.slice (some ⟨gn,0,none⟩) n n)∧w'.cell? ⟨b,1,none⟩=some (.slice (some ⟨gs,0,none⟩) n n)∧w'.cell? ⟨t,0,none⟩=some (.int .i64 k)∧w'.rangeAt gn (k*64) (sec x)∧w'.there gs (k*64) 64) (first|assumption|exact HK.out _ (by assumption)|exact⟨c0,c1,hct,r1,t1⟩) (fail);rename_i hHeld;clear hHeld HK c0 c1 hct r1 t1;go_wp2;go_roundw
    case rel=>exact⟨j+1,by omega,by first|rfl|go_num,GM.out,GN.out,X7.out⟩
    case measure=>simp[intOf];omega
  · have hge:¬((j:Int)<(m:Int)):=by omega
    have Aat:j=m:=by omega
    subst Aat;obtain⟨c0,c1,c2,c3,c4⟩:=mH.out.cells;have f2:=mH.out.frozen 2;have GM:Hid (BU B (wr.setCell ⟨b,2,none⟩ (.slice none 0 0)) b gn gs (.slice none 0 0) (Dt st)):=Aa (by
     have h9:=mH.out.pq;rw[CV (by have:=HM.out;omega),QB (fun q hq=>(HG.out.IY q hq).1) HG.out.same.symm HG.out.off]at h9;exact h9)
    have GN:Hid (Below B w (wr.setCell ⟨b,2,none⟩ (.slice none 0 0))):=Aa (zF.out.setCell (p:=⟨b,2,none⟩) mH.out.hb _);have X7:Hid (Off AZ w (wr.setCell ⟨b,2,none⟩ (.slice none 0 0))):=Aa (HOj.out.setCell mH.out.hd (by simp) _);clear c0 c1 c3 c4;go_wp2;go_ret;exact⟨rfl,⟨gn,gs,_,GM.out⟩,GN.out,X7.out⟩
set_option maxHeartbeats 2000000 in
theorem xG (B b:Nat)(st:St)(w:World)(h:Dev B w b st)(hg:Good st)(hp:st.pend.length≤1000000)(hB:B≤w.heap.size) :
 Calls Tryz.prog 53 #[.pointer (some ⟨b,0,none⟩)] w (Wp B b st w):=by
 unfold Wp;cases hgo:BJ st
 · rw[if_neg (by decide),if_neg (by decide)];exact qZ B b st w h hg hp hgo hB
 · rw[if_pos rfl,if_pos rfl];have HD:=Aa h;obtain⟨gn,gs,vp,h⟩:=h;obtain⟨c0,c1,c2,c3,c4⟩:=h.cells;have cG:=Xv b _ _ w c3 c4;unfold BJ at hgo;rw[hgo]at cG;clear h hg hgo;go_enter Tryz.func53,Tryz.ntmps53;go_wp2_with fail;refine cG.mono ?_;rintro e w2 ⟨rfl,rfl⟩;go_wp2;go_ret;exact⟨rfl,HD.out,Ad _ _,Off.refl _ _⟩
end Go.Proofs.YtdmkhmeaphaapaaGreat.V
