/- Kit. -/
import Derived.Lib.Hide
import Derived.Test.YtdmkhmeaphaapaaGreatCZ1
import Derived.Test.YtdmkhmeaphaapaaGreatProg
import Derived.WalkKit
import Derived.WalkSpells
import Derived.IntWalk
import Derived.Below
import Derived.Sort.WalkC
import Derived.ProofKit
import Derived.Lib.Builder
import Derived.LoopTactic
import Derived.Deep.LoopGhost
import Derived.Deep.QuietTactic
import Derived.BigQuiet
import Derived.BigRegion
import Derived.Test.YtdmkhmeaphaapaaGreatCZ0
set_option maxRecDepth 100000
set_option linter.unusedVariables false
set_option linter.unusedSimpArgs false
namespace Go.Proofs.YtdmkhmeaphaapaaGreat
def Qx (xs:List Int)(i j:Nat):List Int:=(xs.set i (xs.getD j 0)).set j (xs.getD i 0)
theorem K9 (xs:List Int)(i j:Nat):(Qx xs i j).length=xs.length:=by simp[Qx]
theorem FC {xs:List Int}{i j:Nat}(hi:i<xs.length)(hj:j<xs.length)(k:Nat):(Qx xs i j).getD k 0=if k=j then xs.getD i 0 else if k=i then xs.getD j 0 else xs.getD k 0:=by
 unfold Qx;simp only[List.getD_eq_getElem?_getD,List.getElem?_set];by_cases h1:j=k
 · subst h1;simp[hj]
 · by_cases h2:i=k
   · subst h2;simp[hi,h1,Ne.symm h1]
   · simp[h1,h2,Ne.symm h1,Ne.symm h2]
theorem OH {xs:List Int}{i j:Nat}(hi:i<xs.length)(hj:j<xs.length):(Qx xs i j).Perm xs:=by
 have:=List.set_set_perm hi hj;simpa[Qx,List.getD_eq_getElem?_getD,List.getElem?_eq_getElem hi,List.getElem?_eq_getElem hj]using this
def Ed (n:Nat)(xs:List Int):Prop:=∀k,0<k→k<n→xs.getD ((k-1)/2) 0≤xs.getD k 0
def uO (xs:List Int)(j:Nat):Prop:=
 (∀k,0<k→k<xs.length→k≠j→xs.getD ((k-1)/2) 0≤xs.getD k 0)∧(∀k,0<k→k<xs.length→(k-1)/2=j→0<j→xs.getD ((j-1)/2) 0≤xs.getD k 0)
def Q3 (n:Nat)(xs:List Int)(i:Nat):Prop:=
 (∀k,0<k→k<n→(k-1)/2≠i→xs.getD ((k-1)/2) 0≤xs.getD k 0)∧(∀k,0<k→k<n→(k-1)/2=i→0<i→xs.getD ((i-1)/2) 0≤xs.getD k 0)
theorem OD {xs:List Int}{j:Nat}(h:uO xs j)(hj:j=0∨xs.getD ((j-1)/2) 0≤xs.getD j 0):Ed xs.length xs:=by
 intro k h0 hk;by_cases e:k=j
 · subst e;rcases hj with hj|hj
   · omega
   · exact hj
 · exact h.1 k h0 hk e
theorem Ya {xs:List Int}{j:Nat}(h:uO xs j)(hj0:0<j)(hjl:j<xs.length)(hlt:xs.getD j 0<xs.getD ((j-1)/2) 0):uO (Qx xs ((j-1)/2) j) ((j-1)/2):=by
 obtain⟨i,hi⟩:∃i,(j-1)/2=i:=⟨_,rfl⟩;rw[hi]at hlt ⊢;have hij:i<j:=by omega
 have hil:i<xs.length:=by omega
 constructor
 · intro k h0 hk hki;rw[K9]at hk;rw[FC hil hjl,FC hil hjl];by_cases e:k=j
   · subst e;rw[if_pos rfl,hi,if_neg (by omega),if_pos rfl];omega
   · rw[if_neg e,if_neg hki];have h1:=h.1 k h0 hk e;by_cases p1:(k-1)/2=j
     · rw[if_pos p1];have:=h.2 k h0 hk p1 hj0;rw[hi]at this;exact this
     · rw[if_neg p1];by_cases p2:(k-1)/2=i
       · rw[if_pos p2];rw[p2]at h1;omega
       · rw[if_neg p2];exact h1
 · intro k h0 hk hp hi0;rw[K9]at hk;have h2:=h.1 i hi0 hil (by omega);rw[FC hil hjl,FC hil hjl,if_neg (by omega),if_neg (by omega)];by_cases e:k=j
   · rw[if_pos e];exact h2
   · rw[if_neg e,if_neg (by omega)];have h1:=h.1 k h0 hk e;rw[hp]at h1;omega
theorem di {n:Nat}{xs:List Int}{i:Nat}(h:Q3 n xs i)(hn:n≤2*i+1):Ed n xs:=fun k h0 hk=>h.1 k h0 hk (by omega)
def Ow (n:Nat)(xs:List Int)(i j:Nat):Prop:=(j=2*i+1∨j=2*i+2)∧j<n∧∀k,0<k→k<n→(k-1)/2=i→xs.getD j 0≤xs.getD k 0
theorem Ti {n:Nat}{xs:List Int}{i:Nat}(h1:2*i+1<n)(h2:¬(2*i+2<n)∨¬(xs.getD (2*i+2) 0<xs.getD (2*i+1) 0)):Ow n xs i (2*i+1):=by
 refine⟨Or.inl rfl,h1,fun k h0 hk hp=>?_⟩;have:k=2*i+1∨k=2*i+2:=by omega
 rcases this with rfl|rfl
 · omega
 · rcases h2 with h2|h2<;>omega
theorem bE {n:Nat}{xs:List Int}{i:Nat}(h1:2*i+2<n)(h2:xs.getD (2*i+2) 0<xs.getD (2*i+1) 0):Ow n xs i (2*i+2):=by
 refine⟨Or.inr rfl,h1,fun k h0 hk hp=>?_⟩;have:k=2*i+1∨k=2*i+2:=by omega
 rcases this with rfl|rfl<;>omega
theorem Oj {n:Nat}{xs:List Int}{i j:Nat}(h:Q3 n xs i)(hl:Ow n xs i j)(hj:¬xs.getD j 0<xs.getD i 0):Ed n xs:=by
 intro k h0 hk;by_cases e:(k-1)/2=i
 · have:=hl.2.2 k h0 hk e;rw[e];omega
 · exact h.1 k h0 hk e
theorem Oi {n:Nat}{xs:List Int}{i j:Nat}(h:Q3 n xs i)(hn:n≤xs.length)(hl:Ow n xs i j)(hlt:xs.getD j 0<xs.getD i 0):Q3 n (Qx xs i j) j:=by
 obtain⟨hc,hjn,hle⟩:=hl;have hil:i<xs.length:=by omega
 have hjl:j<xs.length:=by omega
 have hp:(j-1)/2=i:=by omega
 constructor
 · intro k h0 hk hkp;rw[FC hil hjl,FC hil hjl,if_neg hkp];by_cases p:(k-1)/2=i
   · rw[if_pos p];by_cases e:k=j
     · rw[if_pos e];omega
     · rw[if_neg e,if_neg (by omega)];exact hle k h0 hk p
   · rw[if_neg p];by_cases e:k=j
     · subst e;exact absurd hp p
     · rw[if_neg e];by_cases e2:k=i
       · rw[if_pos e2];have:=h.2 j (by omega) hjn hp (by omega);subst e2;exact this
       · rw[if_neg e2];exact h.1 k h0 hk p
 · intro k h0 hk hkp hj0;have h1:=h.1 k h0 hk (by omega);rw[FC hil hjl,FC hil hjl,hp,if_neg (by omega),if_pos rfl,if_neg (by omega),if_neg (by omega)];rw[hkp]at h1;exact h1
theorem bP {n:Nat}{xs:List Int}(h:Ed n xs):∀k,k<n→xs.getD 0 0≤xs.getD k 0:=by
 intro k
 induction k using Nat.strongRecOn with
 | ind k ih =>
  intro hk;by_cases e:k=0
  · subst e;exact Int.le_refl _
  · have h1:=ih ((k-1)/2) (by omega) (by omega);have h2:=h k (by omega) hk;omega
theorem qF {xs:List Int}(h:Ed xs.length xs){x:Int}(hx:x∈xs):xs.getD 0 0≤x:=by
 obtain⟨k,hk,rfl⟩:=List.getElem_of_mem hx;have:=bP h k hk;simpa[List.getD_eq_getElem?_getD,List.getElem?_eq_getElem hk]using this
theorem NG {xs ys:List Int}{k:Nat}(h:k<xs.length):(xs++ys).getD k 0=xs.getD k 0:=by
 simp[List.getD_eq_getElem?_getD,List.getElem?_append_left h]
theorem gV {xs:List Int}{n k:Nat}(h:k<n):(xs.take n).getD k 0=xs.getD k 0:=by
 simp[List.getD_eq_getElem?_getD,h]
theorem U5 {xs:List Int}(h:Ed xs.length xs)(x:Int):uO (xs++[x]) xs.length:=by
 constructor
 · intro k h0 hk hne;rw[A7,RP]at hk;rw[NG (by omega),NG (by omega)];exact h k h0 (by omega)
 · intro k h0 hk hp hj;rw[A7,RP]at hk;omega
theorem Zu {xs:List Int}{n:Nat}(hl:xs.length=n+1)(h:Ed xs.length xs):Q3 n (Qx xs 0 n) 0:=by
 constructor
 · intro k h0 hk hp;rw[FC (by omega) (by omega),FC (by omega) (by omega),if_neg (by omega),if_neg hp,if_neg (by omega),if_neg (by omega)];exact h k h0 (by omega)
 · intro k h0 hk hp hi;exact absurd hi (by omega)
theorem ku {n:Nat}{xs:List Int}(h:Ed n xs):Ed n (xs.take n):=fun k h0 hk=>by
 rw[gV (by omega),gV hk];exact h k h0 hk
theorem Y5:Ed ([]:List Int).length []:=fun k h0 hk=>absurd hk (by simp)
theorem iR {xs:List Int}{n:Nat}(hl:xs.length=n+1):xs=xs.take n++[xs.getD n 0]:=by
 have h:=(List.take_append_drop n xs).symm;have hd:xs.drop n=[xs.getD n 0]:=by
  rw[List.drop_eq_getElem_cons (by omega),List.drop_eq_nil_of_le (by omega)];simp[List.getD_eq_getElem?_getD,List.getElem?_eq_getElem (show n<xs.length by omega)]
 rw[hd]at h;exact h
def GH (l:List Bool):Nat→Nat→Nat
 | 0,_=>0
 | k+1,n=>if l.getD n true=false then n else GH l k (n+1)
def Ie (m:Nat)(l:List Bool):Nat:=GH l m 1
def Ja (l:List Bool):Nat→Nat→Nat
 | 0,_=>0
 | k+1,n=>(if l.getD n false=true then 1 else 0)+Ja l k (n+1)
def Kt (m:Nat)(l:List Bool):Nat:=Ja l m 1
theorem sJ (l:List Bool):∀k n,Ja l k n≤k
 | 0,_=>Ae _
 | k+1,n=>by
  have:=sJ l k (n+1);unfold Ja;split<;>omega
end Go.Proofs.YtdmkhmeaphaapaaGreat
namespace Go.Proofs.YtdmkhmeaphaapaaGreat
open Go.RowKit Go.Sort
def Dw (B:Nat)(w:World)(v:Value)(xs:List Int):Prop:=w.ownsRow B 3 1 v xs.length (xs.map (Value.int .i64))
theorem Dw.set {B g n cap i:Nat}{w:World}{xs:List Int}(x:Int)(h:Dw B w (.slice (some ⟨g,0,none⟩) n cap) xs):Dw B (w.setCell ⟨g,i,none⟩ (.int .i64 x)) (.slice (some ⟨g,0,none⟩) n cap) (xs.set i x):=by
 refine⟨by simp,?_⟩;rcases h.2 with⟨hv,_⟩|⟨g',cap',cur,hv,hg,hb,hn,hm,hs,ht⟩
 · cases hv
 · cases hv
   refine Or.inr ⟨g,cap,cur.setIfInBounds i (.int .i64 x),by simp,hg,?_,by simpa using hn,hm,by simpa using hs,?_⟩
   · rw[setCell_eq];simp[mapBlock,Array.getElem?_modify,hb,onCells]
   · rw[Array.toList_setIfInBounds,List.length_set,List.map_set,List.take_set,ht]
theorem Dw.cell {B g n cap j:Nat}{w:World}{xs:List Int}(h:Dw B w (.slice (some ⟨g,0,none⟩) n cap) xs)(hj:j<xs.length):w.cell? ⟨g,j,none⟩=some (.int .i64 (xs.getD j 0))∧w.frozen? ⟨g,j,none⟩=false:=by
 rcases h.2 with⟨hv,_⟩|⟨g',cap',cur,hv,hg,hb,hn,hm,hs,ht⟩
 · cases hv
 · cases hv
   refine⟨?_,BA hb j⟩;rw[Ap hb,←Array.getElem?_toList];have:=Gu (·[j]?) ht;simp only[Nat.mul_one,List.getElem?_take,if_pos hj]at this;rw[this];simp[List.getElem?_eq_getElem hj,List.getD_eq_getElem?_getD]
theorem Dw.below {B:Nat}{w w':World}{v:Value}{xs:List Int}(h:Dw B w v xs)(hb:Below w.heap.size w w'):Dw B w' v xs:=
 h.kept (row:=none) ⟨hb.os,hb.tape,hb.output,hb.size,fun k hk _=>hb.block k hk⟩ (by cases h:v.ownBlock with|none=>exact Or.inl rfl|some x=>exact Or.inr (by simp))
theorem Dw.head {B:Nat}{w:World}{v:Value}{xs:List Int}(h:Dw B w v xs)(hne:xs≠[]):∃g cap,v=.slice (some ⟨g,0,none⟩) xs.length cap∧B≤g∧g<w.heap.size∧xs.length≤cap:=by
 rcases h.2 with⟨hv,h0⟩|⟨g,cap,cur,hv,hg,hb,hn,hm,hs,ht⟩
 · exact absurd (Kw h0) hne
 · exact⟨g,cap,hv,hg,(h.lt g (by rw[hv];rfl)).2,hn⟩
theorem Dw.len {B:Nat}{w:World}{v:Value}{xs:List Int}(h:Dw B w v xs):∃a cap,v=.slice a xs.length cap:=by
 rcases h.2 with⟨hv,h0⟩|⟨g,cap,cur,hv,_⟩
 · exact⟨none,0,by rw[hv,h0]⟩
 · exact⟨_,cap,hv⟩
theorem Ll (w:World)(r:Option Nat):w.grownBy w r:=⟨rfl,rfl,rfl,Ae _,fun _ _ _=>rfl⟩
theorem Oe {a w:World}{r:Option Nat}(h:a.grownBy w r):a.grownBy w.drew r:=⟨h.os,h.tape,h.output,h.size,h.block⟩
theorem Py {B:Nat}{a w:World}(h:Below B a w):∀q,Below B a (w.drewN q)
 | 0=>h
 | q+1=>(Py h q).drew
theorem MF {a w:World}{r:Option Nat}{q:Nat}(h:(a.drewN q).grownBy w r):a.grownBy w r:=by
 have hb:=Py (Ad a.heap.size a) q;exact⟨h.os.trans hb.os,h.tape.trans hb.tape,h.output.trans hb.output,Ao hb.size h.size,fun k hk hne=>(h.block k (by have:=hb.size;omega) hne).trans (hb.block k hk)⟩
theorem VM {a w:World}{r:Option Nat}(h:a.grownBy w r){p:Addr}(hp:r=some p.block)(x:Value):a.grownBy (w.setCell p x) r:=
 ⟨h.os,h.tape,h.output,by simpa[World.setCell]using h.size,fun k hk hne=>by
  rw[Bw w p x k (fun e=>hne (by rw[hp,e]))];exact h.block k hk hne⟩
theorem YP (a:Option Addr)(n cap:Nat)(w:World):Calls Tryz.prog 152 #[.slice a n cap] w fun e w'=>e=.returned (.int .i64 n)∧w=w':=by
 go_enter Tryz.func152,Tryz.ntmps152;go_wp2;go_ret;exact⟨rfl,rfl⟩
set_option maxHeartbeats 1000000 in
theorem Tj (B g n cap i j:Nat)(xs:List Int)(w:World)(h:Dw B w (.slice (some ⟨g,0,none⟩) n cap) xs)(hn:xs.length=n)(hi:i<n)(hj:j<n)(b:Bool)(hb:decide (xs.getD i 0<xs.getD j 0)=b) :
 Calls Tryz.prog 238 #[.slice (some ⟨g,0,none⟩) n cap,.int .i64 i,.int .i64 j] w fun e w'=>e=.returned (.bool b)∧∃q,w'=w.drewN q:=by
 obtain⟨c1,_⟩:=h.cell (j:=i) (by omega);obtain⟨c2,_⟩:=h.cell (j:=j) (by omega);generalize xs.getD i 0=x at *;generalize xs.getD j 0=y at *;have hiz:(i:Int)<(n:Int):=by omega
 have hjz:(j:Int)<(n:Int):=by omega
 subst hb;clear hn h;go_enter Tryz.func238,Tryz.ntmps238;go_wp2;go_quiet (fail);go_wp2;go_ret;exact⟨rfl,_,rfl⟩
set_option maxHeartbeats 1000000 in
theorem WC (B g n cap i j:Nat)(xs:List Int)(w:World)(h:Dw B w (.slice (some ⟨g,0,none⟩) n cap) xs)(hB:B≤g)(hn:xs.length=n)(hi:i<n)(hj:j<n) :
 Calls Tryz.prog 240 #[.slice (some ⟨g,0,none⟩) n cap,.int .i64 i,.int .i64 j] w fun e w'=>e=.returned (.tuple #[])∧Dw B w' (.slice (some ⟨g,0,none⟩) n cap) (Qx xs i j)∧w.grownBy w' (some g):=by
 have h9:=h.cell (j:=i) (by omega);have h8:=h.cell (j:=j) (by omega);have HO:Hid (Dw B ((w.setCell ⟨g,i,none⟩ (.int .i64 (xs.getD j 0))).setCell ⟨g,j,none⟩ (.int .i64 (xs.getD i 0))).drew (.slice (some ⟨g,0,none⟩) n cap) (Qx xs i j)):=Aa (((h.set (xs.getD j 0)).set (xs.getD i 0)).below (Ad _ _).drew);have HBl:Hid (w.grownBy ((w.setCell ⟨g,i,none⟩ (.int .i64 (xs.getD j 0))).setCell ⟨g,j,none⟩ (.int .i64 (xs.getD i 0))).drew (some g)):=Aa (Oe (VM (VM (Ll w _) (p:=⟨g,i,none⟩) rfl _) (p:=⟨g,j,none⟩) rfl _));obtain⟨c1,f1⟩:=h9;obtain⟨c2,f2⟩:=h8;have hxy:i=j→xs.getD i 0=xs.getD j 0:=fun e=>by rw[e]
 generalize Qx xs i j=ys at *;generalize xs.getD i 0=x at *;generalize xs.getD j 0=y at *;have hiz:(i:Int)<(n:Int):=by omega
 have hjz:(j:Int)<(n:Int):=by omega
 by_cases hij:i=j
 · subst hij;obtain rfl:=hxy rfl;clear hn h hxy;go_enter Tryz.func240,Tryz.ntmps240;go_wp2;go_big_region
   all_goals go_wp2
   go_end0;exact⟨rfl,HO.out,HBl.out⟩
 · have hji:j≠i:=Ne.symm hij;clear hn h hxy;go_enter Tryz.func240,Tryz.ntmps240;go_wp2;go_big_region
   all_goals go_wp2
   go_end0;exact⟨rfl,HO.out,HBl.out⟩
structure GX (b:Nat)(r:Option Nat)(w0 w:World):Prop where
 os:w.os=w0.os
 tape:w.tape=w0.tape
 output:w.output=w0.output
 size:w0.heap.size≤w.heap.size
 block:∀k,k<w0.heap.size→k≠b→some k≠r→w.heap[k]?=w0.heap[k]?
theorem GX.refl (b:Nat)(r:Option Nat)(w:World):GX b r w w:=⟨rfl,rfl,rfl,Ae _,fun _ _ _ _=>rfl⟩
theorem GX.below {b B:Nat}{r:Option Nat}{w0 w:World}(h:GX b r w0 w)(hB:B≤b)(hs:B≤w0.heap.size)(hr:∀k,r=some k→B≤k):Below B w0 w:=
 ⟨h.os,h.tape,h.output,h.size,fun k hk=>h.block k (by omega) (by omega) (fun e=>by have:=hr k e.symm;omega)⟩
theorem GX.Ar {b:Nat}{r:Option Nat}{w0 w w':World}(h:GX b r w0 w)(hb:Below w.heap.size w w'):GX b r w0 w':=
 ⟨hb.os.trans h.os,hb.tape.trans h.tape,hb.output.trans h.output,Ao h.size hb.size,fun k hk h1 h2=>(hb.block k (by have:=h.size;omega)).trans (h.block k hk h1 h2)⟩
def O0 (m u:Nat)(v:Value):Array Value:=#[.int .i64 (m:Int),.int .i64 (u:Int),v]
structure EE (w0:World)(r:Option Nat)(m u b:Nat)(w:World)(v:Value)(xs:List Int):Prop where
 at':w.heap[b]?=some (.cells (O0 m u v) 94 (0,0))
 own:Dw (b+1) w v xs
 row:∀k,v.ownBlock=some k→some k=r∨w0.heap.size≤k
 keep:GX b r w0 w
theorem Ry {w:World}{b:Nat}{o:Obj}(h:w.heap[b]?=some o):b<w.heap.size:=(Array.getElem?_eq_some_iff.1 h).1
section
variable {w0 w w':World}{r:Option Nat}{m u b:Nat}{v v':Value}{xs ys:List Int}
theorem EE.cell (h:EE w0 r m u b w v xs):w.cell? ⟨b,2,none⟩=some v∧w.frozen? ⟨b,2,none⟩=false:=⟨by rw[Ap h.at'];rfl,BA h.at' 2⟩
theorem EE.cell1 (h:EE w0 r m u b w v xs):w.cell? ⟨b,1,none⟩=some (.int .i64 (u:Int))∧w.frozen? ⟨b,1,none⟩=false:=⟨by rw[Ap h.at'];rfl,BA h.at' 1⟩
theorem EE.lt (h:EE w0 r m u b w v xs):b<w.heap.size:=Ry h.at'
theorem EE.away (h:EE w0 r m u b w v xs):v.ownBlock≠some b:=fun e=>by have:=(h.own.lt b e).1;omega
theorem EE.drew (h:EE w0 r m u b w v xs):EE w0 r m u b w.drew v xs:=⟨h.at',h.own.below (Ad _ _).drew,h.row,⟨h.keep.os,h.keep.tape,h.keep.output,h.keep.size,h.keep.block⟩⟩
theorem EE.drewN (h:EE w0 r m u b w v xs)(q:Nat):EE w0 r m u b (w.drewN q) v xs:=by
 induction q with
 | zero=>exact h
 | succ q ih=>exact ih.drew
theorem GX.grown (h:GX b r w0 w)(hr:∀k,v.ownBlock=some k→some k=r∨w0.heap.size≤k)(hg:w.grownBy w' v.ownBlock):GX b r w0 w':=
 ⟨hg.os.trans h.os,hg.tape.trans h.tape,hg.output.trans h.output,Ao h.size hg.size,fun k hk h1 h2=>by
  rw[hg.block k (by have:=h.size;omega) (fun e=>by
   rcases hr k e.symm with h3|h3
   · exact h2 h3
   · omega)]
  exact h.block k hk h1 h2⟩
theorem EE.kept {g n cap:Nat}(h:EE w0 r m u b w (.slice (some ⟨g,0,none⟩) n cap) xs)(hg:w.grownBy w' (some g))(ho:Dw (b+1) w' (.slice (some ⟨g,0,none⟩) n cap) ys):EE w0 r m u b w' (.slice (some ⟨g,0,none⟩) n cap) ys:=
 ⟨by rw[hg.block b h.lt (fun e=>h.away e.symm)];exact h.at',ho,h.row,h.keep.grown h.row hg⟩
theorem EE.now (h:EE w0 r m u b w v xs):EE w v.ownBlock m u b w v xs:=⟨h.at',h.own,fun k hk=>Or.inl hk.symm,GX.refl _ _ _⟩
theorem GX.set (h:GX b r w0 w)(o:Nat)(x:Value):GX b r w0 (w.setCell ⟨b,o,none⟩ x):=
 ⟨h.os,h.tape,h.output,by have:=h.size;rw[setCell_eq];simpa[mapBlock]using this,fun k hk h1 h2=>by
  rw[Bw w ⟨b,o,none⟩ x k h1];exact h.block k hk h1 h2⟩
theorem Dw.far {B:Nat}(h:Dw B w v xs){o:Nat}{x:Value}(hb:v.ownBlock≠some b):Dw B (w.setCell ⟨b,o,none⟩ x) v xs:=
 World.ownsRow.kept (row:=some b) h ⟨rfl,rfl,rfl,by rw[setCell_eq];simp[mapBlock],fun k hk hne=>Bw w ⟨b,o,none⟩ x k (fun e=>hne (by rw[e]))⟩ (Or.inr hb)
theorem EE.put (h:EE w0 r m u b w v xs)(hg:w.grownBy w' v.ownBlock)(ho:Dw (b+1) w' v' ys)(hr:∀k,v'.ownBlock=some k→some k=v.ownBlock∨w.heap.size≤k):EE w0 r m u b (w'.setCell ⟨b,2,none⟩ v') v' ys:=by
 have hat:w'.heap[b]?=some (.cells (O0 m u v) 94 (0,0)):=by rw[hg.block b h.lt (fun e=>h.away e.symm)];exact h.at'
 refine⟨?_,ho.far (fun e=>by have:=(ho.lt b e).1;omega),fun k hk=>?_,(h.keep.grown h.row hg).set 2 v'⟩
 · rw[setCell_eq];simp[mapBlock,Array.getElem?_modify,hat,onCells,O0]
 · rcases hr k hk with h1|h1
   · exact h.row k h1.symm
   · right;have:=h.keep.size;omega
end
theorem jf (w:World)(a:Addr)(v:Value)(h:w.cell? a=some v):(loadVar 90 a).run Tryz.prog w=.ok v w:=by
 have hagg:(isAgg 90).run Tryz.prog w=.ok false w:=by kernel_rfl
 simp[loadVar,Sem.run_bind,hagg,h]
theorem WN (w:World)(b:Nat):(follow [⟨92,0,true⟩] 254 (.val (.pointer (some ⟨b,2,none⟩)))).run Tryz.prog w=.ok (90,.var ⟨b,2,none⟩) w:=by
 kernel_rfl
theorem OU (w:World)(a:Addr)(v:Value)(h:w.cell? a=some v)(o:Option String):(receiverAt 90 (.var a) false o).run Tryz.prog w=.ok v w:=by
 have hu:(underlying 90).run Tryz.prog w=.ok (.slice 3) w:=run_underlying Tryz.underlying90 w;have hn:=jf w a v h;simp only[receiverAt,Sem.run_bind,hu,Result.andThen_ok,Place.get,hn]
theorem Jz (name:String)(K:Nat)(hi:(Tryz.prog.info? 254).bind (fun i=>(i.methods.find? (·.name==name)).map fun m=>(m.path.toList,m.func))=some ([⟨92,0,true⟩],some (K,false)))(b:Nat)(v:Value)(w:World)(h:w.cell? ⟨b,2,none⟩=some v) :
 (method 411 254 (.pointer (some ⟨b,2,none⟩)) name).run Tryz.prog w=.ok (K,v) w:=by
 obtain⟨i,hi1,hi2⟩:=Iu.1 hi;obtain⟨m,hm1,hm2⟩:=Option.map_eq_some_iff.1 hi2;simp only[Prod.mk.injEq]at hm2;obtain⟨hp,hf⟩:=hm2;have hr:=fun o=>OU w ⟨b,2,none⟩ v h o
 have Aaw:=WN w b;rw[method.eq_2];simp only[Sem.run_bind,typeInfo,run_program,Result.andThen_ok,hi1,Sem.run_pure,hm1,hp,Aaw,hf,hr]
theorem KH (b:Nat)(v:Value)(w:World)(h:w.cell? ⟨b,2,none⟩=some v):(method 411 254 (.pointer (some ⟨b,2,none⟩)) "Less").run Tryz.prog w=.ok (238,v) w:=Jz "Less" _ (by kernel_rfl) b v w h
theorem KG (b:Nat)(v:Value)(w:World)(h:w.cell? ⟨b,2,none⟩=some v):(method 411 254 (.pointer (some ⟨b,2,none⟩)) "Swap").run Tryz.prog w=.ok (240,v) w:=Jz "Swap" _ (by kernel_rfl) b v w h
theorem O8 (b:Nat)(v:Value)(w:World)(h:w.cell? ⟨b,2,none⟩=some v):(method 411 254 (.pointer (some ⟨b,2,none⟩)) "Len").run Tryz.prog w=.ok (152,v) w:=Jz "Len" _ (by kernel_rfl) b v w h
theorem Qb (b:Nat)(w:World):(method 411 254 (.pointer (some ⟨b,2,none⟩)) "Push").run Tryz.prog w=.ok (243,.pointer (some ⟨b,2,none⟩)) w:=by kernel_rfl
end Go.Proofs.YtdmkhmeaphaapaaGreat
namespace Go.Proofs.YtdmkhmeaphaapaaGreat
def Gx (u:Nat)(ys:List Int)(n:Nat):Bool:=decide (1≤n∧n≤u∧(n:Int)∉ys)
def Bc (u:Nat)(ys:List Int):List Bool:=(List.range 201).map (Gx u ys)
theorem Gw (u:Nat)(ys:List Int):(Bc u ys).length=201:=by simp[Bc]
theorem Ia (u:Nat)(ys:List Int){n:Nat}(h:n≤200):(Bc u ys)[n]?=some (Gx u ys n):=by
 unfold Bc;rw[GZ,List.getElem?_range (by omega)];rfl
theorem F3 (u:Nat)(ys:List Int){n:Nat}(h:n≤200)(d:Bool):(Bc u ys).getD n d=Gx u ys n:=by
 rw[Gi,Ia u ys h];rfl
structure Fv (m u:Nat)(ys:List Int):Prop where
 um:u≤m
 Re:m≤200
 nd:ys.Nodup
 mem:∀y∈ys,1≤y∧y≤(u:Int)
 heap:Ed ys.length ys
theorem SV {u u':Nat}{ys ys':List Int}{j:Nat}{x:Bool}(hj:j≤200)(hx:Gx u' ys' j=x)(h:∀n,n≤200→n≠j→Gx u' ys' n=Gx u ys n):Bc u' ys'=(Bc u ys).set j x:=by
 apply List.ext_getElem?;intro n;by_cases hn:n≤200
 · rw[Ia u' ys' hn];by_cases e:n=j
   · subst e;rw[List.getElem?_set_self (by rw[Gw];omega),hx]
   · rw[Jr (fun e'=>e e'.symm),Ia u ys hn,h n hn e]
 · rw[List.getElem?_eq_none (by rw[Gw];omega),List.getElem?_eq_none (by rw[List.length_set,Gw];omega)]
theorem NW {l:List Bool}{j:Nat}(hj:l.getD j true=false):∀(k n:Nat),n≤j→j<n+k→(∀i,n≤i→i<j→l.getD i true=true)→GH l k n=j
 | 0,n,h1,h2,_=>by omega
 | k+1,n,h1,h2,h=>by
  unfold GH;by_cases e:n=j
  · subst e;rw[if_pos hj]
  · rw[if_neg (by rw[h n (Ae _) (by omega)];simp)];exact NW hj k (n+1) (by omega) (by omega) (fun i h3 h4=>h i (by omega) h4)
theorem Pd {l:List Bool}:∀(k n:Nat),(∀i,n≤i→i<n+k→l.getD i true=true)→GH l k n=0
 | 0,n,_=>rfl
 | k+1,n,h=>by
  unfold GH;rw[if_neg (by rw[h n (Ae _) (by omega)];simp)];exact Pd k (n+1) (fun i h3 h4=>h i (by omega) (by omega))
theorem Tk {l:List Bool}:∀(k n:Nat),GH l k n=0∨(n≤GH l k n∧GH l k n<n+k)
 | 0,n=>Or.inl rfl
 | k+1,n=>by
  unfold GH;split
  · right;omega
  · rcases Tk (l:=l) k (n+1) with h|h
    · exact Or.inl h
    · right;omega
theorem VA (m:Nat)(l:List Bool):Ie m l≤m:=by
 rcases Tk (l:=l) m 1 with h|h
 · unfold Ie;omega
 · unfold Ie;omega
theorem VZ {l:List Bool}{j:Nat}(hj:l[j]?=some true):∀(k n:Nat),n≤j→j<n+k→Ja (l.set j false) k n+1=Ja l k n
 | 0,n,h1,h2=>by omega
 | k+1,n,h1,h2=>by
  have hlt:j<l.length:=(DL.1 hj).1;unfold Ja;by_cases e:n=j
  · subst e;have hs:∀(k i:Nat),n<i→Ja (l.set n false) k i=Ja l k i:=by
     intro k
     induction k with
     | zero=>intro i _;rfl
     | succ k ih =>
      intro i hi;unfold Ja;rw[ih (i+1) (by omega)];simp only[List.getD_eq_getElem?_getD];rw[Jr (by omega)]
    rw[hs k (n+1) (by omega)];simp only[List.getD_eq_getElem?_getD,List.getElem?_set_self hlt,hj];simp;omega
  · have h5:=VZ hj k (n+1) (by omega) (by omega);have h6:(l.set j false).getD n false=l.getD n false:=by rw[Gi,Jr (fun e'=>e e'.symm),Gi]
    rw[h6];omega
theorem V3 {l:List Bool}{u:Nat}:∀(k n:Nat),(∀i,n≤i→i<n+k→l.getD i false=decide (i≤u))→n≤u+1→u<n+k→Ja l k n=u+1-n
 | 0,n,_,h1,h2=>by
  have:u+1-n=0:=by omega
  rw[this];rfl
 | k+1,n,h,h1,h2=>by
  unfold Ja;rw[h n (Ae _) (by omega)];by_cases e:n≤u
  · rw[A8 e,if_pos rfl];rw[V3 k (n+1) (fun i h3 h4=>h i (by omega) (by omega)) (by omega) (by omega)];omega
  · have hz:∀(k i:Nat),u<i→(∀q,i≤q→q<i+k→l.getD q false=decide (q≤u))→Ja l k i=0:=by
     intro k
     induction k with
     | zero=>intro i _ _;rfl
     | succ k ih =>
      intro i hi hq;unfold Ja;rw[hq i (Ae _) (by omega),Bb (by omega),if_neg (by simp),ih (i+1) (by omega) (fun q h3 h4=>hq q (by omega) (by omega))]
    rw[Bb e,if_neg (by simp),hz k (n+1) (by omega) (fun q h3 h4=>h q (by omega) (by omega))];omega
theorem Mk {u:Nat}{ys:List Int}{y:Int}(hy:y∉ys)(h1:1≤y)(h2:y≤(u:Int))(hu:u≤200):Bc u (y::ys)=(Bc u ys).set y.toNat false:=by
 refine SV (by omega) ?_ (fun n hn hne=>?_)
 · unfold Gx;rw[Bb];intro h;exact h.2.2 (by simp;omega)
 · unfold Gx;congr 1;apply propext;rw[Em,not_or];constructor
   · rintro⟨a,b,c,d⟩;exact⟨a,b,d⟩
   · rintro⟨a,b,d⟩;exact⟨a,b,by omega,d⟩
theorem Ql {m u:Nat}(um:u≤m)(hm:m≤200):∀(ys:List Int),ys.Nodup→(∀y∈ys,1≤y∧y≤(u:Int))→Kt m (Bc u ys)+ys.length=u
 | [],_,_=>by
  unfold Kt;by_cases hm0:m=0
  · subst hm0;have:u=0:=by omega
    subst this;rfl
  · rw[V3 (u:=u) m 1 (fun i h1 h2=>?_) (by omega) (by omega)]
    · simp
    · rw[F3 _ _ (by omega)];unfold Gx;congr 1;apply propext;simp;omega
 | y::ys,hn,hr=>by
  obtain⟨h1,h2⟩:=List.nodup_cons.1 hn;have hy:=hr y (by simp);have ih:=Ql um hm ys h2 (fun z hz=>hr z (by simp[hz]));rw[Mk h1 hy.1 hy.2 (by omega)];have hg:(Bc u ys)[y.toNat]?=some true:=by
   rw[Ia _ _ (by omega)];unfold Gx;rw[A8];exact⟨by omega,by omega,by rw[show((y.toNat:Nat):Int)=y by omega];exact h1⟩
  have:=VZ hg m 1 (by omega) (by omega);unfold Kt at *;rw[GY];omega
theorem QF {u:Nat}{ys zs:List Int}(h:ys.Perm zs):Bc u ys=Bc u zs:=by
 unfold Bc;congr 1;funext n;unfold Gx;congr 1;apply propext;rw[h.mem_iff]
section
variable {m u:Nat}{ys:List Int}
theorem Fv.count (h:Fv m u ys):Kt m (Bc u ys)+ys.length=u:=Ql h.um h.Re ys h.nd h.mem
theorem Fv.len (h:Fv m u ys):ys.length≤200:=by have:=h.count;have:=h.um;have:=h.Re;omega
theorem Fv.take {zs:List Int}(h:Fv m u ys)(hp:ys.Perm (ys.getD 0 0::zs))(hz:Ed zs.length zs):∃n:Nat,ys.getD 0 0=(n:Int)∧1≤n∧Ie m (Bc u ys)=n∧Fv m u zs∧Bc u zs=(Bc u ys).set n true:=by
 generalize hx:ys.getD 0 0=x at *;have hxm:x∈ys:=hp.mem_iff.2 (by simp);obtain⟨h1,h2⟩:=h.mem x hxm;have hnd:=h.nd;rw[hp.nodup_iff,List.nodup_cons]at hnd;have hu:=h.um;have hm:=h.Re;refine⟨x.toNat,by omega,by omega,?_,⟨h.um,h.Re,hnd.2,fun y hy=>h.mem y (hp.mem_iff.2 (by simp[hy])),hz⟩,?_⟩
 · refine NW ?_ m 1 (by omega) (by omega) (fun i h3 h4=>?_)
   · rw[F3 _ _ (by omega)];unfold Gx;rw[Bb];intro hh;exact hh.2.2 (by rw[show((x.toNat:Nat):Int)=x by omega];exact hxm)
   · rw[F3 _ _ (by omega)];unfold Gx;rw[A8];refine⟨h3,by omega,fun hi=>?_⟩;have:=qF h.heap hi;omega
 · rw[QF (u:=u) hp];rw[Mk hnd.1 h1 h2 (by omega),List.set_set];apply List.ext_getElem?;intro n;by_cases e:x.toNat=n
   · subst e;rw[List.getElem?_set_self (by rw[Gw];omega),Ia _ _ (by omega)];unfold Gx;rw[A8];exact⟨by omega,by omega,by rw[show((x.toNat:Nat):Int)=x by omega];exact hnd.1⟩
   · rw[Jr e]
theorem Fv.full (h:Fv m u [])(e:u=m):Ie m (Bc u [])=0:=by
 refine Pd m 1 (fun i h1 h2=>?_);have:=h.Re;rw[F3 _ _ (by omega)];unfold Gx;rw[A8];exact⟨h1,by omega,by simp⟩
theorem Fv.next (h:Fv m u [])(e:u≠m):Ie m (Bc u [])=u+1∧Fv m (u+1) []∧Bc (u+1) []=(Bc u []).set (u+1) true:=by
 have hu:=h.um;have hm:=h.Re;refine⟨?_,⟨by omega,h.Re,h.nd,fun y hy=>(by cases hy),h.heap⟩,?_⟩
 · refine NW ?_ m 1 (by omega) (by omega) (fun i h3 h4=>?_)
   · rw[F3 _ _ (by omega)];unfold Gx;rw[Bb];omega
   · rw[F3 _ _ (by omega)];unfold Gx;rw[A8];exact⟨h3,by omega,by simp⟩
 · refine SV (by omega) ?_ (fun n hn hne=>?_)
   · unfold Gx;rw[A8];exact⟨by omega,by omega,by simp⟩
   · unfold Gx;congr 1;apply propext;constructor
     · rintro⟨a,b,c⟩;exact⟨a,by omega,c⟩
     · rintro⟨a,b,c⟩;exact⟨a,by omega,c⟩
def Tu (m:Nat)(l:List Bool)(n:Int):Bool:=decide (1≤n)&&decide (n≤(m:Int))&&l.getD n.toNat false
theorem Fv.Tu (h:Fv m u ys)(n:Int):Tu m (Bc u ys) n=decide (1≤n∧n≤(u:Int)∧n∉ys):=by
 have hu:=h.um;have hm:=h.Re;unfold Go.Proofs.YtdmkhmeaphaapaaGreat.Tu;by_cases h1:1≤n
 · by_cases h2:n≤(m:Int)
   · rw[A8 h1,A8 h2,F3 _ _ (by omega)];unfold Gx;rw[show((n.toNat:Nat):Int)=n by omega];simp only[Bool.true_and];congr 1;apply propext;constructor
     · rintro⟨a,b,c⟩;exact⟨h1,by omega,c⟩
     · rintro⟨a,b,c⟩;exact⟨by omega,by omega,c⟩
   · have hr:decide (1≤n∧n≤(u:Int)∧n∉ys)=false:=Bb (fun h=>by omega);rw[hr,Bb h2];simp
 · have hr:decide (1≤n∧n≤(u:Int)∧n∉ys)=false:=Bb (fun h=>h1 h.1);rw[hr,Bb h1];simp
theorem Fv.give {zs:List Int}{n:Int}(h:Fv m u ys)(h1:1≤n)(h2:n≤(u:Int))(h3:n∉ys)(hp:zs.Perm (n::ys))(hz:Ed zs.length zs):Fv m u zs∧Bc u zs=(Bc u ys).set n.toNat false:=by
 have hu:=h.um;have hm:=h.Re;refine⟨⟨h.um,h.Re,hp.nodup_iff.2 (List.nodup_cons.2 ⟨h3,h.nd⟩),fun y hy=>?_,hz⟩,?_⟩
 · rcases Em.1 (hp.mem_iff.1 hy) with rfl|hy
   · exact⟨h1,h2⟩
   · exact h.mem y hy
 · rw[QF (u:=u) hp];exact Mk h3 h1 h2 (by omega)
end
end Go.Proofs.YtdmkhmeaphaapaaGreat
