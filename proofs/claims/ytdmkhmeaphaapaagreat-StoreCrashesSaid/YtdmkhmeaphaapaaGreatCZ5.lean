/- Kit. -/
import Derived.Test.YtdmkhmeaphaapaaGreatCZ1
import Derived.Test.YtdmkhmeaphaapaaGreatCZ4
import Derived.Test.YtdmkhmeaphaapaaGreatCZ0
import Derived.Shelf.Strings.Builder1
import Derived.Shelf.Strings.Builder2
import Derived.Shelf.Small.Utf8
import Derived.Shelf.Small.Strs
import Derived.Shelf.Strings.BuilderF
import Derived.Shelf.Strings.BuilderK
import Derived.Shelf.LaysM
import Derived.Shelf.Strconv.Clone
import Derived.Shelf.Strings.Search1
import Derived.Shelf.Strings.Prefix
import Derived.Shelf.Strings.Runes
import Derived.Shelf.Strings.IndexAny
import Derived.Shelf.Strings.AsciiSet
import Derived.Shelf.Strings.IndexAnyAll
import Derived.Shelf.Bits.Mul64
import Derived.Shelf.Strings.Repeat
import Derived.Ground.Names2Prog
import Derived.Shelf.Slices.Clone
import Derived.Test.YtdmkhmeaphaapaaGreatProg
set_option maxRecDepth 100000
set_option linter.unusedVariables false
set_option linter.unusedSimpArgs false
namespace Go.Proofs.YtdmkhmeaphaapaaGreat
open Go.RowKit Go.Sort
structure Trod (w w':World)(S S':Nat→Prop):Prop where
 os:w'.os=w.os
 tape:w'.tape=w.tape
 output:w'.output=w.output
 size:w.heap.size≤w'.heap.size
 rest:∀k,k<w.heap.size→¬S k→w'.heap[k]?=w.heap[k]?
 sub:∀k,S' k→S k∨w.heap.size≤k
theorem Trod.of_below {w w':World}{S:Nat→Prop}(h:Below w.heap.size w w'):Trod w w' S S:=⟨h.os,h.tape,h.output,h.size,fun k hk _=>h.block k hk,fun _ h=>Or.inl h⟩
theorem Trod.trans {w w1 w2:World}{S S1 S2:Nat→Prop}(h:Trod w w1 S S1)(h':Trod w1 w2 S1 S2):Trod w w2 S S2:=by
 refine⟨h'.os.trans h.os,h'.tape.trans h.tape,h'.output.trans h.output,Ao h.size h'.size,fun k hk hs=>?_,fun k hk=>?_⟩
 · rw[h'.rest k (Nat.lt_of_lt_of_le hk h.size) (fun h1=>(h.sub k h1).elim hs (by omega))];exact h.rest k hk hs
 · rcases h'.sub k hk with h1|h1
   · exact h.sub k h1
   · exact Or.inr (Ao h.size h1)
theorem Trod.low {w w':World}{S S':Nat→Prop}{B:Nat}(h:Trod w w' S S')(hB:B≤w.heap.size)(hS:∀k,S k→B≤k):Below B w w'∧∀k,S' k→B≤k:=
 ⟨⟨h.os,h.tape,h.output,h.size,fun k hk=>h.rest k (by omega) (fun h1=>by have:=hS k h1;omega)⟩,fun k hk=>(h.sub k hk).elim (hS k) (fun h1=>by omega)⟩
structure GV (cs:Array Value)(K:Nat→Int)(R:Nat→Value)(u:Nat)(v:Value)(c:Int):Prop where
 size:cs.size=406
 kind:∀n,n≤200→cs[n*2]?=some (.int .i64 (K n))
 row:∀n,n≤200→cs[n*2+1]?=some (R n)
 most:cs[402]?=some (.int .i64 ((200:Nat):Int))
 used:cs[403]?=some (.int .i64 (u:Int))
 wait:cs[404]?=some v
 Ho:cs[405]?=some (.int .i64 c)
def upd {α:Type}(f:Nat→α)(k:Nat)(x:α):Nat→α:=fun n=>if n=k then x else f n
theorem upd_same {α:Type}(f:Nat→α)(k:Nat)(x:α):upd f k x k=x:=if_pos rfl
theorem upd_ne {α:Type}(f:Nat→α){k n:Nat}(x:α)(h:n≠k):upd f k x n=f n:=if_neg h
theorem R9 {α:Type}(f:Nat→α)(k:Nat):upd f k (f k)=f:=by
 funext n;unfold upd;split
 · rename_i h;rw[h]
 · rfl
section
variable {cs:Array Value}{K:Nat→Int}{R:Nat→Value}{u:Nat}{v:Value}{c:Int}
theorem GV.setKind (h:GV cs K R u v c){k:Nat}(hk:k≤200)(x:Int):GV (cs.setIfInBounds (k*2) (.int .i64 x)) (upd K k x) R u v c:=by
 have hs:=h.size;have hne:∀j,j≠k*2→(cs.setIfInBounds (k*2) (.int .i64 x))[j]?=cs[j]?:=fun j hj=>by rw[LF (fun e=>hj e.symm)]
 refine⟨by simp[hs],fun n hn=>?_,fun n hn=>by rw[hne _ (by omega)];exact h.row n hn,by rw[hne _ (by omega)];exact h.most,by rw[hne _ (by omega)];exact h.used,by rw[hne _ (by omega)];exact h.wait,by rw[hne _ (by omega)];exact h.Ho⟩;by_cases e:n=k
 · subst e;rw[upd_same,Qu (by omega)]
 · rw[upd_ne _ _ e,hne _ (by omega)];exact h.kind n hn
theorem GV.setRow (h:GV cs K R u v c){k:Nat}(hk:k≤200)(x:Value):GV (cs.setIfInBounds (k*2+1) x) K (upd R k x) u v c:=by
 have hs:=h.size;have hne:∀j,j≠k*2+1→(cs.setIfInBounds (k*2+1) x)[j]?=cs[j]?:=fun j hj=>by rw[LF (fun e=>hj e.symm)]
 refine⟨by simp[hs],fun n hn=>by rw[hne _ (by omega)];exact h.kind n hn,fun n hn=>?_,by rw[hne _ (by omega)];exact h.most,by rw[hne _ (by omega)];exact h.used,by rw[hne _ (by omega)];exact h.wait,by rw[hne _ (by omega)];exact h.Ho⟩;by_cases e:n=k
 · subst e;rw[upd_same,Qu (by omega)]
 · rw[upd_ne _ _ e,hne _ (by omega)];exact h.row n hn
theorem GV.Rt (h:GV cs K R u v c)(x:Int):GV (cs.setIfInBounds 405 (.int .i64 x)) K R u v x:=by
 have hs:=h.size;have hne:∀j,j≠405→(cs.setIfInBounds 405 (.int .i64 x))[j]?=cs[j]?:=fun j hj=>by rw[LF (fun e=>hj e.symm)]
 exact⟨by simp[hs],fun n hn=>by rw[hne _ (by omega)];exact h.kind n hn,fun n hn=>by rw[hne _ (by omega)];exact h.row n hn,by rw[hne _ (by omega)];exact h.most,by rw[hne _ (by omega)];exact h.used,by rw[hne _ (by omega)];exact h.wait,by rw[Qu (by omega)]⟩
theorem GV.pool (h:GV cs K R u v c)(u':Nat)(v':Value):GV (Q0.ES cs 200 u' v') K R u' v' c:=by
 have hg:=Q0.Dy cs 200 u' v' h.size;refine⟨by rw[Q0.GR];exact h.size,fun n hn=>?_,fun n hn=>?_,by rw[hg];rfl,by rw[hg];rfl,by rw[hg];rfl,by rw[hg];exact h.Ho⟩
 · rw[hg,if_neg (by omega),if_neg (by omega),if_neg (by omega)];exact h.kind n hn
 · rw[hg,if_neg (by omega),if_neg (by omega),if_neg (by omega)];exact h.row n hn
theorem GV.patch (h:GV cs K R u v c):Q0.ES cs 200 u v=cs:=by
 apply Q0.Lb (by rw[Q0.GR]);intro k _;rw[Q0.Dy _ _ _ _ h.size]
 repeat' split
 · rename_i e;rw[e,h.wait]
 · rename_i e;rw[e,h.used]
 · rename_i e;rw[e,h.most]
 · rfl
end
theorem AV {w w':World}{B:Nat}{T:TypeId}{c:Nat}{v:Value}{n:Nat}{xs:List Value}(h:w.ownsRow B T c v n xs)(hk:∀g,v.ownBlock=some g→w'.heap[g]?=w.heap[g]?):w'.ownsRow B T c v n xs:=by
 refine⟨h.1,?_⟩;rcases h.2 with h1|⟨g,cap,cur,hv,hg,hb,h1⟩
 · exact Or.inl h1
 · exact Or.inr ⟨g,cap,cur,hv,hg,by rw[hk g (by rw[hv];rfl)];exact hb,h1⟩
theorem CJ {w:World}{B:Nat}{T:TypeId}{c:Nat}{v:Value}{n:Nat}{xs:List Value}(h:w.ownsRow B T c v n xs){g:Nat}(hg:v.ownBlock=some g):∃cur,w.heap[g]?=some (.cells cur T (0,0)):=by
 rcases h.2 with⟨hv,_⟩|⟨g',cap,cur,hv,_,hb,_⟩
 · rw[hv]at hg;cases hg
 · rw[hv]at hg;obtain rfl:=BS hg;exact⟨_,hb⟩
def DV (b:Nat)(R:Nat→Value)(v:Value):Nat→Prop:=fun k=>k=b∨(∃n,n≤200∧(R n).ownBlock=some k)∨v.ownBlock=some k
structure TM (w:World)(b:Nat)(K:Nat→Int)(E:Nat→List Br)(R:Nat→Value)(u:Nat)(v:Value)(ys:List Int)(c:Int):Prop where
 cells:∃cs,w.heap[b]?=some (.cells cs 96 (0,0))∧GV cs K R u v c
 rows:∀n,n≤200→w.ownsRow (b+1) 112 5 (R n) (E n).length ((E n).flatMap DU)
 apart:∀i j g,i≤200→j≤200→(R i).ownBlock=some g→(R j).ownBlock=some g→i=j
 own:Dw (b+1) w v ys
 good:Fv 200 u ys
namespace TM
variable {w w':World}{b:Nat}{K:Nat→Int}{E:Nat→List Br}{R:Nat→Value}{u:Nat}{v:Value}{ys:List Int}{c:Int}
theorem blt (h:TM w b K E R u v ys c):b<w.heap.size:=by
 obtain⟨cs,hc,_⟩:=h.cells;exact Ab hc
theorem lt (h:TM w b K E R u v ys c):∀k,DV b R v k→b≤k∧k<w.heap.size:=by
 rintro k (rfl|⟨n,hn,hg⟩|hg)
 · exact⟨Ae _,h.blt⟩
 · have:=(h.rows n hn).lt k hg;exact⟨by omega,this.2⟩
 · have:=World.ownsRow.lt h.own k hg;exact⟨by omega,this.2⟩
theorem kept (h:TM w b K E R u v ys c)(hk:∀k,DV b R v k→w'.heap[k]?=w.heap[k]?):TM w' b K E R u v ys c:=by
 obtain⟨cs,hc,ho⟩:=h.cells;exact⟨⟨cs,by rw[hk b (Or.inl rfl)];exact hc,ho⟩,fun n hn=>AV (h.rows n hn) fun g hg=>hk g (Or.inr (Or.inl ⟨n,hn,hg⟩)),h.apart,AV h.own fun g hg=>hk g (Or.inr (Or.inr hg)),h.good⟩
theorem below (h:TM w b K E R u v ys c)(hb:Below w.heap.size w w'):TM w' b K E R u v ys c:=h.kept fun k hk=>hb.block k (h.lt k hk).2
theorem LH (h:TM w b K E R u v ys c){n:Nat}(hn:n≤200):w.cell? ⟨b,n*2,none⟩=some (.int .i64 (K n))∧w.frozen? ⟨b,n*2,none⟩=false:=by
 obtain⟨cs,hc,ho⟩:=h.cells;exact⟨by rw[AB _ _ _ _ _ _ hc];exact ho.kind n hn,BA hc _⟩
theorem FH (h:TM w b K E R u v ys c){n:Nat}(hn:n≤200):w.cell? ⟨b,n*2+1,none⟩=some (R n)∧w.frozen? ⟨b,n*2+1,none⟩=false:=by
 obtain⟨cs,hc,ho⟩:=h.cells;exact⟨by rw[AB _ _ _ _ _ _ hc];exact ho.row n hn,BA hc _⟩
theorem MI (h:TM w b K E R u v ys c):w.cell? ⟨b,405,none⟩=some (.int .i64 c)∧w.frozen? ⟨b,405,none⟩=false:=by
 obtain⟨cs,hc,ho⟩:=h.cells;exact⟨by rw[AB _ _ _ _ _ _ hc];exact ho.Ho,BA hc _⟩
theorem Fy (h:TM w b K E R u v ys c){n:Nat}(hn:n≤200):DD w (R n) (E n):=AL.own (Eb _) (h.rows n hn) rfl
theorem fD (h:TM w b K E R u v ys c){n g:Nat}(hn:n≤200)(hg:(R n).ownBlock=some g):v.ownBlock≠some g:=fun e=>by
 obtain⟨c1,h1⟩:=CJ (h.rows n hn) hg;obtain⟨c2,h2⟩:=CJ h.own e;exact Ci h1 h2 (by decide) rfl
theorem Jh (h:TM w b K E R u v ys c)(o:Nat)(x:Value)(R':Nat→Value)(v':Value)(hR:∀k,DV b R' v' k→DV b R v k∨w.heap.size≤k):Trod w (w.setCell ⟨b,o,none⟩ x) (DV b R v) (DV b R' v'):=
 ⟨rfl,rfl,rfl,by simp[World.setCell],fun k hk hs=>Bw _ _ _ _ (fun e=>hs (Or.inl e)),hR⟩
theorem setKind (h:TM w b K E R u v ys c){k:Nat}(hk:k≤200)(x:Int):TM (w.setCell ⟨b,k*2,none⟩ (.int .i64 x)) b (upd K k x) E R u v ys c:=by
 obtain⟨cs,hc,ho⟩:=h.cells;have hf:∀g,b+1≤g→(w.setCell ⟨b,k*2,none⟩ (.int .i64 x)).heap[g]?=w.heap[g]?:=fun g hg=>Bw _ _ _ _ (by show g≠b;omega)
 exact⟨⟨_,Bn w b (k*2) _ _ _ hc,ho.setKind hk x⟩,fun n hn=>AV (h.rows n hn) fun g hg=>hf g ((h.rows n hn).lt g hg).1,h.apart,AV h.own fun g hg=>hf g (World.ownsRow.lt h.own g hg).1,h.good⟩
theorem Rt (h:TM w b K E R u v ys c)(x:Int):TM (w.setCell ⟨b,405,none⟩ (.int .i64 x)) b K E R u v ys x:=by
 obtain⟨cs,hc,ho⟩:=h.cells;have hf:∀g,b+1≤g→(w.setCell ⟨b,405,none⟩ (.int .i64 x)).heap[g]?=w.heap[g]?:=fun g hg=>Bw _ _ _ _ (by show g≠b;omega)
 exact⟨⟨_,Bn w b 405 _ _ _ hc,ho.Rt x⟩,fun n hn=>AV (h.rows n hn) fun g hg=>hf g ((h.rows n hn).lt g hg).1,h.apart,AV h.own fun g hg=>hf g (World.ownsRow.lt h.own g hg).1,h.good⟩
theorem setRow (h:TM w b K E R u v ys c){k:Nat}(hk:k≤200)(hg:w.grownBy w' (R k).ownBlock){r:Value}{l:List Br}(hr:w'.ownsRow (b+1) 112 5 r l.length (l.flatMap DU))(ha:∀g,r.ownBlock=some g→(R k).ownBlock=some g∨w.heap.size≤g) :
 TM (w'.setCell ⟨b,k*2+1,none⟩ r) b K (upd E k l) (upd R k r) u v ys c∧Trod w (w'.setCell ⟨b,k*2+1,none⟩ r) (DV b R v) (DV b (upd R k r) v):=by
 obtain⟨cs,hc,ho⟩:=h.cells;have hbk:w'.heap[b]?=w.heap[b]?:=hg.block b h.blt (fun e=>by have:=((h.rows k hk).lt b e.symm).1;omega);have hf:∀g,b+1≤g→(w'.setCell ⟨b,k*2+1,none⟩ r).heap[g]?=w'.heap[g]?:=fun g hg=>Bw _ _ _ _ (by show g≠b;omega)
 refine⟨⟨⟨_,Bn w' b (k*2+1) _ _ _ (hbk.trans hc),ho.setRow hk r⟩,fun n hn=>?_,fun i j g hi hj h1 h2=>?_,?_,h.good⟩,⟨hg.os,hg.tape,hg.output,?_,fun q hq hs=>?_,?_⟩⟩
 · by_cases e:n=k
   · subst e;rw[upd_same,upd_same];exact AV hr fun g hgg=>hf g (hr.lt g hgg).1
   · rw[upd_ne _ _ e,upd_ne _ _ e];refine AV (h.rows n hn) fun g hgg=>?_
     have hl:=(h.rows n hn).lt g hgg;rw[hf g hl.1];exact hg.block g hl.2 (fun e2=>e (h.apart n k g hn hk hgg e2.symm))
 · by_cases e1:i=k
   · by_cases e2:j=k
     · rw[e1,e2]
     · rw[e1,upd_same]at h1;rw[upd_ne _ _ e2]at h2;rcases ha g h1 with h3|h3
       · exact absurd (h.apart j k g hj hk h2 h3) e2
       · have:=((h.rows j hj).lt g h2).2;omega
   · rw[upd_ne _ _ e1]at h1;by_cases e2:j=k
     · rw[e2,upd_same]at h2;rcases ha g h2 with h3|h3
       · exact absurd (h.apart i k g hi hk h1 h3) e1
       · have:=((h.rows i hi).lt g h1).2;omega
     · rw[upd_ne _ _ e2]at h2;exact h.apart i j g hi hj h1 h2
 · refine AV h.own fun g hgg=>?_
   have hl:=World.ownsRow.lt h.own g hgg;rw[hf g hl.1];exact hg.block g hl.2 (fun e2=>h.fD hk e2.symm hgg)
 · simpa[World.setCell]using hg.size
 · rw[Bw _ _ _ _ (fun e=>hs (Or.inl e))];exact hg.block q hq (fun e=>hs (Or.inr (Or.inl ⟨k,hk,e.symm⟩)))
 · rintro q (hq|⟨n,hn,hq⟩|hq)
   · exact Or.inl (Or.inl hq)
   · by_cases e:n=k
     · subst e;rw[upd_same]at hq;rcases ha q hq with h3|h3
       · exact Or.inl (Or.inr (Or.inl ⟨n,hn,h3⟩))
       · exact Or.inr h3
     · rw[upd_ne _ _ e]at hq;exact Or.inl (Or.inr (Or.inl ⟨n,hn,hq⟩))
   · exact Or.inl (Or.inr (Or.inr hq))
theorem box (h:TM w b K E R u v ys c):Q0.EE w v.ownBlock 200 u b w v ys:=by
 obtain⟨cs,hc,ho⟩:=h.cells;exact⟨⟨cs,hc,ho.size,by rw[ho.patch];exact hc⟩,h.own,fun k hk=>Or.inl hk.symm,GX.refl _ _ _⟩
theorem SK (h:TM w b K E R u v ys c):Q0.Dr w v.ownBlock 200 b w v (Bc u ys):=⟨u,ys,h.box,h.good,rfl⟩
theorem pool (h:TM w b K E R u v ys c){v':Value}{l:List Bool}(hp:Q0.Dr w v.ownBlock 200 b w' v' l):∃u' ys',TM w' b K E R u' v' ys' c∧l=Bc u' ys'∧Trod w w' (DV b R v) (DV b R v'):=by
 obtain⟨u',ys',hb,hg,rfl⟩:=hp;obtain⟨cs,hc,ho⟩:=h.cells;obtain⟨cs',hc1,_,hc2⟩:=hb.at';rw[hc]at hc1;injection hc1 with hc1;injection hc1 with hc1;subst hc1;refine⟨u',ys',⟨⟨_,hc2,ho.pool u' v'⟩,fun n hn=>?_,h.apart,hb.own,hg⟩,rfl,⟨hb.keep.os,hb.keep.tape,hb.keep.output,hb.keep.size,fun k hk hs=>hb.keep.block k hk (fun e=>hs (Or.inl e)) (fun e=>hs (Or.inr (Or.inr e.symm))),?_⟩⟩
 · refine AV (h.rows n hn) fun g hgg=>?_
   have hl:=(h.rows n hn).lt g hgg;exact hb.keep.block g hl.2 (by omega) (fun e=>h.fD hn hgg e.symm)
 · rintro k (hk|hk|hk)
   · exact Or.inl (Or.inl hk)
   · exact Or.inl (Or.inr (Or.inl hk))
   · rcases hb.row k hk with h1|h1
     · exact Or.inl (Or.inr (Or.inr h1.symm))
     · exact Or.inr h1
end TM
end Go.Proofs.YtdmkhmeaphaapaaGreat
namespace Go.Proofs
open Go.Shelf
def Tryz.YU:Go.Shelf.Ren:=⟨fun|137=>216|217=>220|266=>221|n=>n,fun|9=>9|5=>5|3=>3|n=>n,fun|n=>n⟩
theorem Tryz.wN:Go.Proofs.Lays.n137 Tryz.prog Tryz.YU:={
 mixed:=by kernel_rfl
 f137:=Tryz.func216.trans (congrArg some (by kernel_rfl))
 f217:=Tryz.func220.trans (congrArg some (by kernel_rfl))
 f266:=Tryz.func221.trans (congrArg some (by kernel_rfl))
 t3:=Tryz.underlying3
 a3:=Tryz.isAgg3
 z3:=Tryz.sizeOf3
 v3:=Tryz.zeroValue3
 t5:=Tryz.underlying5
 a5:=Tryz.isAgg5
 z5:=Tryz.sizeOf5
 v5:=Tryz.zeroValue5
 t9:=Tryz.underlying9
 a9:=Tryz.isAgg9
 z9:=Tryz.sizeOf9
 v9:=Tryz.zeroValue9 }
open Go.RowKit in
theorem Tryz.strings_IndexByte (s:ByteArray)(c:Int)(w:World) :
 Calls Tryz.prog 216 #[.string s,.int .u8 c] w fun e w'=>e=.returned (.int .i64 (Lib.indexByte s.data.toList c.toNat.toUInt8))∧w'=w:=Any.strings_IndexByte Tryz.wN s c w
def Tryz.Xc:Go.Shelf.Ren:=⟨fun|316=>96|n=>n,fun|9=>9|3=>3|4=>4|37=>121|0=>0|127=>223|5=>5|n=>n,fun|n=>n⟩
theorem Tryz.qa:Go.Proofs.LaysM.n316 Tryz.prog Tryz.Xc:={
 mixed:=by kernel_rfl
 f316:=Tryz.func96.trans (congrArg some (by kernel_rfl))
 t0:=Tryz.underlying0
 a0:=Tryz.isAgg0
 z0:=Tryz.sizeOf0
 v0:=Tryz.zeroValue0
 t3:=Tryz.underlying3
 a3:=Tryz.isAgg3
 z3:=Tryz.sizeOf3
 v3:=Tryz.zeroValue3
 t4:=Tryz.underlying4
 a4:=Tryz.isAgg4
 z4:=Tryz.sizeOf4
 v4:=Tryz.zeroValue4
 t9:=Tryz.underlying9
 a9:=Tryz.isAgg9
 z9:=Tryz.sizeOf9
 v9:=Tryz.zeroValue9
 t37:=Tryz.underlying121
 a37:=Tryz.isAgg121
 z37:=Tryz.sizeOf121
 v37:=Tryz.zeroValue121
 t127:=Tryz.underlying223
 a127:=Tryz.isAgg223
 z127:=Tryz.sizeOf223
 v127:=Tryz.zeroValue223
 t5:=Tryz.underlying5
 a5:=Tryz.isAgg5
 z5:=Tryz.sizeOf5
 v5:=Tryz.zeroValue5
 i0:=by kernel_rfl
 i3:=by kernel_rfl
 i4:=by kernel_rfl
 i5:=by kernel_rfl
 i9:=by kernel_rfl
 i37:=by kernel_rfl
 i127:=by kernel_rfl }
open Go.RowKit in
theorem Tryz.stringslite_Clone (s:ByteArray)(w:World)(hlim:s.size≤281474976710656) :
 Calls Tryz.prog 96 #[.string s] w fun e w'=>e=.returned (.string s)∧Below w.heap.size w w':=Any.stringslite_Clone Tryz.qa s w hlim
def Tryz.YT:Go.Shelf.Ren:=⟨fun|152=>212|137=>216|119=>217|224=>218|225=>219|217=>220|266=>221|n=>n,fun|9=>9|21=>21|3=>3|4=>4|5=>5|0=>0|46=>179|n=>n,fun|n=>n⟩
theorem Tryz.wM:Go.Proofs.Lays.n152 Tryz.prog Tryz.YT:={
 mixed:=by kernel_rfl
 f119:=Tryz.func217.trans (congrArg some (by kernel_rfl))
 f137:=Tryz.func216.trans (congrArg some (by kernel_rfl))
 f152:=Tryz.func212.trans (congrArg some (by kernel_rfl))
 f217:=Tryz.func220.trans (congrArg some (by kernel_rfl))
 f224:=Tryz.func218.trans (congrArg some (by kernel_rfl))
 f225:=Tryz.func219.trans (congrArg some (by kernel_rfl))
 f266:=Tryz.func221.trans (congrArg some (by kernel_rfl))
 t0:=Tryz.underlying0
 a0:=Tryz.isAgg0
 z0:=Tryz.sizeOf0
 v0:=Tryz.zeroValue0
 t3:=Tryz.underlying3
 a3:=Tryz.isAgg3
 z3:=Tryz.sizeOf3
 v3:=Tryz.zeroValue3
 t4:=Tryz.underlying4
 a4:=Tryz.isAgg4
 z4:=Tryz.sizeOf4
 v4:=Tryz.zeroValue4
 t5:=Tryz.underlying5
 a5:=Tryz.isAgg5
 z5:=Tryz.sizeOf5
 v5:=Tryz.zeroValue5
 t9:=Tryz.underlying9
 a9:=Tryz.isAgg9
 z9:=Tryz.sizeOf9
 v9:=Tryz.zeroValue9
 t21:=Tryz.underlying21
 a21:=Tryz.isAgg21
 z21:=Tryz.sizeOf21
 v21:=Tryz.zeroValue21
 t46:=Tryz.underlying179
 a46:=Tryz.isAgg179
 z46:=Tryz.sizeOf179
 v46:=Tryz.zeroValue179 }
open Go.RowKit Go.Lib in
theorem Tryz.strings_IndexRune_ascii (s:ByteArray)(r:Int)(w:World)(h0:0≤r)(h1:r<128) :
 Calls Tryz.prog 212 #[.string s,.int .i32 r] w fun e w'=>e=.returned (.int .i64 (Lib.indexByte s.data.toList r.toNat.toUInt8))∧w'=w:=Any.strings_IndexRune_ascii Tryz.wM s r w h0 h1
def Tryz.YS:Go.Shelf.Ren:=⟨fun|226=>213|n=>n,fun|3=>3|4=>4|n=>n,fun|n=>n⟩
theorem Tryz.wL:Go.Proofs.Lays.n226 Tryz.prog Tryz.YS:={
 mixed:=by kernel_rfl
 f226:=Tryz.func213.trans (congrArg some (by kernel_rfl))
 t3:=Tryz.underlying3
 a3:=Tryz.isAgg3
 z3:=Tryz.sizeOf3
 v3:=Tryz.zeroValue3
 t4:=Tryz.underlying4
 a4:=Tryz.isAgg4
 z4:=Tryz.sizeOf4
 v4:=Tryz.zeroValue4 }
open Go.RowKit Go.Lib in
theorem Tryz.strings_shouldUseASCIISet (n:Int)(w:World) :
 Calls Tryz.prog 213 #[.int .i64 n] w fun e w'=>e=.returned (.bool (decide (8<n)))∧w'=w:=Any.strings_shouldUseASCIISet Tryz.wL n w
def Tryz.YR:Go.Shelf.Ren:=⟨fun|227=>214|n=>n,fun|9=>9|116=>292|4=>4|0=>0|3=>3|5=>5|n=>n,fun|n=>n⟩
theorem Tryz.wK:Go.Proofs.Lays.n227 Tryz.prog Tryz.YR:={
 mixed:=by kernel_rfl
 f227:=Tryz.func214.trans (congrArg some (by kernel_rfl))
 t0:=Tryz.underlying0
 a0:=Tryz.isAgg0
 z0:=Tryz.sizeOf0
 v0:=Tryz.zeroValue0
 t3:=Tryz.underlying3
 a3:=Tryz.isAgg3
 z3:=Tryz.sizeOf3
 v3:=Tryz.zeroValue3
 t4:=Tryz.underlying4
 a4:=Tryz.isAgg4
 z4:=Tryz.sizeOf4
 v4:=Tryz.zeroValue4
 t5:=Tryz.underlying5
 a5:=Tryz.isAgg5
 z5:=Tryz.sizeOf5
 v5:=Tryz.zeroValue5
 t9:=Tryz.underlying9
 a9:=Tryz.isAgg9
 z9:=Tryz.sizeOf9
 v9:=Tryz.zeroValue9
 t116:=Tryz.underlying292
 a116:=Tryz.isAgg292
 z116:=Tryz.sizeOf292 }
open Go.RowKit Go.Lib in
theorem Tryz.strings_makeASCIISet (hv116:∀w,(zeroValue 292).run Tryz.prog w=.ok (.agg (Array.replicate 256 (.bool false))) w)(chars:ByteArray)(w:World)(hs:chars.size<4294967281)(hascii:∀(j:Nat) b,chars.data.toList[j]?=some b→b.toNat<128) :
 Calls Tryz.prog 214 #[.string chars] w fun e w'=>e=.returned (.tuple #[.agg (Lib.setCells chars.data.toList),.bool true])∧w'=w.alloc (.cells (Lib.setCells chars.data.toList) 292):=Any.strings_makeASCIISet Tryz.wK hv116 (by kernel_rfl) chars w hs hascii
def Tryz.YQ:Go.Shelf.Ren:=⟨fun|228=>215|n=>n,fun|124=>298|5=>5|4=>4|0=>0|116=>292|n=>n,fun|n=>n⟩
theorem Tryz.wJ:Go.Proofs.Lays.n228 Tryz.prog Tryz.YQ:={
 mixed:=by kernel_rfl
 f228:=Tryz.func215.trans (congrArg some (by kernel_rfl))
 t0:=Tryz.underlying0
 a0:=Tryz.isAgg0
 z0:=Tryz.sizeOf0
 v0:=Tryz.zeroValue0
 t4:=Tryz.underlying4
 a4:=Tryz.isAgg4
 z4:=Tryz.sizeOf4
 v4:=Tryz.zeroValue4
 t5:=Tryz.underlying5
 a5:=Tryz.isAgg5
 z5:=Tryz.sizeOf5
 v5:=Tryz.zeroValue5
 t116:=Tryz.underlying292
 a116:=Tryz.isAgg292
 z116:=Tryz.sizeOf292
 t124:=Tryz.underlying298
 a124:=Tryz.isAgg298
 z124:=Tryz.sizeOf298
 v124:=Tryz.zeroValue298 }
open Go.RowKit Go.Lib in
theorem Tryz.asciiSet_contains (b:Nat)(x:UInt8)(v:Bool)(w:World)(hc:w.cell? ⟨b,x.toNat,none⟩=some (.bool v)) :
 Calls Tryz.prog 215 #[.pointer (some ⟨b,0,none⟩),.int .u8 x.toNat] w fun e w'=>e=.returned (.bool v)∧w'=w:=Any.asciiSet_contains Tryz.wJ b x v w hc
def Tryz.QH:Go.Shelf.Ren:=⟨fun|105=>185|212=>195|99=>196|165=>197|166=>118|170=>198|169=>119|263=>205|264=>206|206=>207|240=>156|241=>208|276=>180|277=>211|n=>n,fun|9=>9|3=>3|4=>4|20=>20|0=>0|46=>179|109=>272|5=>5|72=>146|76=>206|51=>282|146=>283|53=>80|148=>285|70=>144|37=>121|75=>204|127=>223|164=>256|80=>126|n=>n,fun|n=>n⟩
theorem Tryz.wO:Go.Proofs.Lays.n105 Tryz.prog Tryz.QH:={
 mixed:=by kernel_rfl
 f99:=Tryz.func196.trans (congrArg some (by kernel_rfl))
 f105:=Tryz.func185.trans (congrArg some (by kernel_rfl))
 f165:=Tryz.func197.trans (congrArg some (by kernel_rfl))
 f166:=Tryz.func118.trans (congrArg some (by kernel_rfl))
 f169:=Tryz.func119.trans (congrArg some (by kernel_rfl))
 f170:=Tryz.func198.trans (congrArg some (by kernel_rfl))
 f206:=Tryz.func207.trans (congrArg some (by kernel_rfl))
 f212:=Tryz.func195.trans (congrArg some (by kernel_rfl))
 f240:=Tryz.func156.trans (congrArg some (by kernel_rfl))
 f241:=Tryz.func208.trans (congrArg some (by kernel_rfl))
 f263:=Tryz.func205.trans (congrArg some (by kernel_rfl))
 f264:=Tryz.func206.trans (congrArg some (by kernel_rfl))
 f276:=Tryz.func180.trans (congrArg some (by kernel_rfl))
 f277:=Tryz.func211.trans (congrArg some (by kernel_rfl))
 t0:=Tryz.underlying0
 a0:=Tryz.isAgg0
 z0:=Tryz.sizeOf0
 v0:=Tryz.zeroValue0
 t3:=Tryz.underlying3
 a3:=Tryz.isAgg3
 z3:=Tryz.sizeOf3
 v3:=Tryz.zeroValue3
 t4:=Tryz.underlying4
 a4:=Tryz.isAgg4
 z4:=Tryz.sizeOf4
 v4:=Tryz.zeroValue4
 t5:=Tryz.underlying5
 a5:=Tryz.isAgg5
 z5:=Tryz.sizeOf5
 v5:=Tryz.zeroValue5
 t9:=Tryz.underlying9
 a9:=Tryz.isAgg9
 z9:=Tryz.sizeOf9
 v9:=Tryz.zeroValue9
 t20:=Tryz.underlying20
 a20:=Tryz.isAgg20
 z20:=Tryz.sizeOf20
 v20:=Tryz.zeroValue20
 t37:=Tryz.underlying121
 a37:=Tryz.isAgg121
 z37:=Tryz.sizeOf121
 v37:=Tryz.zeroValue121
 t46:=Tryz.underlying179
 a46:=Tryz.isAgg179
 z46:=Tryz.sizeOf179
 v46:=Tryz.zeroValue179
 t51:=Tryz.underlying282
 a51:=Tryz.isAgg282
 z51:=Tryz.sizeOf282
 v51:=Tryz.zeroValue282
 t53:=Tryz.underlying80
 a53:=Tryz.isAgg80
 z53:=Tryz.sizeOf80
 v53:=Tryz.zeroValue80
 t70:=Tryz.underlying144
 a70:=Tryz.isAgg144
 z70:=Tryz.sizeOf144
 v70:=Tryz.zeroValue144
 t72:=Tryz.underlying146
 a72:=Tryz.isAgg146
 z72:=Tryz.sizeOf146
 v72:=Tryz.zeroValue146
 t75:=Tryz.underlying204
 a75:=Tryz.isAgg204
 z75:=Tryz.sizeOf204
 v75:=Tryz.zeroValue204
 t76:=Tryz.underlying206
 a76:=Tryz.isAgg206
 z76:=Tryz.sizeOf206
 v76:=Tryz.zeroValue206
 t109:=Tryz.underlying272
 a109:=Tryz.isAgg272
 z109:=Tryz.sizeOf272
 v109:=Tryz.zeroValue272
 t127:=Tryz.underlying223
 a127:=Tryz.isAgg223
 z127:=Tryz.sizeOf223
 v127:=Tryz.zeroValue223
 t146:=Tryz.underlying283
 a146:=Tryz.isAgg283
 z146:=Tryz.sizeOf283
 v146:=Tryz.zeroValue283
 t148:=Tryz.underlying285
 a148:=Tryz.isAgg285
 z148:=Tryz.sizeOf285
 v148:=Tryz.zeroValue285
 t164:=Tryz.underlying256
 a164:=Tryz.isAgg256
 z164:=Tryz.sizeOf256
 v164:=Tryz.zeroValue256 }
theorem Tryz.PQ:Builder.Extra Tryz.prog Tryz.QH:={
 sizeBuilder:=by kernel_rfl
 liesBuilder:=by kernel_rfl
 t5:=Tryz.underlying5
 a5:=Tryz.isAgg5
 z5:=Tryz.sizeOf5
 v5:=Tryz.zeroValue5
 infoByte:=by kernel_rfl
 cellsByte:=by kernel_rfl
 sizeByte:=by kernel_rfl
 neB5:=by decide }
open Go.RowKit Go.Lib in
theorem Tryz.strings_Repeat (s:ByteArray)(c:Nat)(w:World)(hc:c≤9223372036854775807)(hlen:s.size*c≤140737488355328) :
 Calls Tryz.prog 185 #[.string s,.int .i64 c] w fun e w'=>e=.returned (.string ⟨(Lib.repeatL s.data.toList c).toArray⟩)∧Below w.heap.size w w':=Any.strings_Repeat Tryz.wO Tryz.PQ s c w hc hlen
def Tryz.UM:Go.Shelf.Ren:=⟨fun|16=>106|n=>n,fun|24=>59|9=>9|4=>4|n=>n,fun|n=>n⟩
theorem Tryz.VB:Go.Proofs.Lays2.n16 Tryz.prog Tryz.UM:={
 mixed:=by kernel_rfl
 f16:=Tryz.func106.trans (congrArg some (by kernel_rfl))
 t4:=Tryz.underlying4
 a4:=Tryz.isAgg4
 z4:=Tryz.sizeOf4
 v4:=Tryz.zeroValue4
 t9:=Tryz.underlying9
 a9:=Tryz.isAgg9
 z9:=Tryz.sizeOf9
 v9:=Tryz.zeroValue9
 t24:=Tryz.underlying59
 a24:=Tryz.isAgg59
 z24:=Tryz.sizeOf59
 v24:=Tryz.zeroValue59
 i9:=by kernel_rfl }
open Go.RowKit Go.Lib in
theorem Tryz.slices_Clone_string (b off n c:Nat)(zs:List ByteArray)(w:World)(hz:n≤zs.length)(hbig:n*16≤140737488355328)(hc:∀j,j<zs.length→w.cell? ⟨b,off+j,none⟩=some (.string (zs.getD j ByteArray.empty))) :
 Calls Tryz.prog 106 #[.slice (some ⟨b,off,none⟩) n c] w fun e w'=>∃v',e=.returned v'∧w'.ownsRow w.heap.size 9 1 v' n ((zs.take n).map (Value.string))∧v'≠.slice none 0 0∧Below w.heap.size w w':=Any.slices_Clone_string Tryz.VB b off n c zs w hz hbig hc
open Go.RowKit Go.Lib in
theorem Tryz.slices_Clone_string_nil (n c:Nat)(w:World) :
 Calls Tryz.prog 106 #[.slice none n c] w fun e w'=>e=.returned (.slice none 0 0)∧w'=w:=Any.slices_Clone_string_nil Tryz.VB n c w
end Go.Proofs
