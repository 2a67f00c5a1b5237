/- Kit. -/
import Derived.Test.YtdmkhmeaphaapaaGreatCZ11
import Derived.Test.YtdmkhmeaphaapaaGreatCZ8
import Derived.Test.YtdmkhmeaphaapaaGreatCZ12
import Derived.Test.YtdmkhmeaphaapaaGreatCZ0
import Derived.Test.YtdmkhmeaphaapaaGreatCZ10
import Derived.Deep.WholeRow
import Derived.Deep.MidRow
import Derived.Laws.EntriesVeiled
set_option maxRecDepth 100000
set_option linter.unusedVariables false
set_option linter.unusedSimpArgs false
namespace Go.Proofs.YtdmkhmeaphaapaaGreat
open Go.RowKit Go.Sort
structure Wi where
 Is:World→Nat→List Az→Int→(Nat→Prop)→Prop
 lt:∀{w b l nx S},Is w b l nx S→∀k,S k→k<w.heap.size
 len:∀{w b l nx S},Is w b l nx S→l.length≤200
 next:∀{w b l nx S},Is w b l nx S→1≤nx
 kept:∀{w w' b l nx S},Is w b l nx S→w.heap.size≤w'.heap.size→(∀k,S k→w'.heap[k]?=w.heap[k]?)→Is w' b l nx S
 typ:∀{w b l nx S},Is w b l nx S→∀k,S k→∀t∈[195,31,105],∀cs fr,w.heap[k]?≠some (.cells cs t fr)
 new:∀w,Calls Tryz.prog 73 #[] w fun e w'=>∃b S,e=.returned (Ag b)∧Is w' b [] 1 S∧(∀k,S k→w.heap.size≤k)∧Below w.heap.size w w'
 link:∀{w b l nx S} (d:Int) (s:ByteArray) (Bg:Bool) (sh:Int),Is w b l nx S→s.size≤9223372036854775807→nx+1≤9223372036854775807 →
  Calls Tryz.prog 99 #[Ag b,.int .i64 d,.string s,.bool Bg,.int .i64 sh] w fun e w'=>∃S',e=.returned (.tuple #[.int .i64 (D7 l nx d s Bg sh).2.1,.int .i64 (D7 l nx d s Bg sh).2.2])∧Is w' b (D7 l nx d s Bg sh).1.1 (D7 l nx d s Bg sh).1.2 S'∧Trod w w' S S'
 unlink:∀{w b l nx S} (d:Int) (s:ByteArray) (Bg:Bool),Is w b l nx S →
  Calls Tryz.prog 101 #[Ag b,.int .i64 d,.string s,.bool Bg] w fun e w'=>∃S',e=.returned (.int .i64 (BM l nx d s Bg).2)∧Is w' b (BM l nx d s Bg).1.1 (BM l nx d s Bg).1.2 S'∧Trod w w' S S'
 move:∀{w b l nx S} (d:Int) (s:ByteArray) (dt:Int) (ns:ByteArray) (sh:Int),Is w b l nx S→ns.size≤9223372036854775807→nx+1≤9223372036854775807 →
  Calls Tryz.prog 103 #[Ag b,.int .i64 d,.string s,.int .i64 dt,.string ns,.int .i64 sh] w fun e w'=>∃S',e=.returned (.int .i64 (D5 l nx d s dt ns sh).2)∧Is w' b (D5 l nx d s dt ns sh).1.1 (D5 l nx d s dt ns sh).1.2 S'∧Trod w w' S S'
 list:∀{w b l nx S} (d:Int),Is w b l nx S →
  Calls Tryz.prog 68 #[Ag b,.int .i64 d] w fun e w'=>∃v,e=.returned (.tuple #[v,.int .i64 (A9 l d)])∧DD w' v (D6 l d)∧(∀g,v.ownBlock=some g→w.heap.size≤g)∧Below w.heap.size w w'
 find:∀{w b l nx S} (d:Int) (s:ByteArray),Is w b l nx S →
  Calls Tryz.prog 142 #[Ag b,.int .i64 d,.string s] w fun e w'=>e=.returned (.tuple #[Di (BK l d s).1,.int .i64 (BK l d s).2])∧Below w.heap.size w w'
 XA:∀{w b l nx S},Is w b l nx S →
  Calls Tryz.prog 64 #[Ag b] w fun e w'=>∃v,e=.returned v∧Kc w' v (AR l)∧(∀g,v.ownBlock=some g→w.heap.size≤g)∧Below w.heap.size w w'
 nodes:∀{w b l nx S},Is w b l nx S →
  Calls Tryz.prog 67 #[Ag b] w fun e w'=>e=.returned (.int .i64 (l.length:Int))∧Below w.heap.size w w'
 Al:∀{w b l nx S},Is w b l nx S →
  Calls Tryz.prog 66 #[Ag b] w fun e w'=>e=.returned (.int .i64 nx)∧Below w.heap.size w w'
namespace Wi
variable (T:Wi)
variable {w w':World}{b:Nat}{l:List Az}{nx:Int}{S S':Nat→Prop}
theorem below (h:T.Is w b l nx S)(hb:Below w.heap.size w w'):T.Is w' b l nx S:=T.kept h hb.size fun k hk=>hb.block k (T.lt h k hk)
theorem apart {a:Nat}{l2:List Az}{nx2:Int}{S2:Nat→Prop}(h:T.Is w a l2 nx2 S2)(ht:Trod w w' S S')(hd:∀k,S2 k→¬S k):T.Is w' a l2 nx2 S2∧∀k,S2 k→¬S' k:=
 ⟨T.kept h ht.size fun k hk=>ht.rest k (T.lt h k hk) (hd k hk),fun k hk h1=>(ht.sub k h1).elim (hd k hk) (by have:=T.lt h k hk;omega)⟩
end Wi
theorem bD (l:List Az)(nx d:Int)(s:ByteArray)(Bg:Bool)(sh:Int):nx≤(D7 l nx d s Bg sh).1.2∧(D7 l nx d s Bg sh).1.2≤nx+1:=by
 unfold D7
 repeat' split
 all_goals (dsimp only;omega)
theorem Wx (l:List Az)(nx d:Int)(s:ByteArray)(Bg:Bool):nx≤(BM l nx d s Bg).1.2∧(BM l nx d s Bg).1.2≤nx+1:=by
 unfold BM
 repeat' split
 all_goals (dsimp only;omega)
theorem bu (l:List Az)(nx d:Int)(s:ByteArray)(dt:Int)(ns:ByteArray)(sh:Int):nx≤(D5 l nx d s dt ns sh).1.2∧(D5 l nx d s dt ns sh).1.2≤nx+1:=by
 unfold D5
 repeat' split
 all_goals (dsimp only;omega)
theorem rO (l:List Az)(nx:Int)(o:yU):nx≤(UB l nx o).1.2∧(UB l nx o).1.2≤nx+1:=by
 unfold UB;split
 · exact bD _ _ _ _ _ _
 · split
   · exact Wx _ _ _ _ _
   · exact bu _ _ _ _ _ _ _
abbrev Zp:Obj:=.cells #[.string ⟨#[]⟩,.int .i64 0,.bool false,.int .i64 0,.int .i64 0] 112
theorem xK {W:World}{q:Nat}(h:W.heap[q]?=some Zp)(x0 x1 x2 x3 x4:Value):(((((W.setCell ⟨q,0,none⟩ x0).setCell ⟨q,1,none⟩ x1).setCell ⟨q,2,none⟩ x2).setCell ⟨q,3,none⟩ x3).setCell ⟨q,4,none⟩ x4).heap[q]?=some (.cells #[x0,x1,x2,x3,x4] 112 (0,0)):=by
 rw[Bn _ q 4 _ _ _ (Bn _ q 3 _ _ _ (Bn _ q 2 _ _ _ (Bn _ q 1 _ _ _ (Bn _ q 0 _ _ _ h))))];rfl
theorem dI:Ec ⟨#[97]⟩ 0=0:=by
 unfold Ec;rw[if_pos (by kernel_rfl)];decide
theorem dJ:D7 [] 1 0 ⟨#[97]⟩ false 0=(([⟨0,⟨⟨#[97]⟩,1,false,1,0⟩⟩],2),1,0):=by
 rw[bC,if_pos dI]
theorem WV:Bc 0 []=BI []:=by decide +kernel
theorem VE:Bo []=fF:=by
 funext n;unfold fF upd;rw[KJ];by_cases h:n=0
 · subst h;rfl
 · rw[if_neg (by omega),if_neg h];rfl
theorem Qg:Aq [] 1:=⟨(fun x hx=>nomatch hx),List.nodup_nil,(fun x hx=>nomatch hx),(fun x hx=>nomatch hx),List.Pairwise.nil,(fun x hx=>nomatch hx),List.Pairwise.nil,⟨fun _=>0,(fun x hx=>nomatch hx)⟩,by decide⟩
theorem qQ {w:World}{b:Nat}{K:Nat→Int}{E:Nat→List Br}{R:Nat→Value}{u:Nat}{v:Value}{ys:List Int}{c:Int}(h:TM w b K E R u v ys c):∀k,DV b R v k→∀t∈[195,31,105],∀cs fr,w.heap[k]?≠some (.cells cs t fr):=by
 intro k hk t ht cs fr hc;have key:∃T cs',w.heap[k]?=some (.cells cs' T (0,0))∧(T=96∨T=112∨T=3):=by
  rcases hk with rfl|⟨n,hn,hg⟩|hg
  · obtain⟨cs',h1,_⟩:=h.cells;exact⟨_,cs',h1,Or.inl rfl⟩
  · obtain⟨cs',h1⟩:=CJ (h.rows n hn) hg;exact⟨_,cs',h1,Or.inr (Or.inl rfl)⟩
  · obtain⟨cs',h1⟩:=CJ h.own hg;exact⟨_,cs',h1,Or.inr (Or.inr rfl)⟩
 obtain⟨T,cs',h1,h2⟩:=key;rw[hc]at h1;injection h1 with h1;injection h1 with _ h3 _;rw[h3]at ht;rcases h2 with rfl|rfl|rfl<;>exact absurd ht (by decide)
theorem zL (w:World):Calls Tryz.prog 73 #[] w fun e w'=>∃b S,e=.returned (Ag b)∧TIs w' b [] 1 S∧(∀k,S k→w.heap.size≤k)∧Below w.heap.size w w':=by
 have h:=U7 w;unfold PI at h;refine h.mono ?_;rintro e w' ⟨b,rfl,hb,hm,hbb⟩;rw[←VE]at hm;refine⟨b,DV b (fun _=>.slice none 0 0) (.slice none 0 0),rfl,⟨_,0,_,[],hm,WV,Qg,rfl⟩,?_,hbb⟩;rintro k (rfl|⟨n,_,hg⟩|hg)
 · exact hb
 · cases hg
 · cases hg
def Bl:Wi where
 Is:=TIs
 lt:=by
  rintro w b l nx S ⟨R,u,v,ys,hm,_,_,rfl⟩ k hk;exact(hm.lt k hk).2
 len:=by
  rintro w b l nx S ⟨R,u,v,ys,hm,_,hg,rfl⟩;exact hg.len
 next:=by
  rintro w b l nx S ⟨R,u,v,ys,hm,_,hg,rfl⟩;exact hg.Ml
 kept:=by
  rintro w w' b l nx S ⟨R,u,v,ys,hm,ho,hg,rfl⟩ hs hk;exact⟨R,u,v,ys,hm.kept hk,ho,hg,rfl⟩
 typ:=by
  rintro w b l nx S ⟨R,u,v,ys,hm,ho,hg,rfl⟩;exact qQ hm
 new:=zL
 link:=by
  rintro w b l nx S d s Bg sh ⟨R,u,v,ys,hm,ho,hg,rfl⟩ hs hnx;exact aC hm ho hg d s Bg sh hs hnx
 unlink:=by
  rintro w b l nx S d s Bg ⟨R,u,v,ys,hm,ho,hg,rfl⟩;exact Wz hm ho hg d s Bg
 move:=by
  rintro w b l nx S d s dt ns sh ⟨R,u,v,ys,hm,ho,hg,rfl⟩ hs hnx;exact aA hm ho hg d s dt ns sh hs hnx
 list:=by
  rintro w b l nx S d ⟨R,u,v,ys,hm,ho,hg,rfl⟩;have h:=aB hm (fun n hn=>Ao (hg.Nt n) (by omega)) d;unfold Wj at h;rw[hg.open']at h;refine h.mono ?_;rintro e w' ⟨v',rfl,he,hf,hb⟩;refine⟨v',rfl,?_,hf,hb⟩;unfold D6;by_cases hd:A9 l d=0
  · obtain⟨n,rfl,_,_⟩:=hg.dir hd;rw[if_pos hd]at he ⊢;rw[DY]at he;exact he
  · rw[if_neg hd]at he ⊢;exact he
 find:=by
  rintro w b l nx S d s ⟨R,u,v,ys,hm,ho,hg,rfl⟩;exact hg.ru hm d s
 XA:=by
  rintro w b l nx S ⟨R,u,v,ys,hm,ho,hg,rfl⟩;have h:=aG hm;unfold Wl at h;rw[Po]at h;exact h
 nodes:=by
  rintro w b l nx S ⟨R,u,v,ys,hm,ho,hg,rfl⟩;have h:=fP hm;rw[ho,hg.count]at h;exact h.mono fun e w' ⟨h1,q,h2⟩=>⟨h1,by rw[h2];exact Am (Ad _ _) q⟩
 Al:=by
  rintro w b l nx S ⟨R,u,v,ys,hm,ho,hg,rfl⟩;exact(Pw hm).mono fun e w' ⟨h1,h2⟩=>⟨h1,by rw[h2];exact Ad _ _⟩
theorem eZ {w:World}{b:Nat}{l:List Az}{nx:Int}{S:Nat→Prop}(h:Bl.Is w b l nx S):Aq l nx:=by
 obtain⟨R,u,v,ys,hm,ho,hg,_⟩:=h;exact hg
theorem fe {w:World}{b:Nat}{l:List Az}{nx:Int}{S:Nat→Prop}(h:Bl.Is w b l nx S):Calls Tryz.prog 66 #[Ag b] w fun e w'=>e=.returned (.int .i64 nx)∧w'=w:=by
 obtain⟨R,u,v,ys,hm,ho,hg,_⟩:=h;exact Pw hm
def NA:Array Value:=(Gz 201++([.int .i64 0,.int .i64 0,.slice none 0 0,.int .i64 0]:List Value)).toArray
theorem RU:NA.size=406:=by
 unfold NA;rw[Gq,A7,EA];rfl
theorem iI (W:World):(zeroValue 96).run Tryz.prog W=.ok (.agg NA) W:=(zero_of_info (P:=Tryz.prog) (t:=96) (v:=.agg NA) (n:=406) (by kernel_rfl)).1 W
theorem Tryz.Jl:(Tryz.prog.info? 96).map (·.size)=some 406:=(zero_of_info (P:=Tryz.prog) (t:=96) (v:=.agg NA) (n:=406) (by kernel_rfl)).2
section
variable {w:World}{b:Nat}{K:Nat→Int}{E:Nat→List Br}{R:Nat→Value}{u:Nat}{v:Value}{ys:List Int}{c:Int}
theorem Vr {v:Value}(h:∃a n cap,v=.slice a n cap):v.oneCell'=true:=by
 obtain⟨a,n,cap,rfl⟩:=h;rfl
theorem U6 {cs:Array Value}(h:GV cs K R u v c)(hr:∀n,n≤200→∃a m cap,R n=.slice a m cap)(hv:∃a m cap,v=.slice a m cap):cs.all (·.oneCell')=true:=by
 rw[Array.all_eq_true];intro k hk;have hs:=h.size;have key:∃x,cs[k]?=some x∧x.oneCell'=true:=by
  by_cases h1:k<402
  · rcases Nat.mod_two_eq_zero_or_one k with h2|h2
    · exact⟨_,(by have:=h.kind (k/2) (by omega);rw[show k/2*2=k by omega]at this;exact this),rfl⟩
    · exact⟨_,(by have:=h.row (k/2) (by omega);rw[show k/2*2+1=k by omega]at this;exact this),Vr (hr _ (by omega))⟩
  · have:k=402∨k=403∨k=404∨k=405:=by omega
    rcases this with rfl|rfl|rfl|rfl
    · exact⟨_,h.most,rfl⟩
    · exact⟨_,h.used,rfl⟩
    · exact⟨_,h.wait,Vr hv⟩
    · exact⟨_,h.Ho,rfl⟩
 obtain⟨x,h1,h2⟩:=key;rw[Array.getElem?_eq_getElem hk]at h1;rw[BS h1];exact h2
structure ClI (w0:World)(W:World)(b2 n:Nat)(K:Nat→Int)(E:Nat→List Br)(R R':Nat→Value)(u:Nat)(v:Value)(ys:List Int)(c:Int):Prop where
 cells:∃cs,W.heap[b2]?=some (.cells cs 96 (0,0))∧GV cs K R' u v c
 rows:∀j,j<n→W.ownsRow (b2+1) 112 5 (R' j) (E j).length ((E j).flatMap DU)
 apart:∀i j g,i<n→j<n→(R' i).ownBlock=some g→(R' j).ownBlock=some g→i=j
 rest:∀j,n≤j→j≤200→R' j=R j
 own:Dw (b2+1) W v ys
 below:Below w0.heap.size w0 W
 at':w0.heap.size≤b2
set_option maxHeartbeats 4000000 in
theorem rG (v1 v2:Value)(l:List Br)(w:World)(h1:DD w v1 l)(h2:DD w v2 l)(hl:l.length≤100000) :
 Calls Tryz.prog 44 #[v1,v2] w fun e w'=>e=.returned (.bool true)∧∃q,w'=w.drewN q:=by
 obtain⟨a1,AbR,rfl⟩:=h1.len;obtain⟨a2,cap2,rfl⟩:=h2.len;have H1:=Aa h1;have H2:=Aa h2;obtain⟨n1,hn1⟩:∃n,l.length=n:=⟨_,rfl⟩;have zh:=Aa hn1;rw[hn1]at hl ⊢;clear h1 h2 hn1;go_enter Tryz.func44,Tryz.ntmps44;go_wp2;go_loopw [13] (fun iv wr=>∃i:Nat,i≤n1∧iv=.int .i64 i∧∃q,wr=w.drewN q) (fun iv _=>n1-(intOf iv).toNat)
 case atStart=>exact⟨0,by omega,rfl,0,rfl⟩
 case round =>
  obtain⟨i,hi,rfl,q,hq⟩:=hrel;have HQ:=Aa hq;clear hq;by_cases hin:i<n1
  · have hiz:(i:Int)<(n1:Int):=by omega
    obtain⟨x,hx⟩:∃x,l[i]?=some x:=⟨_,Co (by rw[zh.out];omega)⟩;have hb:Below w.heap.size w wr:=by rw[HQ.out];exact Am (Ad _ _) q
    obtain⟨g1,o1,rfl,hg1,r1⟩:=(AL.kept H1.out hb).at hx;obtain⟨g2,o2,rfl,hg2,r2⟩:=(AL.kept H2.out hb).at hx;obtain⟨d0,d1,d2,d3,d4⟩:=Ii r1;obtain⟨e0,e1,e2,e3,e4⟩:=Ii r2;have hcmp:=gY x x;rw[A8 rfl]at hcmp;have hgd:=fun op a b=>VT op a b x x
    clear hx r1 r2 hg1 hg2 hb;obtain⟨xn,xa,xb,xc,xd⟩:=x;simp only at d0 d1 d2 d3 d4 e0 e1 e2 e3 e4;unfold Di at hcmp hgd;go_wp2;go_quiet (fail);go_wp2;go_roundw
    case rel=>exact⟨i+1,by omega,by first|rfl|go_num,_,by rw[HQ.out,World.drewN_drewN]⟩
    case measure=>simp[intOf];omega
  · have hge:¬((i:Int)<(n1:Int)):=by omega
    go_wp2;go_ret;exact⟨rfl,q,HQ.out⟩
set_option maxHeartbeats 4000000 in
theorem az {b':Nat}{K':Nat→Int}{E':Nat→List Br}{R':Nat→Value}{u':Nat}{v':Value}{ys':List Int}(h:TM w b K E R u v ys c)(h':TM w b' K' E' R' u' v' ys' c)(hE:∀n,n≤200→E' n=E n)(hl:∀n,n≤200→(E n).length≤1000) :
 Calls Tryz.prog 21 #[Ag b,Ag b'] w fun e w'=>e=.returned (.bool true)∧∃q,w'=w.drewN q:=by
 have HT:=Aa h;have HT':=Aa h';have HE:=Aa hE;have HL:=Aa hl;clear h h' hE hl;go_enter Tryz.func21,Tryz.ntmps21;go_wp2;go_loopw [6] (fun iv wr=>∃i:Nat,i≤201∧iv=.int .i64 i∧∃q,wr=w.drewN q) (fun iv _=>201-(intOf iv).toNat)
 case atStart=>exact⟨0,by omega,rfl,0,rfl⟩
 case round =>
  obtain⟨i,hi,rfl,q,hq⟩:=hrel;have HQ:=Aa hq;have hb:Below w.heap.size w wr:=by rw[hq];exact Am (Ad _ _) q
  have ht:=HT.out.below hb;have ht':=HT'.out.below hb;clear hq hb;by_cases hin:i≤200
  · have hiz:(i:Int)<201:=by omega
    have hi0:(0:Int)≤(i:Int):=by omega
    have c1:=(ht.FH hin).1;have c2:=(ht'.FH hin).1;have he2:=ht'.Fy hin;rw[HE.out i hin]at he2;have cS:∀p,Calls Tryz.prog 44 #[R i,R' i] (wr.drewN p) fun e w'=>e=.returned (.bool true)∧∃q,w'=(wr.drewN p).drewN q:=fun p=>rG (R i) (R' i) (E i) (wr.drewN p) (AL.kept (ht.Fy hin) (Am (Ad _ _) p)) (AL.kept he2 (Am (Ad _ _) p)) (by have:=HL.out i hin;omega)
    obtain⟨a1,AbR,e1⟩:=(ht.Fy hin).len;obtain⟨a2,cap2,e2⟩:=he2.len;rw[e1]at c1 cS;rw[e2]at c2 cS;clear ht ht' he2 e1 e2;go_wp2;go_quiet ((go_at_call 44;exact Calls.quiet_of (cS _)));go_wp2;go_roundw
    case rel=>exact⟨i+1,by omega,by first|rfl|go_num,_,by rw[HQ.out,World.drewN_drewN]⟩
    case measure=>simp[intOf];omega
  · have hiz:¬(i:Int)<201:=by omega
    have c1:=ht.MI.1;have c2:=ht'.MI.1;have hcc:(c==c)=true:=by simp
    clear ht ht';go_wp2;go_quiet (fail);go_wp2;go_ret;exact⟨rfl,_,by rw[HQ.out,World.drewN_drewN]⟩
end
def IB (l:List Br):Int:=match l.getLast? with
 | some x=>x.Al
 | none=>0
section
variable {w:World}{b:Nat}{K:Nat→Int}{E:Nat→List Br}{R:Nat→Value}{u:Nat}{v:Value}{ys:List Int}{c:Int}
set_option maxHeartbeats 2000000 in
theorem Pe (h:TM w b K E R u v ys c){d:Nat}(hd:d≤200)(hl:(E d).length≤1000):Calls Tryz.prog 192 #[Ag b,.int .i64 (d:Int)] w fun e w'=>e=.returned (.int .i64 (IB (E d)))∧w'=w:=by
 have c1:=(h.FH hd).1;have he:=h.Fy hd;obtain⟨a,cap,hr⟩:=he.len;obtain⟨X,hX⟩:∃X,IB (E d)=X:=⟨_,rfl⟩;rw[hX];rw[hr]at c1 he;have hd0:(0:Int)≤(d:Int):=by omega
 have hd1:(d:Int)<201:=by omega
 cases hm:(E d).length with
 | zero =>
  have HX:Hid (X=0):=Aa (by rw[←hX,Kw hm];rfl);rw[hm]at c1;clear h he hr hX hl hm;go_enter Tryz.func192,Tryz.ntmps192;go_wp2;go_ret;exact⟨by rw[HX.out];rfl,rfl⟩
 | succ m =>
  obtain⟨x,hx⟩:∃x,(E d)[m]?=some x:=⟨_,Co (by omega)⟩;have HX:Hid (X=x.Al):=Aa (by
   rw[←hX];unfold IB;rw[List.getLast?_eq_getElem?,hm,Nat.add_sub_cancel,hx])
  obtain⟨g,off,rfl,hg,hrg⟩:=he.at hx;obtain⟨d0,d1,d2,d3,d4⟩:=Ii hrg;rw[hm]at c1;have hz:((m:Int)+1==0)=false:=by rw[Ba];omega
  have hz1:(m:Int)+1-1=(m:Int):=by omega
  have hz2:(m:Int)<(m:Int)+1:=by omega
  have hz3:¬(m:Int)+1=0:=by omega
  have hw:IntKind.i64.wrap ((m:Int)+1-1)=(m:Int):=by rw[El];omega
  have hw2:IntKind.i64.wrap (m:Int)=(m:Int):=by rw[El];omega
  clear h he hr hX hl hm hx hg hrg;go_enter Tryz.func192,Tryz.ntmps192;go_wp2;go_ret;exact⟨by rw[HX.out];rfl,rfl⟩
theorem aR (e:Br)(ck:Int)(q:Nat)(w:World)(hq:w.heap[q]?=some (.cells #[.int .i64 ck] 2 (0,0)))(t:Bool)(ht:decide (e.Al=ck)=t) :
 Calls Tryz.prog 204 #[Di e,.pointer (some ⟨q,0,none⟩)] w fun r w'=>r=.returned (.bool t)∧Below w.heap.size w w':=by
 obtain⟨nm,nd,dr,c0,sh⟩:=e;have p0:(w.alloc (.cells #[.string nm,.int .i64 nd,.bool dr,.int .i64 c0,.int .i64 sh] 112)).cell? ⟨q,0,none⟩=some (.int .i64 ck):=by
  rw[Fj (w:=w) (Ct w _ q (Ab hq)),Ap hq];rfl
 have HB:Hid (Below w.heap.size w (w.alloc (.cells #[.string nm,.int .i64 nd,.bool dr,.int .i64 c0,.int .i64 sh] 112))):=Aa ((Ad _ _).alloc (Ae _) _);have he:(c0==ck)=t:=by rw[←ht];rfl
 clear hq ht;unfold Di;go_enter Tryz.func204,Tryz.ntmps204;go_wp2;go_ret
 first|exact⟨by rw[←he];rfl,HB.out⟩|exact⟨rfl,HB.out⟩
def Ra (ck:Int):List Br→Nat→Int
 | [],_=>-1
 | x::l,k=>if x.Al=ck then(k:Int) else Ra ck l (k+1)
theorem Yx (ck:Int):∀(l:List Br) (k:Nat),-1≤Ra ck l k∧(0≤Ra ck l k↔l.any (fun x=>decide (x.Al=ck))=true)
 | [],k=>by unfold Ra;simp
 | x::l,k=>by
  unfold Ra;rw[List.any_cons];by_cases h:x.Al=ck
  · rw[if_pos h];simp[h]<;>omega
  · rw[if_neg h];have:=Yx ck l (k+1);simp only[decide_eq_false h,Bool.false_or];exact this
set_option maxHeartbeats 2000000 in
theorem ko (v:Value)(l:List Br)(q:Nat)(s:Int)(w:World)(hv:DD w v l)(hl:l.length≤1000)(hq:w.heap[q]?=some (.cells #[.int .i64 s] 2 (0,0))) :
 Calls Tryz.prog 188 #[v,.func (.func 204) #[] #[.pointer (some ⟨q,0,none⟩)]] w fun e w'=>e=.returned (.int .i64 (Ra s l 0))∧Below w.heap.size w w':=by
 obtain⟨a,cap,rfl⟩:=hv.len;obtain⟨n,hn⟩:∃n,l.length=n:=⟨_,rfl⟩;rw[hn]at hl hv ⊢;have HV:=Aa hv;have HN:=Aa hn;have HQ:=Aa hq;have cC:=fun W e t (h:W.heap[q]?=some (.cells #[.int .i64 s] 2 (0,0))) (ht:decide (e.Al=s)=t)=>aR e s q W h t ht
 unfold Di at cC;obtain⟨X,hX⟩:∃X,Ra s l 0=X:=⟨_,rfl⟩;have HX:=Aa hX;rw[hX];clear hv hn hq hX;go_enter Tryz.func188,Tryz.ntmps188;go_wp2;go_loopw [8] (fun iv wr=>∃i:Nat,i≤n∧iv=.int .i64 i∧Ra s (l.drop i) i=X∧Below w.heap.size w wr) (fun iv _=>n-(intOf iv).toNat)
 case atStart=>exact⟨0,by omega,rfl,HX.out,Ad _ _⟩
 case round =>
  obtain⟨i,hi,rfl,hgo,hb⟩:=hrel;have Ht:=Aa hgo;have HB:=Aa hb;clear hgo;by_cases hin:i<n
  · have hiz:(i:Int)<(n:Int):=by omega
    obtain⟨x,hx⟩:∃x,l[i]?=some x:=⟨_,Co (by rw[HN.out];omega)⟩;obtain⟨g,off,rfl,hg,hr⟩:=HV.out.at hx;obtain⟨d0,d1,d2,d3,d4⟩:=Ii (DJ hr hg hb);have HG:Hid (Ra s (l.drop i) i=if x.Al=s then(i:Int) else Ra s (l.drop (i+1)) (i+1)):=Aa (by rw[DK hx];rfl);obtain⟨t,ht⟩:∃t,decide (x.Al=s)=t:=⟨_,rfl⟩;have HT:=Aa ht;have yR:=cC wr x t ((hb.block q (Ab HQ.out)).trans HQ.out) ht;clear hr hx hg cC hb ht;cases t with
    | true =>
     have HE:Hid ((i:Int)=X):=Aa (by rw[←Ht.out,HG.out,if_pos (FL HT.out)]);go_wp2_with (go_at_call 204;refine yR.mono ?_;rintro e w2 ⟨rfl,hb2⟩);go_ret;exact⟨by rw[HE.out];rfl,HB.out.trans (hb2.mono HB.out.size)⟩
    | false =>
     have HE:Hid (Ra s (l.drop (i+1)) (i+1)=X):=Aa (by rw[←Ht.out,HG.out,if_neg (of_decide_eq_false HT.out)]);go_wp2_with (go_at_call 204;refine yR.mono ?_;rintro e w2 ⟨rfl,hb2⟩);go_roundw
     case rel=>exact⟨i+1,by omega,by first|rfl|go_num,HE.out,HB.out.trans (hb2.mono HB.out.size)⟩
     case measure=>simp[intOf];omega
  · have hiz:¬(i:Int)<(n:Int):=by omega
    have HE:Hid (X=-1):=Aa (by rw[←Ht.out,JW (by rw[HN.out];omega)];rfl);clear hb cC;go_wp2;go_ret;exact⟨by rw[HE.out];rfl,HB.out⟩
theorem lu (v:Value)(l:List Br)(q:Nat)(s:Int)(w:World)(hv:DD w v l)(hl:l.length≤1000)(hq:w.heap[q]?=some (.cells #[.int .i64 s] 2 (0,0)))(t:Bool)(ht:l.any (fun x=>decide (x.Al=s))=t) :
 Calls Tryz.prog 203 #[v,.func (.func 204) #[] #[.pointer (some ⟨q,0,none⟩)]] w fun e w'=>e=.returned (.bool t)∧Below w.heap.size w w':=by
 have cI:=ko v l q s w hv hl hq;have hp:=Yx s l 0;rw[ht]at hp;generalize Ra s l 0=p at *;obtain⟨a,cap,rfl⟩:=hv.len;have HT:Hid (decide (0≤p)=t):=Aa (by
  cases t with
  | true=>exact A8 (hp.2.2 rfl)
  | false=>exact Bb (fun h=>by simpa using hp.2.1 h))
 clear hv hq ht hp;go_enter Tryz.func203,Tryz.ntmps203;go_wp2_with (go_at_call 188;refine cI.mono ?_;rintro e w1 ⟨rfl,hb1⟩);go_ret;exact⟨by rw[←HT.out];rfl,hb1⟩
theorem jH (k:Int)(v:Value)(l:List Br)(q:Nat)(s:Int)(w:World)(hv:DD w v l)(hl:l.length≤1000)(hq:w.heap[q]?=some (.cells #[.int .i64 s] 2 (0,0)))(t:Bool)(ht:l.any (fun x=>decide (x.Al=s))=t) :
 Calls Tryz.prog 202 #[.agg #[.int .i64 k,v],.pointer (some ⟨q,0,none⟩)] w fun e w'=>e=.returned (.bool t)∧Below w.heap.size w w':=by
 obtain⟨a,cap,rfl⟩:=hv.len;have hb0:Below w.heap.size w (w.alloc (.cells #[.int .i64 k,.slice a l.length cap] 88)):=(Ad _ _).alloc (Ae _) _;have HB:=Aa hb0;have cC:=lu (.slice a l.length cap) l q s _ (AL.kept hv hb0) hl ((hb0.block q (Ab hq)).trans hq) t ht;clear hv hq ht hb0;go_enter Tryz.func202,Tryz.ntmps202;go_wp2_with (go_at_call 203;refine cC.mono ?_;rintro e w1 ⟨rfl,hb1⟩);go_ret;exact⟨rfl,HB.out.trans (hb1.mono HB.out.size)⟩
def SI (E:Nat→List Br)(ck:Int):Nat→Nat→Int
 | 0,_=>-1
 | f+1,k=>if(E k).any (fun x=>decide (x.Al=ck))=true then(k:Int) else SI E ck f (k+1)
theorem Yw (E:Nat→List Br)(ck:Int):∀(f k:Nat),(0≤SI E ck f k↔∃n,k≤n∧n<k+f∧(E n).any (fun x=>decide (x.Al=ck))=true)
 | 0,k=>by
  unfold SI;constructor
  · intro h;omega
  · rintro⟨n,h1,h2,_⟩;omega
 | f+1,k=>by
  unfold SI;by_cases h:(E k).any (fun x=>decide (x.Al=ck))=true
  · rw[if_pos h];exact⟨fun _=>⟨k,Ae _,by omega,h⟩,fun _=>by omega⟩
  · rw[if_neg h,Yw E ck f (k+1)];constructor
    · rintro⟨n,h1,h2,h3⟩;exact⟨n,by omega,by omega,h3⟩
    · rintro⟨n,h1,h2,h3⟩;have:n≠k:=fun e=>h (e▸h3)
      exact⟨n,by omega,by omega,h3⟩
set_option maxHeartbeats 2000000 in
theorem kg (h:TM w b K E R u v ys c)(hE:∀n,n≤200→(E n).length≤1000)(q:Nat)(s:Int)(hq:w.heap[q]?=some (.cells #[.int .i64 s] 2 (0,0))) :
 Calls Tryz.prog 210 #[.slice (some ⟨b,0,none⟩) 201 201,.func (.func 202) #[] #[.pointer (some ⟨q,0,none⟩)]] w fun e w'=>e=.returned (.int .i64 (SI E s 201 0))∧Below w.heap.size w w':=by
 have HV:=Aa h;have HQ:=Aa hq;have HL:=Aa hE;have cC:=fun(W:World) k x l t (h1:DD W x l) h2 h3 ht=>jH k x l q s W h1 h2 h3 t ht
 obtain⟨X,hX⟩:∃X,SI E s 201 0=X:=⟨_,rfl⟩;have HX:=Aa hX;rw[hX];clear h hq hX hE;go_enter Tryz.func210,Tryz.ntmps210;go_wp2;go_loopw [8] (fun iv wr=>∃i:Nat,i≤201∧iv=.int .i64 i∧SI E s (201-i) i=X∧Below w.heap.size w wr) (fun iv _=>201-(intOf iv).toNat)
 case atStart=>exact⟨0,by omega,rfl,HX.out,Ad _ _⟩
 case round =>
  obtain⟨i,hi,rfl,hgo,hb⟩:=hrel;have Ht:=Aa hgo;have HB:=Aa hb;clear hgo;by_cases hin:i<201
  · have hiz:(i:Int)<201:=by omega
    have d0:=((HV.out.below hb).LH (n:=i) (by omega)).1;have d1:=((HV.out.below hb).FH (n:=i) (by omega)).1;have HG:Hid (SI E s (201-i) i=if(E i).any (fun x=>decide (x.Al=s))=true then(i:Int) else SI E s (201-(i+1)) (i+1)):=Aa (by rw[show 201-i=(201-(i+1))+1 by omega];rfl);obtain⟨t,ht⟩:∃t,(E i).any (fun x=>decide (x.Al=s))=t:=⟨_,rfl⟩;have HT:=Aa ht;have yR:=cC wr (K i) (R i) (E i) t ((HV.out.below hb).Fy (by omega)) (HL.out i (by omega)) ((hb.block q (Ab HQ.out)).trans HQ.out) ht;clear cC hb ht;cases t with
    | true =>
     have HE:Hid ((i:Int)=X):=Aa (by rw[←Ht.out,HG.out,if_pos HT.out]);go_wp2_with (go_at_call 202;refine yR.mono ?_;rintro e w2 ⟨rfl,hb2⟩);go_ret;exact⟨by rw[HE.out];rfl,HB.out.trans (hb2.mono HB.out.size)⟩
    | false =>
     have HE:Hid (SI E s (201-(i+1)) (i+1)=X):=Aa (by rw[←Ht.out,HG.out,if_neg (by rw[HT.out];decide)]);go_wp2_with (go_at_call 202;refine yR.mono ?_;rintro e w2 ⟨rfl,hb2⟩);go_roundw
     case rel=>exact⟨i+1,by omega,by first|rfl|go_num,HE.out,HB.out.trans (hb2.mono HB.out.size)⟩
     case measure=>simp[intOf];omega
  · have hiz:¬(i:Int)<201:=by omega
    have HE:Hid (X=-1):=Aa (by rw[←Ht.out,show 201-i=0 by omega];rfl);clear hb cC;go_wp2;go_ret;exact⟨by rw[HE.out];rfl,HB.out⟩
def QR (E:Nat→List Br)(s:Int):Prop:=∃n,n≤200∧(E n).any (fun x=>decide (x.Al=s))=true
theorem lq (h:TM w b K E R u v ys c)(hE:∀n,n≤200→(E n).length≤1000)(q:Nat)(s:Int)(hq:w.heap[q]?=some (.cells #[.int .i64 s] 2 (0,0)))(t:Bool)(ht:t=true↔QR E s) :
 Calls Tryz.prog 201 #[.slice (some ⟨b,0,none⟩) 201 201,.func (.func 202) #[] #[.pointer (some ⟨q,0,none⟩)]] w fun e w'=>e=.returned (.bool t)∧Below w.heap.size w w':=by
 have cI:=kg h hE q s hq;have hp:=Yw E s 201 0;generalize SI E s 201 0=p at *;have HT:Hid (decide (0≤p)=t):=Aa (by
  cases t with
  | true =>
   obtain⟨n,h1,h2⟩:=ht.1 rfl;exact A8 (hp.2 ⟨n,by omega,by omega,h2⟩)
  | false=>exact Bb (fun h=>by
   obtain⟨n,h1,h2,h3⟩:=hp.1 h;exact absurd (ht.2 ⟨n,by omega,h3⟩) (by decide)))
 clear h hE hq ht hp;go_enter Tryz.func201,Tryz.ntmps201;go_wp2_with (go_at_call 210;refine cI.mono ?_;rintro e w1 ⟨rfl,hb1⟩);go_ret;exact⟨by rw[←HT.out];rfl,hb1⟩
theorem Zb (h:TM w b K E R u v ys c)(hE:∀n,n≤200→(E n).length≤1000)(s:Int)(t:Bool)(ht:t=true↔QR E s) :
 Calls Tryz.prog 193 #[Ag b,.int .i64 s] w fun e w'=>e=.returned (.bool t)∧Below w.heap.size w w':=by
 have hb0:Below w.heap.size w (w.alloc (.cells #[.int .i64 s] 2)):=(Ad _ _).alloc (Ae _) _;have HB:=Aa hb0;have cC:=lq (h.below hb0) hE w.heap.size s (Ai _ _) t ht;clear h hE ht hb0;go_enter Tryz.func193,Tryz.ntmps193;go_wp2_with (go_at_call 201;refine cC.mono ?_;rintro e w1 ⟨rfl,hb1⟩);go_ret;exact⟨rfl,HB.out.trans (hb1.mono HB.out.size)⟩
end
end Go.Proofs.YtdmkhmeaphaapaaGreat
