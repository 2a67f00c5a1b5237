/- Kit. -/
import Derived.Test.YtdmkhmeaphaapaaGreatMZ11
import Derived.Test.YtdmkhmeaphaapaaGreatMZ8
import Derived.Test.YtdmkhmeaphaapaaGreatMZ12
import Derived.Test.YtdmkhmeaphaapaaGreatMZ0
import Derived.Test.YtdmkhmeaphaapaaGreatMZ10
import Derived.Deep.WholeRow
import Derived.Deep.MidRow
import Derived.Laws.EntriesVeiled
set_option maxRecDepth 100000
set_option linter.unusedVariables false
set_option linter.unusedSimpArgs false
namespace Go.Proofs.YtdmkhmeaphaapaaGreat
open Go.RowKit Go.Sort
structure VI where
 Is:World→Nat→List Az→Int→(Nat→Prop)→Prop
 lt:∀{w b l nx S},Is w b l nx S→∀k,S k→k<w.heap.size
 len:∀{w b l nx S},Is w b l nx S→l.length≤200
 next:∀{w b l nx S},Is w b l nx S→1≤nx
 kept:∀{w w' b l nx S},Is w b l nx S→w.heap.size≤w'.heap.size→(∀k,S k→w'.heap[k]?=w.heap[k]?)→Is w' b l nx S
 typ:∀{w b l nx S},Is w b l nx S→∀k,S k→∀t∈[195,31,105],∀cs fr,w.heap[k]?≠some (.cells cs t fr)
 new:∀w,Calls Tryz.prog 73 #[] w fun e w'=>∃b S,e=.returned (Aj b)∧Is w' b [] 1 S∧(∀k,S k→w.heap.size≤k)∧Below w.heap.size w w'
 link:∀{w b l nx S} (d:Int) (s:ByteArray) (Ba:Bool) (sh:Int),Is w b l nx S→s.size≤9223372036854775807→nx+1≤9223372036854775807 →
  Calls Tryz.prog 99 #[Aj b,.int .i64 d,.string s,.bool Ba,.int .i64 sh] w fun e w'=>∃S',e=.returned (.tuple #[.int .i64 (D6 l nx d s Ba sh).2.1,.int .i64 (D6 l nx d s Ba sh).2.2])∧Is w' b (D6 l nx d s Ba sh).1.1 (D6 l nx d s Ba sh).1.2 S'∧Trod w w' S S'
 unlink:∀{w b l nx S} (d:Int) (s:ByteArray) (Ba:Bool),Is w b l nx S →
  Calls Tryz.prog 101 #[Aj b,.int .i64 d,.string s,.bool Ba] w fun e w'=>∃S',e=.returned (.int .i64 (BK l nx d s Ba).2)∧Is w' b (BK l nx d s Ba).1.1 (BK l nx d s Ba).1.2 S'∧Trod w w' S S'
 move:∀{w b l nx S} (d:Int) (s:ByteArray) (dt:Int) (ns:ByteArray) (sh:Int),Is w b l nx S→ns.size≤9223372036854775807→nx+1≤9223372036854775807 →
  Calls Tryz.prog 103 #[Aj b,.int .i64 d,.string s,.int .i64 dt,.string ns,.int .i64 sh] w fun e w'=>∃S',e=.returned (.int .i64 (DZ l nx d s dt ns sh).2)∧Is w' b (DZ l nx d s dt ns sh).1.1 (DZ l nx d s dt ns sh).1.2 S'∧Trod w w' S S'
 list:∀{w b l nx S} (d:Int),Is w b l nx S →
  Calls Tryz.prog 68 #[Aj b,.int .i64 d] w fun e w'=>∃v,e=.returned (.tuple #[v,.int .i64 (Bc l d)])∧DC w' v (D5 l d)∧(∀g,v.ownBlock=some g→w.heap.size≤g)∧Below w.heap.size w w'
 find:∀{w b l nx S} (d:Int) (s:ByteArray),Is w b l nx S →
  Calls Tryz.prog 142 #[Aj b,.int .i64 d,.string s] w fun e w'=>e=.returned (.tuple #[Df (BQ l d s).1,.int .i64 (BQ l d s).2])∧Below w.heap.size w w'
 WZ:∀{w b l nx S},Is w b l nx S →
  Calls Tryz.prog 64 #[Aj b] w fun e w'=>∃v,e=.returned v∧JZ w' v (AQ l)∧(∀g,v.ownBlock=some g→w.heap.size≤g)∧Below w.heap.size w w'
 nodes:∀{w b l nx S},Is w b l nx S →
  Calls Tryz.prog 67 #[Aj b] w fun e w'=>e=.returned (.int .i64 (l.length:Int))∧Below w.heap.size w w'
 Am:∀{w b l nx S},Is w b l nx S →
  Calls Tryz.prog 66 #[Aj b] w fun e w'=>e=.returned (.int .i64 nx)∧Below w.heap.size w w'
namespace VI
variable (T:VI)
variable {w w':World}{b:Nat}{l:List Az}{nx:Int}{S S':Nat→Prop}
theorem below (h:T.Is w b l nx S)(hb:Below w.heap.size w w'):T.Is w' b l nx S:=T.kept h hb.size fun k hk=>hb.block k (T.lt h k hk)
theorem apart {a:Nat}{l2:List Az}{nx2:Int}{S2:Nat→Prop}(h:T.Is w a l2 nx2 S2)(ht:Trod w w' S S')(hd:∀k,S2 k→¬S k):T.Is w' a l2 nx2 S2∧∀k,S2 k→¬S' k:=
 ⟨T.kept h ht.size fun k hk=>ht.rest k (T.lt h k hk) (hd k hk),fun k hk h1=>(ht.sub k h1).elim (hd k hk) (by have:=T.lt h k hk;omega)⟩
end VI
theorem Z0 (l:List Az)(nx d:Int)(s:ByteArray)(Ba:Bool)(sh:Int):nx≤(D6 l nx d s Ba sh).1.2∧(D6 l nx d s Ba sh).1.2≤nx+1:=by
 unfold D6
 repeat' split
 all_goals (dsimp only;omega)
theorem VY (l:List Az)(nx d:Int)(s:ByteArray)(Ba:Bool):nx≤(BK l nx d s Ba).1.2∧(BK l nx d s Ba).1.2≤nx+1:=by
 unfold BK
 repeat' split
 all_goals (dsimp only;omega)
theorem ZV (l:List Az)(nx d:Int)(s:ByteArray)(dt:Int)(ns:ByteArray)(sh:Int):nx≤(DZ l nx d s dt ns sh).1.2∧(DZ l nx d s dt ns sh).1.2≤nx+1:=by
 unfold DZ
 repeat' split
 all_goals (dsimp only;omega)
theorem pR (l:List Az)(nx:Int)(o:xh):nx≤(Rp l nx o).1.2∧(Rp l nx o).1.2≤nx+1:=by
 unfold Rp;split
 · exact Z0 _ _ _ _ _ _
 · split
   · exact VY _ _ _ _ _
   · exact ZV _ _ _ _ _ _ _
abbrev YN:Obj:=.cells #[.string ⟨#[]⟩,.int .i64 0,.bool false,.int .i64 0,.int .i64 0] 112
theorem vH {W:World}{q:Nat}(h:W.heap[q]?=some YN)(x0 x1 x2 x3 x4:Value):(((((W.setCell ⟨q,0,none⟩ x0).setCell ⟨q,1,none⟩ x1).setCell ⟨q,2,none⟩ x2).setCell ⟨q,3,none⟩ x3).setCell ⟨q,4,none⟩ x4).heap[q]?=some (.cells #[x0,x1,x2,x3,x4] 112 (0,0)):=by
 rw[Bj _ q 4 _ _ _ (Bj _ q 3 _ _ _ (Bj _ q 2 _ _ _ (Bj _ q 1 _ _ _ (Bj _ q 0 _ _ _ h))))];rfl
theorem aY:Ei ⟨#[97]⟩ 0=0:=by
 unfold Ei;rw[if_pos (by kernel_rfl)];decide
theorem aZ:D6 [] 1 0 ⟨#[97]⟩ false 0=(([⟨0,⟨⟨#[97]⟩,1,false,1,0⟩⟩],2),1,0):=by
 rw[ZZ,if_pos aY]
theorem Wq:A9 0 []=BH []:=by decide +kernel
theorem Vi:Bl []=dw:=by
 funext n;unfold dw upd;rw[Kw];by_cases h:n=0
 · subst h;rfl
 · rw[if_neg (by omega),if_neg h];rfl
theorem P5:Aq [] 1:=⟨(fun x hx=>nomatch hx),List.nodup_nil,(fun x hx=>nomatch hx),(fun x hx=>nomatch hx),List.Pairwise.nil,(fun x hx=>nomatch hx),List.Pairwise.nil,⟨fun _=>0,(fun x hx=>nomatch hx)⟩,by decide⟩
theorem oU {w:World}{b:Nat}{K:Nat→Int}{E:Nat→List Bq}{R:Nat→Value}{u:Nat}{v:Value}{ys:List Int}{c:Int}(h:TM w b K E R u v ys c):∀k,DV b R v k→∀t∈[195,31,105],∀cs fr,w.heap[k]?≠some (.cells cs t fr):=by
 intro k hk t ht cs fr hc;have key:∃T cs',w.heap[k]?=some (.cells cs' T (0,0))∧(T=96∨T=112∨T=3):=by
  rcases hk with rfl|⟨n,hn,hg⟩|hg
  · obtain⟨cs',h1,_⟩:=h.cells;exact⟨_,cs',h1,Or.inl rfl⟩
  · obtain⟨cs',h1⟩:=Cz (h.rows n hn) hg;exact⟨_,cs',h1,Or.inr (Or.inl rfl)⟩
  · obtain⟨cs',h1⟩:=Cz h.own hg;exact⟨_,cs',h1,Or.inr (Or.inr rfl)⟩
 obtain⟨T,cs',h1,h2⟩:=key;rw[hc]at h1;injection h1 with h1;injection h1 with _ h3 _;rw[h3]at ht;rcases h2 with rfl|rfl|rfl<;>exact absurd ht (by decide)
theorem xP (w:World):Calls Tryz.prog 73 #[] w fun e w'=>∃b S,e=.returned (Aj b)∧zu w' b [] 1 S∧(∀k,S k→w.heap.size≤k)∧Below w.heap.size w w':=by
 have h:=UG w;unfold Po at h;refine h.mono ?_;rintro e w' ⟨b,rfl,hb,hm,hbb⟩;rw[←Vi]at hm;refine⟨b,DV b (fun _=>.slice none 0 0) (.slice none 0 0),rfl,⟨_,0,_,[],hm,Wq,P5,rfl⟩,?_,hbb⟩;rintro k (rfl|⟨n,_,hg⟩|hg)
 · exact hb
 · cases hg
 · cases hg
def Bp:VI where
 Is:=zu
 lt:=by
  rintro w b l nx S ⟨R,u,v,ys,hm,_,_,rfl⟩ k hk;exact(hm.lt k hk).2
 len:=by
  rintro w b l nx S ⟨R,u,v,ys,hm,_,hg,rfl⟩;exact hg.len
 next:=by
  rintro w b l nx S ⟨R,u,v,ys,hm,_,hg,rfl⟩;exact hg.Md
 kept:=by
  rintro w w' b l nx S ⟨R,u,v,ys,hm,ho,hg,rfl⟩ hs hk;exact⟨R,u,v,ys,hm.kept hk,ho,hg,rfl⟩
 typ:=by
  rintro w b l nx S ⟨R,u,v,ys,hm,ho,hg,rfl⟩;exact oU hm
 new:=xP
 link:=by
  rintro w b l nx S d s Ba sh ⟨R,u,v,ys,hm,ho,hg,rfl⟩ hs hnx;exact Zu hm ho hg d s Ba sh hs hnx
 unlink:=by
  rintro w b l nx S d s Ba ⟨R,u,v,ys,hm,ho,hg,rfl⟩;exact V3 hm ho hg d s Ba
 move:=by
  rintro w b l nx S d s dt ns sh ⟨R,u,v,ys,hm,ho,hg,rfl⟩ hs hnx;exact Zr hm ho hg d s dt ns sh hs hnx
 list:=by
  rintro w b l nx S d ⟨R,u,v,ys,hm,ho,hg,rfl⟩;have h:=Zt hm (fun n hn=>Al (hg.NR n) (by omega)) d;unfold VJ at h;rw[hg.open']at h;refine h.mono ?_;rintro e w' ⟨v',rfl,he,hf,hb⟩;refine⟨v',rfl,?_,hf,hb⟩;unfold D5;by_cases hd:Bc l d=0
  · obtain⟨n,rfl,_,_⟩:=hg.dir hd;rw[if_pos hd]at he ⊢;rw[DW]at he;exact he
  · rw[if_neg hd]at he ⊢;exact he
 find:=by
  rintro w b l nx S d s ⟨R,u,v,ys,hm,ho,hg,rfl⟩;exact hg.pz hm d s
 WZ:=by
  rintro w b l nx S ⟨R,u,v,ys,hm,ho,hg,rfl⟩;have h:=Zw hm;unfold VK at h;rw[O7]at h;exact h
 nodes:=by
  rintro w b l nx S ⟨R,u,v,ys,hm,ho,hg,rfl⟩;have h:=dF hm;rw[ho,hg.count]at h;exact h.mono fun e w' ⟨h1,q,h2⟩=>⟨h1,by rw[h2];exact Ao (Ad _ _) q⟩
 Am:=by
  rintro w b l nx S ⟨R,u,v,ys,hm,ho,hg,rfl⟩;exact(Pd hm).mono fun e w' ⟨h1,h2⟩=>⟨h1,by rw[h2];exact Ad _ _⟩
theorem bV {w:World}{b:Nat}{l:List Az}{nx:Int}{S:Nat→Prop}(h:Bp.Is w b l nx S):Aq l nx:=by
 obtain⟨R,u,v,ys,hm,ho,hg,_⟩:=h;exact hg
theorem bW {w:World}{b:Nat}{l:List Az}{nx:Int}{S:Nat→Prop}(h:Bp.Is w b l nx S):Calls Tryz.prog 66 #[Aj b] w fun e w'=>e=.returned (.int .i64 nx)∧w'=w:=by
 obtain⟨R,u,v,ys,hm,ho,hg,_⟩:=h;exact Pd hm
def Nh:Array Value:=(Gq 201++([.int .i64 0,.int .i64 0,.slice none 0 0,.int .i64 0]:List Value)).toArray
theorem Rz:Nh.size=406:=by
 unfold Nh;rw[FN,Bg,Ez];rfl
theorem fC (W:World):(zeroValue 96).run Tryz.prog W=.ok (.agg Nh) W:=(zero_of_info (P:=Tryz.prog) (t:=96) (v:=.agg Nh) (n:=406) (by kernel_rfl)).1 W
theorem Tryz.Jc:(Tryz.prog.info? 96).map (·.size)=some 406:=(zero_of_info (P:=Tryz.prog) (t:=96) (v:=.agg Nh) (n:=406) (by kernel_rfl)).2
section
variable {w:World}{b:Nat}{K:Nat→Int}{E:Nat→List Bq}{R:Nat→Value}{u:Nat}{v:Value}{ys:List Int}{c:Int}
theorem U5 {v:Value}(h:∃a n cap,v=.slice a n cap):v.oneCell'=true:=by
 obtain⟨a,n,cap,rfl⟩:=h;rfl
theorem UF {cs:Array Value}(h:GI cs K R u v c)(hr:∀n,n≤200→∃a m cap,R n=.slice a m cap)(hv:∃a m cap,v=.slice a m cap):cs.all (·.oneCell')=true:=by
 rw[Array.all_eq_true];intro k hk;have hs:=h.size;have key:∃x,cs[k]?=some x∧x.oneCell'=true:=by
  by_cases h1:k<402
  · rcases Nat.mod_two_eq_zero_or_one k with h2|h2
    · exact⟨_,(by have:=h.kind (k/2) (by omega);rw[show k/2*2=k by omega]at this;exact this),rfl⟩
    · exact⟨_,(by have:=h.row (k/2) (by omega);rw[show k/2*2+1=k by omega]at this;exact this),U5 (hr _ (by omega))⟩
  · have:k=402∨k=403∨k=404∨k=405:=by omega
    rcases this with rfl|rfl|rfl|rfl
    · exact⟨_,h.most,rfl⟩
    · exact⟨_,h.used,rfl⟩
    · exact⟨_,h.wait,U5 hv⟩
    · exact⟨_,h.GL,rfl⟩
 obtain⟨x,h1,h2⟩:=key;rw[Array.getElem?_eq_getElem hk]at h1;rw[Cm h1];exact h2
structure ClI (w0:World)(W:World)(b2 n:Nat)(K:Nat→Int)(E:Nat→List Bq)(R R':Nat→Value)(u:Nat)(v:Value)(ys:List Int)(c:Int):Prop where
 cells:∃cs,W.heap[b2]?=some (.cells cs 96 (0,0))∧GI cs K R' u v c
 rows:∀j,j<n→W.ownsRow (b2+1) 112 5 (R' j) (E j).length ((E j).flatMap DU)
 apart:∀i j g,i<n→j<n→(R' i).ownBlock=some g→(R' j).ownBlock=some g→i=j
 rest:∀j,n≤j→j≤200→R' j=R j
 own:Dv (b2+1) W v ys
 below:Below w0.heap.size w0 W
 at':w0.heap.size≤b2
set_option maxHeartbeats 4000000 in
theorem pO (v1 v2:Value)(l:List Bq)(w:World)(h1:DC w v1 l)(h2:DC w v2 l)(hl:l.length≤100000) :
 Calls Tryz.prog 44 #[v1,v2] w fun e w'=>e=.returned (.bool true)∧∃q,w'=w.drewN q:=by
 obtain⟨a1,Aa5,rfl⟩:=h1.len;obtain⟨a2,cap2,rfl⟩:=h2.len;have H1:=Aa h1;have H2:=Aa h2;obtain⟨n1,hn1⟩:∃n,l.length=n:=⟨_,rfl⟩;have xx:=Aa hn1;rw[hn1]at hl ⊢;clear h1 h2 hn1;go_enter Tryz.func44,Tryz.ntmps44;go_wp2;go_loopw [13] (fun iv wr=>∃i:Nat,i≤n1∧iv=.int .i64 i∧∃q,wr=w.drewN q) (fun iv _=>n1-(intOf iv).toNat)
 case atStart=>exact⟨0,by omega,rfl,0,rfl⟩
 case round =>
  obtain⟨i,hi,rfl,q,hq⟩:=hrel;have HQ:=Aa hq;clear hq;by_cases hin:i<n1
  · have hiz:(i:Int)<(n1:Int):=by omega
    obtain⟨x,hx⟩:∃x,l[i]?=some x:=⟨_,Ci (by rw[xx.out];omega)⟩;have hb:Below w.heap.size w wr:=by rw[HQ.out];exact Ao (Ad _ _) q
    obtain⟨g1,o1,rfl,hg1,r1⟩:=(AU.kept H1.out hb).at hx;obtain⟨g2,o2,rfl,hg2,r2⟩:=(AU.kept H2.out hb).at hx;obtain⟨d0,d1,d2,d3,d4⟩:=Ia r1;obtain⟨e0,e1,e2,e3,e4⟩:=Ia r2;have hcmp:=eO x x;rw[AX rfl]at hcmp;have hgd:=fun op a b=>Vv op a b x x
    clear hx r1 r2 hg1 hg2 hb;obtain⟨xn,xa,xb,xc,xd⟩:=x;simp only at d0 d1 d2 d3 d4 e0 e1 e2 e3 e4;unfold Df at hcmp hgd;go_wp2;go_quiet (fail);go_wp2;go_roundw
    case rel=>exact⟨i+1,by omega,by first|rfl|go_num,_,by rw[HQ.out,World.drewN_drewN]⟩
    case measure=>simp[intOf];omega
  · have hge:¬((i:Int)<(n1:Int)):=by omega
    go_wp2;go_ret;exact⟨rfl,q,HQ.out⟩
set_option maxHeartbeats 4000000 in
theorem xO {b':Nat}{K':Nat→Int}{E':Nat→List Bq}{R':Nat→Value}{u':Nat}{v':Value}{ys':List Int}(h:TM w b K E R u v ys c)(h':TM w b' K' E' R' u' v' ys' c)(hE:∀n,n≤200→E' n=E n)(hl:∀n,n≤200→(E n).length≤1000) :
 Calls Tryz.prog 21 #[Aj b,Aj b'] w fun e w'=>e=.returned (.bool true)∧∃q,w'=w.drewN q:=by
 have HT:=Aa h;have HT':=Aa h';have HE:=Aa hE;have HL:=Aa hl;clear h h' hE hl;go_enter Tryz.func21,Tryz.ntmps21;go_wp2;go_loopw [6] (fun iv wr=>∃i:Nat,i≤201∧iv=.int .i64 i∧∃q,wr=w.drewN q) (fun iv _=>201-(intOf iv).toNat)
 case atStart=>exact⟨0,by omega,rfl,0,rfl⟩
 case round =>
  obtain⟨i,hi,rfl,q,hq⟩:=hrel;have HQ:=Aa hq;have hb:Below w.heap.size w wr:=by rw[hq];exact Ao (Ad _ _) q
  have ht:=HT.out.below hb;have ht':=HT'.out.below hb;clear hq hb;by_cases hin:i≤200
  · have hiz:(i:Int)<201:=by omega
    have hi0:(0:Int)≤(i:Int):=by omega
    have c1:=(ht.Fs hin).1;have c2:=(ht'.Fs hin).1;have he2:=ht'.Fw hin;rw[HE.out i hin]at he2;have cS:∀p,Calls Tryz.prog 44 #[R i,R' i] (wr.drewN p) fun e w'=>e=.returned (.bool true)∧∃q,w'=(wr.drewN p).drewN q:=fun p=>pO (R i) (R' i) (E i) (wr.drewN p) (AU.kept (ht.Fw hin) (Ao (Ad _ _) p)) (AU.kept he2 (Ao (Ad _ _) p)) (by have:=HL.out i hin;omega)
    obtain⟨a1,Aa5,e1⟩:=(ht.Fw hin).len;obtain⟨a2,cap2,e2⟩:=he2.len;rw[e1]at c1 cS;rw[e2]at c2 cS;clear ht ht' he2 e1 e2;go_wp2;go_quiet ((go_at_call 44;exact Calls.quiet_of (cS _)));go_wp2;go_roundw
    case rel=>exact⟨i+1,by omega,by first|rfl|go_num,_,by rw[HQ.out,World.drewN_drewN]⟩
    case measure=>simp[intOf];omega
  · have hiz:¬(i:Int)<201:=by omega
    have c1:=ht.Mv.1;have c2:=ht'.Mv.1;have hcc:(c==c)=true:=by simp
    clear ht ht';go_wp2;go_quiet (fail);go_wp2;go_ret;exact⟨rfl,_,by rw[HQ.out,World.drewN_drewN]⟩
end
def Il (l:List Bq):Int:=match l.getLast? with
 | some x=>x.Am
 | none=>0
section
variable {w:World}{b:Nat}{K:Nat→Int}{E:Nat→List Bq}{R:Nat→Value}{u:Nat}{v:Value}{ys:List Int}{c:Int}
set_option maxHeartbeats 2000000 in
theorem OX (h:TM w b K E R u v ys c){d:Nat}(hd:d≤200)(hl:(E d).length≤1000):Calls Tryz.prog 192 #[Aj b,.int .i64 (d:Int)] w fun e w'=>e=.returned (.int .i64 (Il (E d)))∧w'=w:=by
 have c1:=(h.Fs hd).1;have he:=h.Fw hd;obtain⟨a,cap,hr⟩:=he.len;obtain⟨X,hX⟩:∃X,Il (E d)=X:=⟨_,rfl⟩;rw[hX];rw[hr]at c1 he;have hd0:(0:Int)≤(d:Int):=by omega
 have hd1:(d:Int)<201:=by omega
 cases hm:(E d).length with
 | zero =>
  have HX:Hid (X=0):=Aa (by rw[←hX,Kj hm];rfl);rw[hm]at c1;clear h he hr hX hl hm;go_enter Tryz.func192,Tryz.ntmps192;go_wp2;go_ret;exact⟨by rw[HX.out];rfl,rfl⟩
 | succ m =>
  obtain⟨x,hx⟩:∃x,(E d)[m]?=some x:=⟨_,Ci (by omega)⟩;have HX:Hid (X=x.Am):=Aa (by
   rw[←hX];unfold Il;rw[List.getLast?_eq_getElem?,hm,Nat.add_sub_cancel,hx])
  obtain⟨g,off,rfl,hg,hrg⟩:=he.at hx;obtain⟨d0,d1,d2,d3,d4⟩:=Ia hrg;rw[hm]at c1;have hz:((m:Int)+1==0)=false:=by rw[A8];omega
  have hz1:(m:Int)+1-1=(m:Int):=by omega
  have hz2:(m:Int)<(m:Int)+1:=by omega
  have hz3:¬(m:Int)+1=0:=by omega
  have hw:IntKind.i64.wrap ((m:Int)+1-1)=(m:Int):=by rw[El];omega
  have hw2:IntKind.i64.wrap (m:Int)=(m:Int):=by rw[El];omega
  clear h he hr hX hl hm hx hg hrg;go_enter Tryz.func192,Tryz.ntmps192;go_wp2;go_ret;exact⟨by rw[HX.out];rfl,rfl⟩
theorem ZI (e:Bq)(ck:Int)(q:Nat)(w:World)(hq:w.heap[q]?=some (.cells #[.int .i64 ck] 2 (0,0)))(t:Bool)(ht:decide (e.Am=ck)=t) :
 Calls Tryz.prog 204 #[Df e,.pointer (some ⟨q,0,none⟩)] w fun r w'=>r=.returned (.bool t)∧Below w.heap.size w w':=by
 obtain⟨nm,nd,dr,c0,sh⟩:=e;have p0:(w.alloc (.cells #[.string nm,.int .i64 nd,.bool dr,.int .i64 c0,.int .i64 sh] 112)).cell? ⟨q,0,none⟩=some (.int .i64 ck):=by
  rw[Fz (w:=w) (Cx w _ q (Ab hq)),Av hq];rfl
 have HB:Hid (Below w.heap.size w (w.alloc (.cells #[.string nm,.int .i64 nd,.bool dr,.int .i64 c0,.int .i64 sh] 112))):=Aa ((Ad _ _).alloc (Ae _) _);have he:(c0==ck)=t:=by rw[←ht];rfl
 clear hq ht;unfold Df;go_enter Tryz.func204,Tryz.ntmps204;go_wp2;go_ret
 first|exact⟨by rw[←he];rfl,HB.out⟩|exact⟨rfl,HB.out⟩
def QU (ck:Int):List Bq→Nat→Int
 | [],_=>-1
 | x::l,k=>if x.Am=ck then(k:Int) else QU ck l (k+1)
theorem XU (ck:Int):∀(l:List Bq) (k:Nat),-1≤QU ck l k∧(0≤QU ck l k↔l.any (fun x=>decide (x.Am=ck))=true)
 | [],k=>by unfold QU;simp
 | x::l,k=>by
  unfold QU;rw[List.any_cons];by_cases h:x.Am=ck
  · rw[if_pos h];simp[h]<;>omega
  · rw[if_neg h];have:=XU ck l (k+1);simp only[decide_eq_false h,Bool.false_or];exact this
set_option maxHeartbeats 2000000 in
theorem iP (v:Value)(l:List Bq)(q:Nat)(s:Int)(w:World)(hv:DC w v l)(hl:l.length≤1000)(hq:w.heap[q]?=some (.cells #[.int .i64 s] 2 (0,0))) :
 Calls Tryz.prog 188 #[v,.func (.func 204) #[] #[.pointer (some ⟨q,0,none⟩)]] w fun e w'=>e=.returned (.int .i64 (QU s l 0))∧Below w.heap.size w w':=by
 obtain⟨a,cap,rfl⟩:=hv.len;obtain⟨n,hn⟩:∃n,l.length=n:=⟨_,rfl⟩;rw[hn]at hl hv ⊢;have HV:=Aa hv;have HN:=Aa hn;have HQ:=Aa hq;have cC:=fun W e t (h:W.heap[q]?=some (.cells #[.int .i64 s] 2 (0,0))) (ht:decide (e.Am=s)=t)=>ZI e s q W h t ht
 unfold Df at cC;obtain⟨X,hX⟩:∃X,QU s l 0=X:=⟨_,rfl⟩;have HX:=Aa hX;rw[hX];clear hv hn hq hX;go_enter Tryz.func188,Tryz.ntmps188;go_wp2;go_loopw [8] (fun iv wr=>∃i:Nat,i≤n∧iv=.int .i64 i∧QU s (l.drop i) i=X∧Below w.heap.size w wr) (fun iv _=>n-(intOf iv).toNat)
 case atStart=>exact⟨0,by omega,rfl,HX.out,Ad _ _⟩
 case round =>
  obtain⟨i,hi,rfl,hgo,hb⟩:=hrel;have GK:=Aa hgo;have HB:=Aa hb;clear hgo;by_cases hin:i<n
  · have hiz:(i:Int)<(n:Int):=by omega
    obtain⟨x,hx⟩:∃x,l[i]?=some x:=⟨_,Ci (by rw[HN.out];omega)⟩;obtain⟨g,off,rfl,hg,hr⟩:=HV.out.at hx;obtain⟨d0,d1,d2,d3,d4⟩:=Ia (DI hr hg hb);have HG:Hid (QU s (l.drop i) i=if x.Am=s then(i:Int) else QU s (l.drop (i+1)) (i+1)):=Aa (by rw[Dh hx];rfl);obtain⟨t,ht⟩:∃t,decide (x.Am=s)=t:=⟨_,rfl⟩;have HT:=Aa ht;have wZ:=cC wr x t ((hb.block q (Ab HQ.out)).trans HQ.out) ht;clear hr hx hg cC hb ht;cases t with
    | true =>
     have HE:Hid ((i:Int)=X):=Aa (by rw[←GK.out,HG.out,if_pos (Fj HT.out)]);go_wp2_with (go_at_call 204;refine wZ.mono ?_;rintro e w2 ⟨rfl,hb2⟩);go_ret;exact⟨by rw[HE.out];rfl,HB.out.trans (hb2.mono HB.out.size)⟩
    | false =>
     have HE:Hid (QU s (l.drop (i+1)) (i+1)=X):=Aa (by rw[←GK.out,HG.out,if_neg (of_decide_eq_false HT.out)]);go_wp2_with (go_at_call 204;refine wZ.mono ?_;rintro e w2 ⟨rfl,hb2⟩);go_roundw
     case rel=>exact⟨i+1,by omega,by first|rfl|go_num,HE.out,HB.out.trans (hb2.mono HB.out.size)⟩
     case measure=>simp[intOf];omega
  · have hiz:¬(i:Int)<(n:Int):=by omega
    have HE:Hid (X=-1):=Aa (by rw[←GK.out,Jk (by rw[HN.out];omega)];rfl);clear hb cC;go_wp2;go_ret;exact⟨by rw[HE.out];rfl,HB.out⟩
theorem jH (v:Value)(l:List Bq)(q:Nat)(s:Int)(w:World)(hv:DC w v l)(hl:l.length≤1000)(hq:w.heap[q]?=some (.cells #[.int .i64 s] 2 (0,0)))(t:Bool)(ht:l.any (fun x=>decide (x.Am=s))=t) :
 Calls Tryz.prog 203 #[v,.func (.func 204) #[] #[.pointer (some ⟨q,0,none⟩)]] w fun e w'=>e=.returned (.bool t)∧Below w.heap.size w w':=by
 have cI:=iP v l q s w hv hl hq;have hp:=XU s l 0;rw[ht]at hp;generalize QU s l 0=p at *;obtain⟨a,cap,rfl⟩:=hv.len;have HT:Hid (decide (0≤p)=t):=Aa (by
  cases t with
  | true=>exact AX (hp.2.2 rfl)
  | false=>exact A7 (fun h=>by simpa using hp.2.1 h))
 clear hv hq ht hp;go_enter Tryz.func203,Tryz.ntmps203;go_wp2_with (go_at_call 188;refine cI.mono ?_;rintro e w1 ⟨rfl,hb1⟩);go_ret;exact⟨by rw[←HT.out];rfl,hb1⟩
theorem ib (k:Int)(v:Value)(l:List Bq)(q:Nat)(s:Int)(w:World)(hv:DC w v l)(hl:l.length≤1000)(hq:w.heap[q]?=some (.cells #[.int .i64 s] 2 (0,0)))(t:Bool)(ht:l.any (fun x=>decide (x.Am=s))=t) :
 Calls Tryz.prog 202 #[.agg #[.int .i64 k,v],.pointer (some ⟨q,0,none⟩)] w fun e w'=>e=.returned (.bool t)∧Below w.heap.size w w':=by
 obtain⟨a,cap,rfl⟩:=hv.len;have hb0:Below w.heap.size w (w.alloc (.cells #[.int .i64 k,.slice a l.length cap] 88)):=(Ad _ _).alloc (Ae _) _;have HB:=Aa hb0;have cC:=jH (.slice a l.length cap) l q s _ (AU.kept hv hb0) hl ((hb0.block q (Ab hq)).trans hq) t ht;clear hv hq ht hb0;go_enter Tryz.func202,Tryz.ntmps202;go_wp2_with (go_at_call 203;refine cC.mono ?_;rintro e w1 ⟨rfl,hb1⟩);go_ret;exact⟨rfl,HB.out.trans (hb1.mono HB.out.size)⟩
def Sm (E:Nat→List Bq)(ck:Int):Nat→Nat→Int
 | 0,_=>-1
 | f+1,k=>if(E k).any (fun x=>decide (x.Am=ck))=true then(k:Int) else Sm E ck f (k+1)
theorem XT (E:Nat→List Bq)(ck:Int):∀(f k:Nat),(0≤Sm E ck f k↔∃n,k≤n∧n<k+f∧(E n).any (fun x=>decide (x.Am=ck))=true)
 | 0,k=>by
  unfold Sm;constructor
  · intro h;omega
  · rintro⟨n,h1,h2,_⟩;omega
 | f+1,k=>by
  unfold Sm;by_cases h:(E k).any (fun x=>decide (x.Am=ck))=true
  · rw[if_pos h];exact⟨fun _=>⟨k,Ae _,by omega,h⟩,fun _=>by omega⟩
  · rw[if_neg h,XT E ck f (k+1)];constructor
    · rintro⟨n,h1,h2,h3⟩;exact⟨n,by omega,by omega,h3⟩
    · rintro⟨n,h1,h2,h3⟩;have:n≠k:=fun e=>h (e▸h3)
      exact⟨n,by omega,by omega,h3⟩
set_option maxHeartbeats 2000000 in
theorem iO (h:TM w b K E R u v ys c)(hE:∀n,n≤200→(E n).length≤1000)(q:Nat)(s:Int)(hq:w.heap[q]?=some (.cells #[.int .i64 s] 2 (0,0))) :
 Calls Tryz.prog 210 #[.slice (some ⟨b,0,none⟩) 201 201,.func (.func 202) #[] #[.pointer (some ⟨q,0,none⟩)]] w fun e w'=>e=.returned (.int .i64 (Sm E s 201 0))∧Below w.heap.size w w':=by
 have HV:=Aa h;have HQ:=Aa hq;have HL:=Aa hE;have cC:=fun(W:World) k x l t (h1:DC W x l) h2 h3 ht=>ib k x l q s W h1 h2 h3 t ht
 obtain⟨X,hX⟩:∃X,Sm E s 201 0=X:=⟨_,rfl⟩;have HX:=Aa hX;rw[hX];clear h hq hX hE;go_enter Tryz.func210,Tryz.ntmps210;go_wp2;go_loopw [8] (fun iv wr=>∃i:Nat,i≤201∧iv=.int .i64 i∧Sm E s (201-i) i=X∧Below w.heap.size w wr) (fun iv _=>201-(intOf iv).toNat)
 case atStart=>exact⟨0,by omega,rfl,HX.out,Ad _ _⟩
 case round =>
  obtain⟨i,hi,rfl,hgo,hb⟩:=hrel;have GK:=Aa hgo;have HB:=Aa hb;clear hgo;by_cases hin:i<201
  · have hiz:(i:Int)<201:=by omega
    have d0:=((HV.out.below hb).Lx (n:=i) (by omega)).1;have d1:=((HV.out.below hb).Fs (n:=i) (by omega)).1;have HG:Hid (Sm E s (201-i) i=if(E i).any (fun x=>decide (x.Am=s))=true then(i:Int) else Sm E s (201-(i+1)) (i+1)):=Aa (by rw[show 201-i=(201-(i+1))+1 by omega];rfl);obtain⟨t,ht⟩:∃t,(E i).any (fun x=>decide (x.Am=s))=t:=⟨_,rfl⟩;have HT:=Aa ht;have wZ:=cC wr (K i) (R i) (E i) t ((HV.out.below hb).Fw (by omega)) (HL.out i (by omega)) ((hb.block q (Ab HQ.out)).trans HQ.out) ht;clear cC hb ht;cases t with
    | true =>
     have HE:Hid ((i:Int)=X):=Aa (by rw[←GK.out,HG.out,if_pos HT.out]);go_wp2_with (go_at_call 202;refine wZ.mono ?_;rintro e w2 ⟨rfl,hb2⟩);go_ret;exact⟨by rw[HE.out];rfl,HB.out.trans (hb2.mono HB.out.size)⟩
    | false =>
     have HE:Hid (Sm E s (201-(i+1)) (i+1)=X):=Aa (by rw[←GK.out,HG.out,if_neg (by rw[HT.out];decide)]);go_wp2_with (go_at_call 202;refine wZ.mono ?_;rintro e w2 ⟨rfl,hb2⟩);go_roundw
     case rel=>exact⟨i+1,by omega,by first|rfl|go_num,HE.out,HB.out.trans (hb2.mono HB.out.size)⟩
     case measure=>simp[intOf];omega
  · have hiz:¬(i:Int)<201:=by omega
    have HE:Hid (X=-1):=Aa (by rw[←GK.out,show 201-i=0 by omega];rfl);clear hb cC;go_wp2;go_ret;exact⟨by rw[HE.out];rfl,HB.out⟩
def QE (E:Nat→List Bq)(s:Int):Prop:=∃n,n≤200∧(E n).any (fun x=>decide (x.Am=s))=true
theorem jG (h:TM w b K E R u v ys c)(hE:∀n,n≤200→(E n).length≤1000)(q:Nat)(s:Int)(hq:w.heap[q]?=some (.cells #[.int .i64 s] 2 (0,0)))(t:Bool)(ht:t=true↔QE E s) :
 Calls Tryz.prog 201 #[.slice (some ⟨b,0,none⟩) 201 201,.func (.func 202) #[] #[.pointer (some ⟨q,0,none⟩)]] w fun e w'=>e=.returned (.bool t)∧Below w.heap.size w w':=by
 have cI:=iO h hE q s hq;have hp:=XT E s 201 0;generalize Sm E s 201 0=p at *;have HT:Hid (decide (0≤p)=t):=Aa (by
  cases t with
  | true =>
   obtain⟨n,h1,h2⟩:=ht.1 rfl;exact AX (hp.2 ⟨n,by omega,by omega,h2⟩)
  | false=>exact A7 (fun h=>by
   obtain⟨n,h1,h2,h3⟩:=hp.1 h;exact absurd (ht.2 ⟨n,by omega,h3⟩) (by decide)))
 clear h hE hq ht hp;go_enter Tryz.func201,Tryz.ntmps201;go_wp2_with (go_at_call 210;refine cI.mono ?_;rintro e w1 ⟨rfl,hb1⟩);go_ret;exact⟨by rw[←HT.out];rfl,hb1⟩
theorem Yy (h:TM w b K E R u v ys c)(hE:∀n,n≤200→(E n).length≤1000)(s:Int)(t:Bool)(ht:t=true↔QE E s) :
 Calls Tryz.prog 193 #[Aj b,.int .i64 s] w fun e w'=>e=.returned (.bool t)∧Below w.heap.size w w':=by
 have hb0:Below w.heap.size w (w.alloc (.cells #[.int .i64 s] 2)):=(Ad _ _).alloc (Ae _) _;have HB:=Aa hb0;have cC:=jG (h.below hb0) hE w.heap.size s (Ai _ _) t ht;clear h hE ht hb0;go_enter Tryz.func193,Tryz.ntmps193;go_wp2_with (go_at_call 201;refine cC.mono ?_;rintro e w1 ⟨rfl,hb1⟩);go_ret;exact⟨rfl,HB.out.trans (hb1.mono HB.out.size)⟩
end
end Go.Proofs.YtdmkhmeaphaapaaGreat
