/- Kit. -/
import Derived.Test.YtdmkhmeaphaapaaGreatMZ2
import Derived.Test.YtdmkhmeaphaapaaGreatMZ3
import Derived.Test.YtdmkhmeaphaapaaGreatMZ0
set_option maxRecDepth 100000
set_option linter.unusedVariables false
set_option linter.unusedSimpArgs false
namespace Go.Proofs.YtdmkhmeaphaapaaGreat
namespace QO
open Go.RowKit Go.Sort
def EL (cs:Array Value)(m u:Nat)(v:Value):Array Value:=((cs.setIfInBounds 402 (.int .i64 (m:Int))).setIfInBounds 403 (.int .i64 (u:Int))).setIfInBounds 404 v
theorem GG (cs:Array Value)(m u:Nat)(v:Value):(EL cs m u v).size=cs.size:=by simp[EL]
theorem Dx (cs:Array Value)(m u:Nat)(v:Value)(h:cs.size=406)(k:Nat):(EL cs m u v)[k]?=if k=404 then some v else if k=403 then some (.int .i64 (u:Int)) else if k=402 then some (.int .i64 (m:Int)) else cs[k]?:=by
 unfold EL;simp only[Array.getElem?_setIfInBounds,Array.size_setIfInBounds,h]
 repeat' split
 all_goals first|rfl|omega
theorem K3 {cs ds:Array Value}(h:cs.size=ds.size)(hk:∀k,k<cs.size→cs[k]?=ds[k]?):cs=ds:=by
 apply Array.ext h;intro i h1 h2;have:=hk i h1;rw[Array.getElem?_eq_getElem h1,Array.getElem?_eq_getElem h2]at this;exact Cm this
theorem Wm (cs:Array Value)(m u:Nat)(v:Value)(h:cs.size=406)(m' u':Nat)(v':Value):EL (EL cs m u v) m' u' v'=EL cs m' u' v':=by
 apply K3 (by simp[EL]);intro k _;rw[Dx _ _ _ _ (by rw[GG,h]),Dx _ _ _ _ h,Dx _ _ _ _ h]
 repeat' split
 all_goals rfl
theorem mH (cs:Array Value)(m u:Nat)(v:Value)(h:cs.size=406)(v':Value):(EL cs m u v).setIfInBounds 404 v'=EL cs m u v':=by
 apply K3 (by simp[EL]);intro k _;rw[Array.getElem?_setIfInBounds,Dx _ _ _ _ h,Dx _ _ _ _ h,GG,h]
 repeat' split
 all_goals first|rfl|omega
theorem mI (cs:Array Value)(m u:Nat)(v:Value)(h:cs.size=406)(u':Nat):(EL cs m u v).setIfInBounds 403 (.int .i64 (u':Int))=EL cs m u' v:=by
 apply K3 (by simp[EL]);intro k _;rw[Array.getElem?_setIfInBounds,Dx _ _ _ _ h,Dx _ _ _ _ h,GG,h]
 repeat' split
 all_goals first|rfl|omega
structure ED (w0:World)(r:Option Nat)(m u b:Nat)(w:World)(v:Value)(xs:List Int):Prop where
 at':∃cs,w0.heap[b]?=some (.cells cs 96 (0,0))∧cs.size=406∧w.heap[b]?=some (.cells (EL cs m u v) 96 (0,0))
 own:Dv (b+1) w v xs
 row:∀k,v.ownBlock=some k→some k=r∨w0.heap.size≤k
 keep:GJ b r w0 w
section
variable {w0 w w':World}{r:Option Nat}{m u b:Nat}{v v':Value}{xs ys:List Int}
theorem ED.cell (h:ED w0 r m u b w v xs):w.cell? ⟨b,404,none⟩=some v∧w.frozen? ⟨b,404,none⟩=false:=by
 obtain⟨cs,_,h2,h3⟩:=h.at';exact⟨by rw[Av h3,Dx _ _ _ _ h2];rfl,BA h3 _⟩
theorem ED.cell0 (h:ED w0 r m u b w v xs):w.cell? ⟨b,402,none⟩=some (.int .i64 (m:Int))∧w.frozen? ⟨b,402,none⟩=false:=by
 obtain⟨cs,_,h2,h3⟩:=h.at';exact⟨by rw[Av h3,Dx _ _ _ _ h2];rfl,BA h3 _⟩
theorem ED.cell1 (h:ED w0 r m u b w v xs):w.cell? ⟨b,403,none⟩=some (.int .i64 (u:Int))∧w.frozen? ⟨b,403,none⟩=false:=by
 obtain⟨cs,_,h2,h3⟩:=h.at';exact⟨by rw[Av h3,Dx _ _ _ _ h2];rfl,BA h3 _⟩
theorem ED.lt (h:ED w0 r m u b w v xs):b<w.heap.size:=by
 obtain⟨cs,_,_,h3⟩:=h.at';exact Rh h3
theorem ED.away (h:ED w0 r m u b w v xs):v.ownBlock≠some b:=fun e=>by have:=(h.own.lt b e).1;omega
theorem ED.drew (h:ED w0 r m u b w v xs):ED w0 r m u b w.drew v xs:=⟨h.at',h.own.below (Ad _ _).drew,h.row,⟨h.keep.os,h.keep.tape,h.keep.output,h.keep.size,h.keep.block⟩⟩
theorem ED.drewN (h:ED w0 r m u b w v xs)(q:Nat):ED w0 r m u b (w.drewN q) v xs:=by
 induction q with
 | zero=>exact h
 | succ q ih=>exact ih.drew
theorem ED.kept {g n cap:Nat}(h:ED w0 r m u b w (.slice (some ⟨g,0,none⟩) n cap) xs)(hg:w.grownBy w' (some g))(ho:Dv (b+1) w' (.slice (some ⟨g,0,none⟩) n cap) ys):ED w0 r m u b w' (.slice (some ⟨g,0,none⟩) n cap) ys:=
 ⟨by rw[hg.block b h.lt (fun e=>h.away e.symm)];exact h.at',ho,h.row,h.keep.grown h.row hg⟩
theorem ED.now (h:ED w0 r m u b w v xs):ED w v.ownBlock m u b w v xs:=by
 obtain⟨cs,_,h2,h3⟩:=h.at';exact⟨⟨_,h3,by rw[GG];exact h2,by rw[Wm _ _ _ _ h2];exact h3⟩,h.own,fun k hk=>Or.inl hk.symm,GJ.refl _ _ _⟩
theorem ED.put (h:ED w0 r m u b w v xs)(hg:w.grownBy w' v.ownBlock)(ho:Dv (b+1) w' v' ys)(hr:∀k,v'.ownBlock=some k→some k=v.ownBlock∨w.heap.size≤k):ED w0 r m u b (w'.setCell ⟨b,404,none⟩ v') v' ys:=by
 obtain⟨cs,h1,h2,h3⟩:=h.at';have hat:w'.heap[b]?=some (.cells (EL cs m u v) 96 (0,0)):=by rw[hg.block b h.lt (fun e=>h.away e.symm)];exact h3
 refine⟨⟨cs,h1,h2,?_⟩,ho.far (fun e=>by have:=(ho.lt b e).1;omega),fun k hk=>?_,(h.keep.grown h.row hg).set 404 v'⟩
 · rw[Bj _ b 404 _ _ _ hat,mH _ _ _ _ h2]
 · rcases hr k hk with h1|h1
   · exact h.row k h1.symm
   · right;have:=h.keep.size;omega
theorem ED.use (h:ED w0 r m u b w v xs)(u':Nat):ED w0 r m u' b (w.setCell ⟨b,403,none⟩ (.int .i64 (u':Int))) v xs:=by
 obtain⟨cs,h1,h2,h3⟩:=h.at';refine⟨⟨cs,h1,h2,?_⟩,h.own.far h.away,h.row,h.keep.set 403 _⟩;rw[Bj _ b 403 _ _ _ h3,mI _ _ _ _ h2]
end
theorem Wi (w:World)(b:Nat):(follow [⟨92,0,true⟩] 254 (.val (.pointer (some ⟨b,404,none⟩)))).run Tryz.prog w=.ok (90,.var ⟨b,404,none⟩) w:=by
 kernel_rfl
theorem Jp (name:String)(K:Nat)(hi:(Tryz.prog.info? 254).bind (fun i=>(i.methods.find? (·.name==name)).map fun m=>(m.path.toList,m.func))=some ([⟨92,0,true⟩],some (K,false)))(b:Nat)(v:Value)(w:World)(h:w.cell? ⟨b,404,none⟩=some v) :
 (method 411 254 (.pointer (some ⟨b,404,none⟩)) name).run Tryz.prog w=.ok (K,v) w:=by
 obtain⟨i,hi1,hi2⟩:=Ig.1 hi;obtain⟨m,hm1,hm2⟩:=Option.map_eq_some_iff.1 hi2;simp only[Prod.mk.injEq]at hm2;obtain⟨hp,hf⟩:=hm2;have hr:=fun o=>OA w ⟨b,404,none⟩ v h o
 have yT:=Wi w b;rw[method.eq_2];simp only[Sem.run_bind,typeInfo,run_program,Result.andThen_ok,hi1,Sem.run_pure,hm1,hp,yT,hf,hr]
theorem Ku (b:Nat)(v:Value)(w:World)(h:w.cell? ⟨b,404,none⟩=some v):(method 411 254 (.pointer (some ⟨b,404,none⟩)) "Less").run Tryz.prog w=.ok (238,v) w:=Jp "Less" _ (by kernel_rfl) b v w h
theorem Kt (b:Nat)(v:Value)(w:World)(h:w.cell? ⟨b,404,none⟩=some v):(method 411 254 (.pointer (some ⟨b,404,none⟩)) "Swap").run Tryz.prog w=.ok (240,v) w:=Jp "Swap" _ (by kernel_rfl) b v w h
theorem OT (b:Nat)(v:Value)(w:World)(h:w.cell? ⟨b,404,none⟩=some v):(method 411 254 (.pointer (some ⟨b,404,none⟩)) "Len").run Tryz.prog w=.ok (152,v) w:=Jp "Len" _ (by kernel_rfl) b v w h
theorem PU (b:Nat)(w:World):(method 411 254 (.pointer (some ⟨b,404,none⟩)) "Push").run Tryz.prog w=.ok (243,.pointer (some ⟨b,404,none⟩)) w:=by kernel_rfl
theorem nC (b:Nat)(w:World):(method 411 254 (.pointer (some ⟨b,404,none⟩)) "Pop").run Tryz.prog w=.ok (242,.pointer (some ⟨b,404,none⟩)) w:=by kernel_rfl
end QO
namespace QO
open Go.RowKit Go.Sort
def N8 (wB:World)(rB:Option Nat)(mB uB b:Nat)(v:Value)(xs:List Int)(w:World)(e:Ending)(w':World):Prop:=e=.returned (.tuple #[])∧∃ys,ys.Perm xs∧Ea ys.length ys∧ED wB rB mB uB b w' v ys
set_option maxHeartbeats 2000000 in
theorem xN (wB:World)(rB:Option Nat)(mB uB b:Nat)(v:Value)(xs:List Int)(j:Nat)(w:World)(h:ED wB rB mB uB b w v xs)(hj:j<xs.length)(hu:rV xs j)(hl:xs.length≤1000) :
 Calls Tryz.prog 194 #[.iface 254 (.pointer (some ⟨b,404,none⟩)),.int .i64 j] w (N8 wB rB mB uB b v xs w):=by
 unfold N8;obtain⟨n,hn⟩:∃n,xs.length=n:=⟨_,rfl⟩;have HN:=Aa hn;rw[hn]at hj hl;have HU:=Aa hu;have JK:=Aa h;clear hn hu h;go_enter Tryz.func194,Tryz.ntmps194;go_wp2;go_loopg [1] j (fun gk jv wr=>∃(k:Nat) (ys:List Int),k=gk∧k<n∧jv=.int .i64 k∧ys.Perm xs∧rV ys k∧ED wB rB mB uB b wr v ys)
 case atStart=>exact⟨j,xs,rfl,hj,rfl,List.Perm.refl _,HU.out,JK.out⟩
 case round =>
  obtain⟨k,ys,rfl,hk,rfl,hp,hui,hbx⟩:=hrel;have HP:=Aa hp;have HI:=Aa hui;have HB:=Aa hbx;have hyl:Hid (ys.length=n):=Aa (hp.length_eq.trans HN.out);clear hp hui hbx;by_cases hk0:k=0
  · subst hk0;go_wp2;go_end0;exact⟨rfl,ys,HP.out,Oj HI.out (Or.inl rfl),HB.out⟩
  · have hk1:1≤k:=by omega
    have hkz:(((k:Int)-1)/2==(k:Int))=false:=by rw[A8];omega
    obtain⟨c0,f0⟩:=HB.out.cell;have hne:ys≠[]:=by
     intro e;have:=hyl.out;rw[e]at this;simp at this;omega
    obtain⟨g,cap,hv,hg,hgl,hcap⟩:=HB.out.2.head hne;rw[hyl.out]at hv hcap;subst hv;obtain⟨i,hi⟩:∃i,(k-1)/2=i:=⟨_,rfl⟩;have hiz:((k:Int)-1)/2=(i:Int):=by omega
    have hin:i<n:=by omega
    have hik:i≠k:=by omega
    have m1:=Ku b _ wr c0;rw[hiz]at hkz;have zV:=Aa hi;clear hne hi;cases hb:decide (ys.getD k 0<ys.getD i 0) with
    | false =>
     have cl:=SN (b+1) g n cap k i ys wr HB.out.2 hyl.out hk hin false hb;have HD:Hid (ys.getD i 0≤ys.getD k 0):=Aa (by have:=of_decide_eq_false hb;omega);clear hb;go_wp2_with (go_at_call 238;refine cl.mono ?_;rintro e w' ⟨rfl,q,rfl⟩);go_end0;exact⟨rfl,ys,HP.out,Oj HI.out (Or.inr (by rw[zV.out];exact HD.out)),HB.out.drewN q⟩
    | true =>
     have cl:=SN (b+1) g n cap k i ys wr HB.out.2 hyl.out hk hin true hb;have HD:Hid (ys.getD k 0<ys.getD i 0):=Aa (Fj hb);clear hb;go_wp2_with (go_at_call 238;refine cl.mono ?_;rintro e w' ⟨rfl,q,rfl⟩);have HM:Hid (∀q,(method 411 254 (.pointer (some ⟨b,404,none⟩)) "Swap").run Tryz.prog (wr.drewN q)=.ok (240,.slice (some ⟨g,0,none⟩) n cap) (wr.drewN q)):=Aa (fun q=>Kt b _ (wr.drewN q) (HB.out.drewN q).cell.1);have HS:Hid (∀q,Calls Tryz.prog 240 #[.slice (some ⟨g,0,none⟩) n cap,.int .i64 i,.int .i64 k] (wr.drewN q) fun e w'=>e=.returned (.tuple #[])∧Dv (b+1) w' (.slice (some ⟨g,0,none⟩) n cap) (Qo ys i k)∧wr.grownBy w' (some g)):=Aa (fun q=>(V5 (b+1) g n cap i k ys (wr.drewN q) (HB.out.drewN q).2 hg hyl.out hin hk).mono fun e w' ⟨h1,h2,h3⟩=>⟨h1,h2,Mr h3⟩);go_wp2_with (go_at_call 238;refine cl.mono ?_;rintro e w' ⟨rfl,q,rfl⟩);rw[HM.out q];have cs:=HS.out q;go_wp2_with (go_at_call 240;refine cs.mono ?_;rintro e w2 ⟨rfl,ho2,hb2⟩);have HB2:=Aa hb2;have IL:=Aa ho2;clear hb2 ho2 cs;go_roundg i
     case measure=>omega
     case rel=>exact⟨i,Qo ys i k,rfl,hin,by first|rfl|rw[hiz],(Oo (by rw[hyl.out];exact hin) (by rw[hyl.out];exact hk)).trans HP.out,by have:=Xz HI.out hk1 (by rw[hyl.out];exact hk) (by rw[zV.out];exact HD.out);rw[zV.out]at this;exact this,HB.out.kept HB2.out IL.out⟩
end QO
namespace QO
open Go.RowKit Go.Sort
def TZ (wB:World)(rB:Option Nat)(mB uB b n:Nat)(v:Value)(xs:List Int)(w:World)(e:Ending)(w':World):Prop:=(∃t:Bool,e=.returned (.bool t))∧∃ys,Lr n xs ys∧Ea n ys∧ED wB rB mB uB b w' v ys
set_option maxHeartbeats 4000000 in
theorem zh (wB:World)(rB:Option Nat)(mB uB b:Nat)(v:Value)(xs:List Int)(n:Nat)(w:World)(h:ED wB rB mB uB b w v xs)(hn:n<xs.length)(hd:QP n xs 0)(hl:xs.length≤1000) :
 Calls Tryz.prog 200 #[.iface 254 (.pointer (some ⟨b,404,none⟩)),.int .i64 0,.int .i64 n] w (TZ wB rB mB uB b n v xs w):=by
 unfold TZ;obtain⟨N,hN⟩:∃N,xs.length=N:=⟨_,rfl⟩;have HN:=Aa hN;rw[hN]at hn hl;have HU:=Aa hd;have JK:=Aa h;clear hN hd h;go_enter Tryz.func200,Tryz.ntmps200;go_wp2;go_loopg [7] (n+1) (fun gk iv wr=>∃(i:Nat) (ys:List Int),(i≤n∧i+gk=n+1)∧iv=.int .i64 i∧Lr n xs ys∧QP n ys i∧ED wB rB mB uB b wr v ys)
 case atStart=>exact⟨0,xs,by omega,rfl,⟨List.Perm.refl _,fun k hk=>rfl⟩,HU.out,JK.out⟩
 case round =>
  obtain⟨i,ys,⟨hin,hig⟩,rfl,hp,hdi,hbx⟩:=hrel;have HP:=Aa hp;have HI:=Aa hdi;have HB:=Aa hbx;have hyl:Hid (ys.length=N):=Aa (hp.1.length_eq.trans HN.out);clear hp hdi hbx;by_cases h1:2*i+1<n
  · have h1z:¬((n:Int)≤2*(i:Int)+1):=by omega
    obtain⟨c0,f0⟩:=HB.out.cell;have hne:ys≠[]:=by
     intro e;have:=hyl.out;rw[e]at this;simp at this;omega
    obtain⟨g,cap,hv,hg,hgl,hcap⟩:=HB.out.2.head hne;rw[hyl.out]at hv hcap;subst hv;clear hne;have c2:(2*i+1<N∧i<N):=by omega
    have su:Hid (∀(q x y:Nat) (t:Bool),x<N→y<N→decide (ys.getD x 0<ys.getD y 0)=t→Calls Tryz.prog 238 #[(.slice (some ⟨g,0,none⟩) N cap),.int .i64 x,.int .i64 y] (wr.drewN q) fun e w'=>e=.returned (.bool t)∧∃q',w'=wr.drewN q'):=Aa (fun q x y t hx hy ht=>(SN (b+1) g N cap x y ys (wr.drewN q) (HB.out.drewN q).2 hyl.out hx hy t ht).mono fun e w' ⟨h1,q2,h2⟩=>⟨h1,q+q2,by rw[h2,World.drewN_drewN]⟩);have HSW:Hid (∀(q x y:Nat),x<N→y<N→Calls Tryz.prog 240 #[(.slice (some ⟨g,0,none⟩) N cap),.int .i64 x,.int .i64 y] (wr.drewN q) fun e w'=>e=.returned (.tuple #[])∧Dv (b+1) w' (.slice (some ⟨g,0,none⟩) N cap) (Qo ys x y)∧wr.grownBy w' (some g)):=Aa (fun q x y hx hy=>(V5 (b+1) g N cap x y ys (wr.drewN q) (HB.out.drewN q).2 hg hyl.out hx hy).mono fun e w' ⟨h1,h2,h3⟩=>⟨h1,h2,Mr h3⟩);have rq:Hid (∀q,(method 411 254 (.pointer (some ⟨b,404,none⟩)) "Less").run Tryz.prog (wr.drewN q)=.ok (238,(.slice (some ⟨g,0,none⟩) N cap)) (wr.drewN q)):=Aa (fun q=>Ku b _ (wr.drewN q) (HB.out.drewN q).cell.1);have HMS:Hid (∀q,(method 411 254 (.pointer (some ⟨b,404,none⟩)) "Swap").run Tryz.prog (wr.drewN q)=.ok (240,(.slice (some ⟨g,0,none⟩) N cap)) (wr.drewN q)):=Aa (fun q=>Kt b _ (wr.drewN q) (HB.out.drewN q).cell.1);have m0:=Ku b _ wr c0;have c1z:(2*(i:Int)+1<(n:Int)):=by omega
    obtain⟨c2,c3⟩:=c2;by_cases h2:2*i+2<n
    · have h2z:(2*(i:Int)+2<(n:Int)):=by omega
      have c4:2*i+2<N:=by omega
      cases hb1:decide (ys.getD (2*i+2) 0<ys.getD (2*i+1) 0) with
      | false =>
       have cl1:=su.out 0 (2*i+2) (2*i+1) false c4 c2 hb1;have TU:Hid (Oa n ys i (2*i+1)):=Aa (SK h1 (Or.inr (of_decide_eq_false hb1)));clear hb1;cases hb2:decide (ys.getD (2*i+1) 0<ys.getD i 0) with
       | false =>
        have YW:=fun q=>su.out q (2*i+1) i false (by omega) c3 hb2
        have HD:Hid (¬ys.getD (2*i+1) 0<ys.getD i 0):=Aa (of_decide_eq_false hb2);have HE:Hid ((2*(i:Int)+1)=((2*i+1:Nat):Int)):=Aa (by omega);clear hb2;go_wp2_with (go_at_call 238;refine cl1.mono ?_;rintro e w' ⟨rfl,q,rfl⟩);rw[rq.out q];have qi:=YW q;clear YW;go_wp2_with (go_at_call 238;refine qi.mono ?_;rintro e w' ⟨rfl,q2,rfl⟩);go_ret;exact⟨⟨_,rfl⟩,ys,HP.out,NT HI.out TU.out (by have:=HD.out;omega),HB.out.drewN q2⟩
       | true =>
        have YW:=fun q=>su.out q (2*i+1) i true (by omega) c3 hb2
        have HD:Hid (ys.getD (2*i+1) 0<ys.getD i 0):=Aa (Fj hb2);have HE:Hid ((2*(i:Int)+1)=((2*i+1:Nat):Int)):=Aa (by omega);clear hb2;go_wp2_with (go_at_call 238;refine cl1.mono ?_;rintro e w' ⟨rfl,q,rfl⟩);rw[rq.out q];have qi:=YW q;clear YW;go_wp2_with (go_at_call 238;refine qi.mono ?_;rintro e w' ⟨rfl,q2,rfl⟩);rw[HMS.out q2];have cs:=HSW.out q2 i (2*i+1) c3 (by omega);go_wp2_with (go_at_call 240;refine cs.mono ?_;rintro e w2 ⟨rfl,ho2,Yv⟩);have HB2:=Aa Yv;have IL:=Aa ho2;clear Yv ho2 cs;go_roundg (n+1-(2*i+1))
        case measure=>omega
        case rel=>exact⟨(2*i+1),Qo ys i (2*i+1),by omega,by first|rfl|rw[HE.out]|go_num,HP.out.swap (by omega) (by omega) (by rw[hyl.out];omega),NS HI.out (by rw[hyl.out];omega) TU.out HD.out,HB.out.kept HB2.out IL.out⟩
      | true =>
       have cl1:=su.out 0 (2*i+2) (2*i+1) true c4 c2 hb1;have TU:Hid (Oa n ys i (2*i+2)):=Aa (Z4 h2 (Fj hb1));clear hb1;cases hb2:decide (ys.getD (2*i+2) 0<ys.getD i 0) with
       | false =>
        have YW:=fun q=>su.out q (2*i+2) i false (by omega) c3 hb2
        have HD:Hid (¬ys.getD (2*i+2) 0<ys.getD i 0):=Aa (of_decide_eq_false hb2);have HE:Hid ((2*(i:Int)+2)=((2*i+2:Nat):Int)):=Aa (by omega);clear hb2;go_wp2_with (go_at_call 238;refine cl1.mono ?_;rintro e w' ⟨rfl,q,rfl⟩);rw[rq.out q];have qi:=YW q;clear YW;go_wp2_with (go_at_call 238;refine qi.mono ?_;rintro e w' ⟨rfl,q2,rfl⟩);go_ret;exact⟨⟨_,rfl⟩,ys,HP.out,NT HI.out TU.out (by have:=HD.out;omega),HB.out.drewN q2⟩
       | true =>
        have YW:=fun q=>su.out q (2*i+2) i true (by omega) c3 hb2
        have HD:Hid (ys.getD (2*i+2) 0<ys.getD i 0):=Aa (Fj hb2);have HE:Hid ((2*(i:Int)+2)=((2*i+2:Nat):Int)):=Aa (by omega);clear hb2;go_wp2_with (go_at_call 238;refine cl1.mono ?_;rintro e w' ⟨rfl,q,rfl⟩);rw[rq.out q];have qi:=YW q;clear YW;go_wp2_with (go_at_call 238;refine qi.mono ?_;rintro e w' ⟨rfl,q2,rfl⟩);rw[HMS.out q2];have cs:=HSW.out q2 i (2*i+2) c3 (by omega);go_wp2_with (go_at_call 240;refine cs.mono ?_;rintro e w2 ⟨rfl,ho2,Yv⟩);have HB2:=Aa Yv;have IL:=Aa ho2;clear Yv ho2 cs;go_roundg (n+1-(2*i+2))
        case measure=>omega
        case rel=>exact⟨(2*i+2),Qo ys i (2*i+2),by omega,by first|rfl|rw[HE.out]|go_num,HP.out.swap (by omega) (by omega) (by rw[hyl.out];omega),NS HI.out (by rw[hyl.out];omega) TU.out HD.out,HB.out.kept HB2.out IL.out⟩
    · have h2z:¬(2*(i:Int)+2<(n:Int)):=by omega
      have TU:Hid (Oa n ys i (2*i+1)):=Aa (SK h1 (Or.inl h2));cases hb2:decide (ys.getD (2*i+1) 0<ys.getD i 0) with
      | false =>
       have YW:=fun q=>su.out q (2*i+1) i false (by omega) c3 hb2
       have HD:Hid (¬ys.getD (2*i+1) 0<ys.getD i 0):=Aa (of_decide_eq_false hb2);have HE:Hid ((2*(i:Int)+1)=((2*i+1:Nat):Int)):=Aa (by omega);clear hb2;have qi:=YW 0;clear YW;go_wp2_with (go_at_call 238;refine qi.mono ?_;rintro e w' ⟨rfl,q2,rfl⟩);go_ret;exact⟨⟨_,rfl⟩,ys,HP.out,NT HI.out TU.out (by have:=HD.out;omega),HB.out.drewN q2⟩
      | true =>
       have YW:=fun q=>su.out q (2*i+1) i true (by omega) c3 hb2
       have HD:Hid (ys.getD (2*i+1) 0<ys.getD i 0):=Aa (Fj hb2);have HE:Hid ((2*(i:Int)+1)=((2*i+1:Nat):Int)):=Aa (by omega);clear hb2;have qi:=YW 0;clear YW;go_wp2_with (go_at_call 238;refine qi.mono ?_;rintro e w' ⟨rfl,q2,rfl⟩);rw[HMS.out q2];have cs:=HSW.out q2 i (2*i+1) c3 (by omega);go_wp2_with (go_at_call 240;refine cs.mono ?_;rintro e w2 ⟨rfl,ho2,Yv⟩);have HB2:=Aa Yv;have IL:=Aa ho2;clear Yv ho2 cs;go_roundg (n+1-(2*i+1))
       case measure=>omega
       case rel=>exact⟨(2*i+1),Qo ys i (2*i+1),by omega,by first|rfl|rw[HE.out]|go_num,HP.out.swap (by omega) (by omega) (by rw[hyl.out];omega),NS HI.out (by rw[hyl.out];omega) TU.out HD.out,HB.out.kept HB2.out IL.out⟩
  · have h1z:((n:Int)≤2*(i:Int)+1):=by omega
    go_wp2;go_ret;exact⟨⟨_,rfl⟩,ys,HP.out,aJ HI.out (by omega),HB.out⟩
end QO
namespace QO
open Go.RowKit Go.Sort
def JD (wB:World)(rB:Option Nat)(mB uB b:Nat)(xs:List Int)(x:Int)(w:World)(e:Ending)(w':World):Prop:=e=.returned (.tuple #[])∧∃v',ED wB rB mB uB b w' v' (xs++[x])
set_option maxHeartbeats 2000000 in
theorem ZM (wB:World)(rB:Option Nat)(mB uB b:Nat)(v:Value)(xs:List Int)(x:Int)(w:World)(h:ED wB rB mB uB b w v xs)(hl:xs.length≤1000) :
 Calls Tryz.prog 243 #[.pointer (some ⟨b,404,none⟩),.iface 3 (.int .i64 x)] w (JD wB rB mB uB b xs x w):=by
 unfold JD;obtain⟨i0,hi,hz0,hz1,hz2⟩:=info_parts Tryz.WG;have hbl:b<w.heap.size:=h.lt;have HB:=Aa h;obtain⟨c0,f0⟩:=h.cell;have d0:w.drew.cell? ⟨b,404,none⟩=some v:=c0;have Ns:Hid (Dv (b+1) (w.alloc (.cells #[.int .i64 x] 3)).drew v xs):=Aa (h.own.below (((Ad _ _).alloc (Ae _) _).drew));have HOB:Hid (Dv (b+1) (w.drew.alloc (.cells #[.int .i64 x] 3)) v xs):=Aa (h.own.below (((Ad _ _).drew.alloc (Ae _) _)));have j3:(w.alloc (.cells #[.int .i64 x] 3)).cell? ⟨b,404,none⟩=some v:=by rw[Fz (w:=w) (Cx w _ b hbl)];exact c0
 have j4:(w.alloc (.cells #[.int .i64 x] 3)).drew.cell? ⟨b,404,none⟩=some v:=j3;have Ti:b+1≤(w.alloc (.cells #[.int .i64 x] 3)).drew.heap.size:=by show b+1≤(w.heap.push _).size;simp;omega
 have QN:Hid (w.heap.size≤(w.alloc (.cells #[.int .i64 x] 3)).drew.heap.size):=Aa (by show _≤(w.heap.push _).size;simp);obtain⟨cs,_,hcs2,AaT⟩:=h.at';have HQ:Hid ((EL cs mB uB v)[404]?=some v):=Aa (by rw[Dx _ _ _ _ hcs2];rfl);have xC:Hid ((w.alloc (.cells #[.int .i64 x] 3)).drew.heap[b]?=some (.cells (EL cs mB uB v) 96 (0,0))):=Aa (by
  show(w.alloc _).heap[b]?=_
  rw[Cx w _ b hbl];exact AaT)
 clear hcs2 AaT;obtain⟨a2,cap2,hv2⟩:=h.own.len;obtain⟨n,hn⟩:∃n,xs.length=n:=⟨_,rfl⟩;have HN:=Aa hn;have jc:(w.alloc (.cells #[.int .i64 x] 3)).drew.cell? ⟨w.heap.size,0,none⟩=some (.int .i64 x):=World.cell?_alloc_at _ _ _ _ rfl;have Aad:=Aa Ti;rw[hn]at hv2 hl;subst hv2;have ta:=V4 x w.drew;clear h hn;go_enter Tryz.func243,Tryz.ntmps243;go_wp2;go_region_law (first|(refine step_append_lies _ rfl _ _ 90 rfl (b+1) 3 i0 (.int .i64 0) 1 8 Tryz.underlying90 hi hz0 hz1 hz2 rfl (by decide) _ _ _ rfl (by have:=Ns.out;unfold Dv at this;rw[HN.out]at this;exact this) ⟨w.heap.size,0,none⟩ 1 1 [.int .i64 x] rfl rfl (by intro j u hj;rcases j with _|j;(simp at hj;subst hj;exact jc);(simp at hj)) (by intro u hu;simp at hu;subst hu;rfl) (by decide) (by unfold maxLen;omega) (by omega) Aad.out _ rfl ?_;intro g9 I5 w9 Jv EF Te ow;have hh9:=(EF.block b (Rh xC.out) (fun e=>by have:=(Ns.out.lt b e.symm).1;omega)).trans xC.out;have q9:w9.cell? ⟨b,404,none⟩=some (.slice a2 n cap2):=(Av hh9 404).trans HQ.out;have f9:w9.frozen? ⟨b,404,none⟩=false:=BA hh9 404))
 all_goals go_end0
 all_goals
  have hon:Dv (b+1) w9 (.slice (some ⟨g9,0,none⟩) (n+1) I5) (xs++[x]):=Dv.more (by rw[HN.out];exact Jv);have Je:w.grownBy w9 (Value.slice a2 n cap2).ownBlock:=QF (NM (w.grownBy_alloc _ _)) EF;exact⟨rfl,_,ED.put HB.out Je hon (fun k hk=>by
   simp only[Value.ownBlock,Option.some.injEq]at hk;subst hk;rcases Te with h1|h1
   · exact Or.inl h1.symm
   · right;rw[h1];exact QN.out)⟩
def Xl (wB:World)(rB:Option Nat)(mB uB b:Nat)(xs:List Int)(n:Nat)(w:World)(e:Ending)(w':World):Prop:=e=.returned (.iface 3 (.int .i64 (xs.getD n 0)))∧∃v',ED wB rB mB uB b w' v' (xs.take n)
theorem Aas (wB:World)(rB:Option Nat)(mB uB b:Nat)(v:Value)(xs:List Int)(n:Nat)(w:World)(h:ED wB rB mB uB b w v xs)(hn:xs.length=n+1)(hl:n≤1000) :
 Calls Tryz.prog 242 #[.pointer (some ⟨b,404,none⟩)] w (Xl wB rB mB uB b xs n w):=by
 unfold Xl;have hbl:b<w.heap.size:=h.lt;obtain⟨c0,f0⟩:=h.cell;obtain⟨g,cap,hv,hg,hgl,hcap⟩:=h.own.head (by intro e;rw[e]at hn;simp at hn);rw[hn]at hv hcap;subst hv;have hcx:=(h.own.cell (j:=n) (by omega)).1;have HB:=Aa h;have HX:Hid (ED wB rB mB uB b (w.setCell ⟨b,404,none⟩ (.slice (some ⟨g,0,none⟩) n cap)) (.slice (some ⟨g,0,none⟩) n cap) (xs.take n)):=Aa (ED.put h (Lc _ _) (h.own.cut hn) (fun k hk=>Or.inl hk.symm));have hnz:(n:Int)<((n+1:Nat):Int):=by omega
 have Abz:(n:Int)<(n:Int)+1:=by omega
 generalize xs.getD n 0=x at *;clear h hn;go_enter Tryz.func242,Tryz.ntmps242;go_wp2;go_ret;exact⟨rfl,_,HX.out⟩
def KP (wB:World)(rB:Option Nat)(mB uB b:Nat)(xs:List Int)(x:Int)(w:World)(e:Ending)(w':World):Prop:=e=.returned (.tuple #[])∧∃v' ys,ys.Perm (x::xs)∧Ea ys.length ys∧ED wB rB mB uB b w' v' ys
set_option maxHeartbeats 2000000 in
theorem WK (wB:World)(rB:Option Nat)(mB uB b:Nat)(v:Value)(xs:List Int)(x:Int)(w:World)(h:ED wB rB mB uB b w v xs)(hh:Ea xs.length xs)(hl:xs.length≤900) :
 Calls Tryz.prog 179 #[.iface 254 (.pointer (some ⟨b,404,none⟩)),.iface 3 (.int .i64 x)] w (KP wB rB mB uB b xs x w):=by
 unfold KP;have cP:=ZM wB rB mB uB b v xs x w h (by omega);have HH:=Aa hh;have m1:=PU b w;unfold JD at cP;obtain⟨n,hn⟩:∃n,xs.length=n:=⟨_,rfl⟩;have hxl:(xs++[x]).length=n+1:=by rw[Bg,Rx,hn]
 have rY:=Aa hxl;have uU:n≤900:=by omega
 have HU:Hid (rV (xs++[x]) n):=Aa (by rw[←hn];exact UE hh x);have HPX:Hid ((xs++[x]).Perm (x::xs)):=Aa (List.perm_append_comm);have hnz:(n:Int)+1-1=(n:Int):=by omega
 clear hh h hl hn hxl;generalize xs++[x]=zs at *;go_enter Tryz.func179,Tryz.ntmps179;go_wp2_with (go_at_call 243;refine cP.mono ?_;rintro e w2 ⟨rfl,v2,hb2⟩;obtain⟨a2,cap2,hv2⟩:=hb2.own.len;rw[rY.out]at hv2;have HB2:=Aa hb2;subst hv2;have m2:=OT b _ w2 hb2.cell.1;clear hb2);refine(Ye a2 (n+1) cap2 w2).mono ?_;rintro e w3 ⟨rfl,rfl⟩;have cU:=xN wB rB mB uB b _ zs n w2 HB2.out (by rw[rY.out];omega) HU.out (by rw[rY.out];omega);unfold N8 at cU;clear cP m1;go_wp2_with fail;refine cU.mono ?_;rintro e w4 ⟨rfl,ys,hp,wR,hbx⟩;have H1:=Aa hp;have H2:=Aa wR;have H3:=Aa hbx;clear hp wR hbx;go_wp2;go_end0;exact⟨rfl,_,ys,H1.out.trans HPX.out,H2.out,H3.out⟩
def TR (wB:World)(rB:Option Nat)(mB uB b:Nat)(xs:List Int)(w:World)(e:Ending)(w':World):Prop:=e=.returned (.iface 3 (.int .i64 (xs.getD 0 0)))∧∃v' ys,xs.Perm (xs.getD 0 0::ys)∧Ea ys.length ys∧ED wB rB mB uB b w' v' ys
theorem yG (wB:World)(rB:Option Nat)(mB uB b:Nat)(v:Value)(xs:List Int)(n:Nat)(w:World)(h:ED wB rB mB uB b w v xs)(hh:Ea xs.length xs)(hn:xs.length=n+1)(hl:n≤900) :
 Calls Tryz.prog 190 #[.iface 254 (.pointer (some ⟨b,404,none⟩))] w (TR wB rB mB uB b xs w):=by
 unfold TR;obtain⟨g,cap,hv,hg,hgl,hcap⟩:=h.own.head (by intro e;rw[e]at hn;simp at hn);rw[hn]at hv hcap;subst hv;have HB:=Aa h;have HD:Hid (QP n (Qo xs 0 n) 0):=Aa (YR hn hh);have m1:=OT b _ w h.cell.1;have m2:=Kt b _ w h.cell.1;have cS:=V5 (b+1) g (n+1) cap 0 n xs w h.2 hg hn (by omega) (by omega);have HN:=Aa hn;have hnz:(n:Int)+1-1=(n:Int):=by omega
 have HPP:Hid (∀zs,Lr n (Qo xs 0 n) zs→zs.getD n 0=xs.getD 0 0∧xs.Perm (xs.getD 0 0::zs.take n)∧zs.length=n+1):=Aa (fun zs hz=>mF hn hz);have qU:Hid ((Qo xs 0 n).length=n+1):=Aa (by rw[KY,hn]);generalize xs.getD 0 0=x at *;generalize Qo xs 0 n=ss at *;clear h hh hn;go_enter Tryz.func190,Tryz.ntmps190;go_wp2_with fail;refine(Ye _ (n+1) cap w).mono ?_;rintro e w1 ⟨rfl,rfl⟩;go_wp2_with fail;refine cS.mono ?_;rintro e w2 ⟨rfl,ho2,hb2⟩;have HB2:Hid (ED wB rB mB uB b w2 (.slice (some ⟨g,0,none⟩) (n+1) cap) ss):=Aa (HB.out.kept hb2 ho2);have cD:=zh wB rB mB uB b _ ss n w2 HB2.out (by rw[qU.out];omega) HD.out (by rw[qU.out];omega);unfold TZ at cD;clear cS m1 m2 ho2 hb2;go_wp2_with fail;refine cD.mono ?_;rintro e w3 ⟨⟨t,rfl⟩,zs,hdr,wR,hb3⟩;obtain⟨hz1,hz2,hz3⟩:=HPP.out zs hdr;have cP:=Aas wB rB mB uB b _ zs n w3 hb3 hz3 (by omega);unfold Xl at cP;rw[hz1]at cP;have HZ2:=Aa hz2;have HHP:Hid (Ea (zs.take n).length (zs.take n)):=Aa (by
  rw[show(zs.take n).length=n by rw[BV];omega];exact iR wR)
 have m3:=nC b w3;clear cD hdr wR hb3 hz1 hz2 hz3;go_wp2_with fail;refine cP.mono ?_;rintro e w4 ⟨rfl,v4,hb4⟩;have KT:=Aa hb4;clear cP hb4;go_wp2;go_ret;exact⟨rfl,v4,_,HZ2.out,HHP.out,KT.out⟩
def PD (wB:World)(rB:Option Nat)(mB uB b:Nat)(xs:List Int)(x:Int)(w:World)(e:Ending)(w':World):Prop:=e=.returned (.tuple #[])∧∃v' ys,ys.Perm (x::xs)∧Ea ys.length ys∧ED wB rB mB uB b w' v' ys
theorem qD (wB:World)(rB:Option Nat)(mB uB b:Nat)(v:Value)(xs:List Int)(x:Int)(w:World)(h:ED wB rB mB uB b w v xs)(hh:Ea xs.length xs)(hl:xs.length≤900) :
 Calls Tryz.prog 155 #[.pointer (some ⟨b,404,none⟩),.int .i64 x] w (PD wB rB mB uB b xs x w):=by
 have cH:=WK wB rB mB uB b v xs x w h hh hl;clear h hh hl;go_enter Tryz.func155,Tryz.ntmps155;go_wp2_with fail;refine cH.mono ?_;rintro e w1 ⟨rfl,h1⟩;have H1:=Aa h1;clear h1 cH;go_wp2;go_end0;exact⟨rfl,H1.out⟩
def Qg (wB:World)(rB:Option Nat)(mB uB b:Nat)(xs:List Int)(w:World)(e:Ending)(w':World):Prop:=e=.returned (.int .i64 (xs.getD 0 0))∧∃v' ys,xs.Perm (xs.getD 0 0::ys)∧Ea ys.length ys∧ED wB rB mB uB b w' v' ys
theorem uD (wB:World)(rB:Option Nat)(mB uB b:Nat)(v:Value)(xs:List Int)(n:Nat)(w:World)(h:ED wB rB mB uB b w v xs)(hh:Ea xs.length xs)(hn:xs.length=n+1)(hl:n≤900) :
 Calls Tryz.prog 168 #[.pointer (some ⟨b,404,none⟩)] w (Qg wB rB mB uB b xs w):=by
 have cH:=yG wB rB mB uB b v xs n w h hh hn hl;unfold TR at cH;unfold Qg;clear h hh hl hn;generalize xs.getD 0 0=x at *;have ta:=fun w=>V4 x w
 go_enter Tryz.func168,Tryz.ntmps168;go_wp2_with fail;refine cH.mono ?_;rintro e w1 ⟨rfl,h1⟩;have H1:=Aa h1;have ta:=V4 x w1;clear h1 cH;go_wp2;go_ret;exact⟨rfl,H1.out⟩
end QO
namespace QO
open Go.RowKit Go.Sort
def Dp (w0:World)(r:Option Nat)(m b:Nat)(w:World)(v:Value)(l:List Bool):Prop:=∃u ys,ED w0 r m u b w v ys∧Fe m u ys∧l=A9 u ys
theorem lq (w0:World)(r:Option Nat)(m b:Nat)(v:Value)(l:List Bool)(w:World)(h:Dp w0 r m b w v l) :
 Calls Tryz.prog 139 #[.pointer (some ⟨b,402,none⟩)] w fun e w' =>
  (H6 m l=0∧e=.returned (.tuple #[.int .i64 0,.bool false])∧Dp w0 r m b w' v l)∨(∃(n:Nat) (v':Value),1≤n∧n≤200∧H6 m l=n∧e=.returned (.tuple #[.int .i64 (n:Int),.bool true])∧Dp w0 r m b w' v' (l.set n true)):=by
 obtain⟨u,ys,hb,hg,rfl⟩:=h;have HB:=Aa hb;have HG:=Aa hg;have hum:=hg.um;have hm2:=hg.QW;have hyl:=hg.len;have AcA:(u:Int)≤200:=by omega
 have AcH:(m:Int)≤200:=by omega
 obtain⟨c0,f0⟩:=hb.cell0;obtain⟨c1,f1⟩:=hb.cell1;obtain⟨c2,f2⟩:=hb.cell;obtain⟨a,cap,hv⟩:=hb.own.len;have cN:=Ye a ys.length cap w;rw[←hv]at cN;have HV:=Aa hv;cases hys:ys with
 | cons y zs =>
  have cL:=uD w0 r m u b v ys zs.length w hb hg.heap (by rw[hys];rfl) (by rw[hys]at hyl;simp at hyl;omega);unfold Qg at cL;have HT:Hid (∀zs,ys.Perm (ys.getD 0 0::zs)→Ea zs.length zs→∃n:Nat,ys.getD 0 0=(n:Int)∧1≤n∧H6 m (A9 u ys)=n∧Fe m u zs∧A9 u zs=(A9 u ys).set n true):=Aa (fun zs hp hz=>hg.take hp hz);obtain⟨n,hn⟩:∃n,ys.length=n:=⟨_,rfl⟩;have hn0:(0:Int)<(n:Int):=by rw[←hn,hys];simp
  rw[hn]at cN;have HYS:=Aa hys;generalize hxx:ys.getD 0 0=x at *;rw[←hys];clear hb hg hn hys hv hyl hxx;go_enter Tryz.func139,Tryz.ntmps139;go_wp2_with fail;refine cN.mono ?_;rintro e w1 ⟨rfl,rfl⟩;go_wp2_with fail;refine cL.mono ?_;rintro e w2 ⟨rfl,v',zs',hp,hz,hb2⟩;obtain⟨k,hk1,hk2,hk3,hk4,hk5⟩:=HT.out zs' hp hz;have AaM:k≤200:=by rw[←hk3];exact Al (Vf _ _) hm2
  have H1:Hid (Dp w0 r m b w2 v' ((A9 u ys).set k true)):=Aa ⟨u,zs',hb2,hk4,hk5.symm⟩;have H2:=Aa hk3;subst hk1;clear cL cN hp hz hb2 hk3 hk4 hk5;go_wp2;go_ret2;exact Or.inr ⟨k,v',hk2,AaM,H2.out,rfl,H1.out⟩
 | nil =>
  subst hys;rw[wE]at cN;clear hb hg hv hyl;by_cases e:u=m
  · have HE:Hid (H6 m (A9 u [])=0):=Aa (HG.out.full e);subst e;go_enter Tryz.func139,Tryz.ntmps139;go_wp2_with fail;refine cN.mono ?_;rintro e w1 ⟨rfl,rfl⟩;clear cN;go_wp2;go_quiet (fail);go_wp2;go_ret2;exact Or.inl ⟨HE.out,rfl,u,[],HB.out.drewN _,HG.out,rfl⟩
  · obtain⟨h1,h2,h3⟩:=HG.out.next e;have H1:=Aa h1;have H2:=Aa h2;have H3:=Aa h3;have hez:((u:Int)==(m:Int))=false:=by rw[A8];omega
    have huz:((u:Int)+1)=((u+1:Nat):Int):=by omega
    have HZ:=Aa huz;clear h1 h2 h3 huz;go_enter Tryz.func139,Tryz.ntmps139;go_wp2_with fail;refine cN.mono ?_;rintro e w1 ⟨rfl,rfl⟩;clear cN;go_wp2;go_quiet (fail);go_wp2;go_ret2;refine Or.inr ⟨u+1,v,by omega,by omega,H1.out,by first|rfl|simp,u+1,[],?_,H2.out,H3.out.symm⟩
    first|exact(HB.out.drewN _).use (u+1)|exact HB.out.drew.use (u+1)
set_option maxHeartbeats 2000000 in
theorem oN (w0:World)(r:Option Nat)(m b:Nat)(v:Value)(l:List Bool)(x:Int)(w:World)(h:Dp w0 r m b w v l)(t:Bool)(ht:Tc m l x=t) :
 Calls Tryz.prog 144 #[.pointer (some ⟨b,402,none⟩),.int .i64 x] w fun e w'=>e=.returned (.bool t)∧∃v',Dp w0 r m b w' v' (if t=true then l.set x.toNat false else l):=by
 obtain⟨u,ys,hb,hg,rfl⟩:=h;have HB:=Aa hb;have HG:=Aa hg;have hyl:=hg.len;have r9:Hid (Dp w0 r m b w v (A9 u ys)):=Aa ⟨u,ys,hb,hg,rfl⟩;rw[hg.Tc x]at ht;obtain⟨c1,f1⟩:=hb.cell1;obtain⟨c2,f2⟩:=hb.cell;have hnb:Eo w v ys:=Eo.own hb.own;by_cases h1:x<1
 · obtain rfl:t=false:=by rw[←ht];exact A7 (fun h=>by omega)
   have h1z:decide (x<1)=true:=AX h1;clear hb hg hyl ht hnb;go_enter Tryz.func144,Tryz.ntmps144;go_wp2;go_ret;exact⟨rfl,v,r9.out⟩
 · by_cases h2:(u:Int)<x
   · obtain rfl:t=false:=by rw[←ht];exact A7 (fun h=>by omega)
     have h1z:decide (x<1)=false:=A7 h1;have h2z:decide ((u:Int)<x)=true:=AX h2;clear hb hg hyl ht hnb;go_enter Tryz.func144,Tryz.ntmps144;go_wp2;go_ret;exact⟨rfl,v,r9.out⟩
   · have h1z:decide (x<1)=false:=A7 h1;have h2z:decide ((u:Int)<x)=false:=A7 h2;by_cases h3:x∈ys
     · obtain rfl:t=false:=by rw[←ht];exact A7 (fun h=>h.2.2 h3)
       have cC:=TC v ys x w hnb (by omega) true (AX h3);clear hb hg hyl ht hnb h3;go_enter Tryz.func144,Tryz.ntmps144;go_wp2_with (go_at_call 171;refine cC.mono ?_;rintro e w1 ⟨rfl,rfl⟩);go_ret;exact⟨rfl,v,r9.out⟩
     · obtain rfl:t=true:=by rw[←ht];exact AX ⟨by omega,by omega,h3⟩
       have cC:=TC v ys x w hnb (by omega) false (A7 h3);have cA:=qD w0 r m u b v ys x w hb hg.heap (by omega);unfold PD at cA;have HGV:Hid (∀zs,zs.Perm (x::ys)→Ea zs.length zs→Fe m u zs∧A9 u zs=(A9 u ys).set x.toNat false):=Aa (fun zs hp hz=>hg.give (by omega) (by omega) h3 hp hz);clear hb hg hyl ht hnb h3;go_enter Tryz.func144,Tryz.ntmps144;go_wp2_with (go_at_call 171;refine cC.mono ?_;rintro e w1 ⟨rfl,rfl⟩);refine cA.mono ?_;rintro e w2 ⟨rfl,v',zs,hp,hz,hb2⟩;have HX:Hid (Dp w0 r m b w2 v' ((A9 u ys).set x.toNat false)):=Aa (by
        obtain⟨g1,g2⟩:=HGV.out zs hp hz;exact⟨u,zs,hb2,g1,g2.symm⟩)
       clear cA cC hp hz hb2;go_wp2;go_ret;exact⟨rfl,v',HX.out⟩
theorem Aau (w0:World)(r:Option Nat)(m b:Nat)(v:Value)(l:List Bool)(w:World)(h:Dp w0 r m b w v l) :
 Calls Tryz.prog 108 #[.pointer (some ⟨b,402,none⟩)] w fun e w'=>e=.returned (.int .i64 (Ke m l:Nat))∧∃q,w'=w.drewN q:=by
 obtain⟨u,ys,hb,hg,rfl⟩:=h;have hct:=hg.count;have hum:=hg.um;have hm2:=hg.QW;obtain⟨c1,f1⟩:=hb.cell1;obtain⟨c2,f2⟩:=hb.cell;obtain⟨a,cap,hv⟩:=hb.own.len;obtain⟨n,hn⟩:∃n,ys.length=n:=⟨_,rfl⟩;have cN:=fun w=>Ye a n cap w
 rw[hn]at hct hv;subst hv;have hz:(u:Int)-(n:Int)=((Ke m (A9 u ys):Nat):Int):=by omega
 generalize Ke m (A9 u ys)=c at *;have HZ:=Aa hz;have hu2:(u:Int)≤200:=by omega
 have hn2:(n:Int)≤200:=by omega
 clear hb hg hct hz hn;go_enter Tryz.func108,Tryz.ntmps108;go_wp2;go_quiet ((go_at_call 152;exact Calls.quiet_of_same ((cN _).mono fun _ _ h=>⟨h.1,h.2.symm⟩)));go_wp2;go_ret;exact⟨by rw[←HZ.out];rfl,_,rfl⟩
theorem Dp.now {w0:World}{r:Option Nat}{m b:Nat}{w:World}{v:Value}{l:List Bool}(h:Dp w0 r m b w v l):Dp w v.ownBlock m b w v l:=by
 obtain⟨u,ys,hx,hg,hl⟩:=h;exact⟨u,ys,hx.now,hg,hl⟩
end QO
end Go.Proofs.YtdmkhmeaphaapaaGreat
