/- Kit. -/
import Derived.Test.YtdmkhmeaphaapaaGreatCZ2
import Derived.Test.YtdmkhmeaphaapaaGreatCZ3
import Derived.Test.YtdmkhmeaphaapaaGreatCZ0
set_option maxRecDepth 100000
set_option linter.unusedVariables false
set_option linter.unusedSimpArgs false
namespace Go.Proofs.YtdmkhmeaphaapaaGreat
namespace Q0
open Go.RowKit Go.Sort
def ES (cs:Array Value)(m u:Nat)(v:Value):Array Value:=((cs.setIfInBounds 402 (.int .i64 (m:Int))).setIfInBounds 403 (.int .i64 (u:Int))).setIfInBounds 404 v
theorem GR (cs:Array Value)(m u:Nat)(v:Value):(ES cs m u v).size=cs.size:=by simp[ES]
theorem Dy (cs:Array Value)(m u:Nat)(v:Value)(h:cs.size=406)(k:Nat):(ES cs m u v)[k]?=if k=404 then some v else if k=403 then some (.int .i64 (u:Int)) else if k=402 then some (.int .i64 (m:Int)) else cs[k]?:=by
 unfold ES;simp only[Array.getElem?_setIfInBounds,Array.size_setIfInBounds,h]
 repeat' split
 all_goals first|rfl|omega
theorem Lb {cs ds:Array Value}(h:cs.size=ds.size)(hk:∀k,k<cs.size→cs[k]?=ds[k]?):cs=ds:=by
 apply Array.ext h;intro i h1 h2;have:=hk i h1;rw[Array.getElem?_eq_getElem h1,Array.getElem?_eq_getElem h2]at this;exact BS this
theorem WR (cs:Array Value)(m u:Nat)(v:Value)(h:cs.size=406)(m' u':Nat)(v':Value):ES (ES cs m u v) m' u' v'=ES cs m' u' v':=by
 apply Lb (by simp[ES]);intro k _;rw[Dy _ _ _ _ (by rw[GR,h]),Dy _ _ _ _ h,Dy _ _ _ _ h]
 repeat' split
 all_goals rfl
theorem oM (cs:Array Value)(m u:Nat)(v:Value)(h:cs.size=406)(v':Value):(ES cs m u v).setIfInBounds 404 v'=ES cs m u v':=by
 apply Lb (by simp[ES]);intro k _;rw[Array.getElem?_setIfInBounds,Dy _ _ _ _ h,Dy _ _ _ _ h,GR,h]
 repeat' split
 all_goals first|rfl|omega
theorem oN (cs:Array Value)(m u:Nat)(v:Value)(h:cs.size=406)(u':Nat):(ES cs m u v).setIfInBounds 403 (.int .i64 (u':Int))=ES cs m u' v:=by
 apply Lb (by simp[ES]);intro k _;rw[Array.getElem?_setIfInBounds,Dy _ _ _ _ h,Dy _ _ _ _ h,GR,h]
 repeat' split
 all_goals first|rfl|omega
structure EE (w0:World)(r:Option Nat)(m u b:Nat)(w:World)(v:Value)(xs:List Int):Prop where
 at':∃cs,w0.heap[b]?=some (.cells cs 96 (0,0))∧cs.size=406∧w.heap[b]?=some (.cells (ES cs m u v) 96 (0,0))
 own:Dw (b+1) w v xs
 row:∀k,v.ownBlock=some k→some k=r∨w0.heap.size≤k
 keep:GX b r w0 w
section
variable {w0 w w':World}{r:Option Nat}{m u b:Nat}{v v':Value}{xs ys:List Int}
theorem EE.cell (h:EE w0 r m u b w v xs):w.cell? ⟨b,404,none⟩=some v∧w.frozen? ⟨b,404,none⟩=false:=by
 obtain⟨cs,_,h2,h3⟩:=h.at';exact⟨by rw[Ap h3,Dy _ _ _ _ h2];rfl,BA h3 _⟩
theorem EE.cell0 (h:EE w0 r m u b w v xs):w.cell? ⟨b,402,none⟩=some (.int .i64 (m:Int))∧w.frozen? ⟨b,402,none⟩=false:=by
 obtain⟨cs,_,h2,h3⟩:=h.at';exact⟨by rw[Ap h3,Dy _ _ _ _ h2];rfl,BA h3 _⟩
theorem EE.cell1 (h:EE w0 r m u b w v xs):w.cell? ⟨b,403,none⟩=some (.int .i64 (u:Int))∧w.frozen? ⟨b,403,none⟩=false:=by
 obtain⟨cs,_,h2,h3⟩:=h.at';exact⟨by rw[Ap h3,Dy _ _ _ _ h2];rfl,BA h3 _⟩
theorem EE.lt (h:EE w0 r m u b w v xs):b<w.heap.size:=by
 obtain⟨cs,_,_,h3⟩:=h.at';exact Ry h3
theorem EE.away (h:EE w0 r m u b w v xs):v.ownBlock≠some b:=fun e=>by have:=(h.own.lt b e).1;omega
theorem EE.drew (h:EE w0 r m u b w v xs):EE w0 r m u b w.drew v xs:=⟨h.at',h.own.below (Ad _ _).drew,h.row,⟨h.keep.os,h.keep.tape,h.keep.output,h.keep.size,h.keep.block⟩⟩
theorem EE.drewN (h:EE w0 r m u b w v xs)(q:Nat):EE w0 r m u b (w.drewN q) v xs:=by
 induction q with
 | zero=>exact h
 | succ q ih=>exact ih.drew
theorem EE.kept {g n cap:Nat}(h:EE w0 r m u b w (.slice (some ⟨g,0,none⟩) n cap) xs)(hg:w.grownBy w' (some g))(ho:Dw (b+1) w' (.slice (some ⟨g,0,none⟩) n cap) ys):EE w0 r m u b w' (.slice (some ⟨g,0,none⟩) n cap) ys:=
 ⟨by rw[hg.block b h.lt (fun e=>h.away e.symm)];exact h.at',ho,h.row,h.keep.grown h.row hg⟩
theorem EE.now (h:EE w0 r m u b w v xs):EE w v.ownBlock m u b w v xs:=by
 obtain⟨cs,_,h2,h3⟩:=h.at';exact⟨⟨_,h3,by rw[GR];exact h2,by rw[WR _ _ _ _ h2];exact h3⟩,h.own,fun k hk=>Or.inl hk.symm,GX.refl _ _ _⟩
theorem EE.put (h:EE w0 r m u b w v xs)(hg:w.grownBy w' v.ownBlock)(ho:Dw (b+1) w' v' ys)(hr:∀k,v'.ownBlock=some k→some k=v.ownBlock∨w.heap.size≤k):EE w0 r m u b (w'.setCell ⟨b,404,none⟩ v') v' ys:=by
 obtain⟨cs,h1,h2,h3⟩:=h.at';have hat:w'.heap[b]?=some (.cells (ES cs m u v) 96 (0,0)):=by rw[hg.block b h.lt (fun e=>h.away e.symm)];exact h3
 refine⟨⟨cs,h1,h2,?_⟩,ho.far (fun e=>by have:=(ho.lt b e).1;omega),fun k hk=>?_,(h.keep.grown h.row hg).set 404 v'⟩
 · rw[Bn _ b 404 _ _ _ hat,oM _ _ _ _ h2]
 · rcases hr k hk with h1|h1
   · exact h.row k h1.symm
   · right;have:=h.keep.size;omega
theorem EE.use (h:EE w0 r m u b w v xs)(u':Nat):EE w0 r m u' b (w.setCell ⟨b,403,none⟩ (.int .i64 (u':Int))) v xs:=by
 obtain⟨cs,h1,h2,h3⟩:=h.at';refine⟨⟨cs,h1,h2,?_⟩,h.own.far h.away,h.row,h.keep.set 403 _⟩;rw[Bn _ b 403 _ _ _ h3,oN _ _ _ _ h2]
end
theorem WN (w:World)(b:Nat):(follow [⟨92,0,true⟩] 254 (.val (.pointer (some ⟨b,404,none⟩)))).run Tryz.prog w=.ok (90,.var ⟨b,404,none⟩) w:=by
 kernel_rfl
theorem Jz (name:String)(K:Nat)(hi:(Tryz.prog.info? 254).bind (fun i=>(i.methods.find? (·.name==name)).map fun m=>(m.path.toList,m.func))=some ([⟨92,0,true⟩],some (K,false)))(b:Nat)(v:Value)(w:World)(h:w.cell? ⟨b,404,none⟩=some v) :
 (method 411 254 (.pointer (some ⟨b,404,none⟩)) name).run Tryz.prog w=.ok (K,v) w:=by
 obtain⟨i,hi1,hi2⟩:=Iu.1 hi;obtain⟨m,hm1,hm2⟩:=Option.map_eq_some_iff.1 hi2;simp only[Prod.mk.injEq]at hm2;obtain⟨hp,hf⟩:=hm2;have hr:=fun o=>OU w ⟨b,404,none⟩ v h o
 have Aaw:=WN w b;rw[method.eq_2];simp only[Sem.run_bind,typeInfo,run_program,Result.andThen_ok,hi1,Sem.run_pure,hm1,hp,Aaw,hf,hr]
theorem KH (b:Nat)(v:Value)(w:World)(h:w.cell? ⟨b,404,none⟩=some v):(method 411 254 (.pointer (some ⟨b,404,none⟩)) "Less").run Tryz.prog w=.ok (238,v) w:=Jz "Less" _ (by kernel_rfl) b v w h
theorem KG (b:Nat)(v:Value)(w:World)(h:w.cell? ⟨b,404,none⟩=some v):(method 411 254 (.pointer (some ⟨b,404,none⟩)) "Swap").run Tryz.prog w=.ok (240,v) w:=Jz "Swap" _ (by kernel_rfl) b v w h
theorem O8 (b:Nat)(v:Value)(w:World)(h:w.cell? ⟨b,404,none⟩=some v):(method 411 254 (.pointer (some ⟨b,404,none⟩)) "Len").run Tryz.prog w=.ok (152,v) w:=Jz "Len" _ (by kernel_rfl) b v w h
theorem Qb (b:Nat)(w:World):(method 411 254 (.pointer (some ⟨b,404,none⟩)) "Push").run Tryz.prog w=.ok (243,.pointer (some ⟨b,404,none⟩)) w:=by kernel_rfl
theorem pM (b:Nat)(w:World):(method 411 254 (.pointer (some ⟨b,404,none⟩)) "Pop").run Tryz.prog w=.ok (242,.pointer (some ⟨b,404,none⟩)) w:=by kernel_rfl
end Q0
namespace Q0
open Go.RowKit Go.Sort
def Ou (wB:World)(rB:Option Nat)(mB uB b:Nat)(v:Value)(xs:List Int)(w:World)(e:Ending)(w':World):Prop:=e=.returned (.tuple #[])∧∃ys,ys.Perm xs∧Ed ys.length ys∧EE wB rB mB uB b w' v ys
set_option maxHeartbeats 2000000 in
theorem zK (wB:World)(rB:Option Nat)(mB uB b:Nat)(v:Value)(xs:List Int)(j:Nat)(w:World)(h:EE wB rB mB uB b w v xs)(hj:j<xs.length)(hu:uO xs j)(hl:xs.length≤1000) :
 Calls Tryz.prog 194 #[.iface 254 (.pointer (some ⟨b,404,none⟩)),.int .i64 j] w (Ou wB rB mB uB b v xs w):=by
 unfold Ou;obtain⟨n,hn⟩:∃n,xs.length=n:=⟨_,rfl⟩;have HN:=Aa hn;rw[hn]at hj hl;have HU:=Aa hu;have JV:=Aa h;clear hn hu h;go_enter Tryz.func194,Tryz.ntmps194;go_wp2;go_loopg [1] j (fun gk jv wr=>∃(k:Nat) (ys:List Int),k=gk∧k<n∧jv=.int .i64 k∧ys.Perm xs∧uO ys k∧EE wB rB mB uB b wr v ys)
 case atStart=>exact⟨j,xs,rfl,hj,rfl,List.Perm.refl _,HU.out,JV.out⟩
 case round =>
  obtain⟨k,ys,rfl,hk,rfl,hp,hui,hbx⟩:=hrel;have HP:=Aa hp;have HI:=Aa hui;have HB:=Aa hbx;have hyl:Hid (ys.length=n):=Aa (hp.length_eq.trans HN.out);clear hp hui hbx;by_cases hk0:k=0
  · subst hk0;go_wp2;go_end0;exact⟨rfl,ys,HP.out,OD HI.out (Or.inl rfl),HB.out⟩
  · have hk1:1≤k:=by omega
    have hkz:(((k:Int)-1)/2==(k:Int))=false:=by rw[Ba];omega
    obtain⟨c0,f0⟩:=HB.out.cell;have hne:ys≠[]:=by
     intro e;have:=hyl.out;rw[e]at this;simp at this;omega
    obtain⟨g,cap,hv,hg,hgl,hcap⟩:=HB.out.2.head hne;rw[hyl.out]at hv hcap;subst hv;obtain⟨i,hi⟩:∃i,(k-1)/2=i:=⟨_,rfl⟩;have hiz:((k:Int)-1)/2=(i:Int):=by omega
    have hin:i<n:=by omega
    have hik:i≠k:=by omega
    have m1:=KH b _ wr c0;rw[hiz]at hkz;have HIK:=Aa hi;clear hne hi;cases hb:decide (ys.getD k 0<ys.getD i 0) with
    | false =>
     have cl:=Tj (b+1) g n cap k i ys wr HB.out.2 hyl.out hk hin false hb;have HD:Hid (ys.getD i 0≤ys.getD k 0):=Aa (by have:=of_decide_eq_false hb;omega);clear hb;go_wp2_with (go_at_call 238;refine cl.mono ?_;rintro e w' ⟨rfl,q,rfl⟩);go_end0;exact⟨rfl,ys,HP.out,OD HI.out (Or.inr (by rw[HIK.out];exact HD.out)),HB.out.drewN q⟩
    | true =>
     have cl:=Tj (b+1) g n cap k i ys wr HB.out.2 hyl.out hk hin true hb;have HD:Hid (ys.getD k 0<ys.getD i 0):=Aa (FL hb);clear hb;go_wp2_with (go_at_call 238;refine cl.mono ?_;rintro e w' ⟨rfl,q,rfl⟩);have HM:Hid (∀q,(method 411 254 (.pointer (some ⟨b,404,none⟩)) "Swap").run Tryz.prog (wr.drewN q)=.ok (240,.slice (some ⟨g,0,none⟩) n cap) (wr.drewN q)):=Aa (fun q=>KG b _ (wr.drewN q) (HB.out.drewN q).cell.1);have HS:Hid (∀q,Calls Tryz.prog 240 #[.slice (some ⟨g,0,none⟩) n cap,.int .i64 i,.int .i64 k] (wr.drewN q) fun e w'=>e=.returned (.tuple #[])∧Dw (b+1) w' (.slice (some ⟨g,0,none⟩) n cap) (Qx ys i k)∧wr.grownBy w' (some g)):=Aa (fun q=>(WC (b+1) g n cap i k ys (wr.drewN q) (HB.out.drewN q).2 hg hyl.out hin hk).mono fun e w' ⟨h1,h2,h3⟩=>⟨h1,h2,MF h3⟩);go_wp2_with (go_at_call 238;refine cl.mono ?_;rintro e w' ⟨rfl,q,rfl⟩);rw[HM.out q];have cs:=HS.out q;go_wp2_with (go_at_call 240;refine cs.mono ?_;rintro e w2 ⟨rfl,ho2,hb2⟩);have HB2:=Aa hb2;have JQ:=Aa ho2;clear hb2 ho2 cs;go_roundg i
     case measure=>omega
     case rel=>exact⟨i,Qx ys i k,rfl,hin,by first|rfl|rw[hiz],(OH (by rw[hyl.out];exact hin) (by rw[hyl.out];exact hk)).trans HP.out,by have:=Ya HI.out hk1 (by rw[hyl.out];exact hk) (by rw[HIK.out];exact HD.out);rw[HIK.out]at this;exact this,HB.out.kept HB2.out JQ.out⟩
end Q0
namespace Q0
open Go.RowKit Go.Sort
def Uu (wB:World)(rB:Option Nat)(mB uB b n:Nat)(v:Value)(xs:List Int)(w:World)(e:Ending)(w':World):Prop:=(∃t:Bool,e=.returned (.bool t))∧∃ys,LB n xs ys∧Ed n ys∧EE wB rB mB uB b w' v ys
set_option maxHeartbeats 4000000 in
theorem AaG (wB:World)(rB:Option Nat)(mB uB b:Nat)(v:Value)(xs:List Int)(n:Nat)(w:World)(h:EE wB rB mB uB b w v xs)(hn:n<xs.length)(hd:Q3 n xs 0)(hl:xs.length≤1000) :
 Calls Tryz.prog 200 #[.iface 254 (.pointer (some ⟨b,404,none⟩)),.int .i64 0,.int .i64 n] w (Uu wB rB mB uB b n v xs w):=by
 unfold Uu;obtain⟨N,hN⟩:∃N,xs.length=N:=⟨_,rfl⟩;have HN:=Aa hN;rw[hN]at hn hl;have HU:=Aa hd;have JV:=Aa h;clear hN hd h;go_enter Tryz.func200,Tryz.ntmps200;go_wp2;go_loopg [7] (n+1) (fun gk iv wr=>∃(i:Nat) (ys:List Int),(i≤n∧i+gk=n+1)∧iv=.int .i64 i∧LB n xs ys∧Q3 n ys i∧EE wB rB mB uB b wr v ys)
 case atStart=>exact⟨0,xs,by omega,rfl,⟨List.Perm.refl _,fun k hk=>rfl⟩,HU.out,JV.out⟩
 case round =>
  obtain⟨i,ys,⟨hin,hig⟩,rfl,hp,hdi,hbx⟩:=hrel;have HP:=Aa hp;have HI:=Aa hdi;have HB:=Aa hbx;have hyl:Hid (ys.length=N):=Aa (hp.1.length_eq.trans HN.out);clear hp hdi hbx;by_cases h1:2*i+1<n
  · have h1z:¬((n:Int)≤2*(i:Int)+1):=by omega
    obtain⟨c0,f0⟩:=HB.out.cell;have hne:ys≠[]:=by
     intro e;have:=hyl.out;rw[e]at this;simp at this;omega
    obtain⟨g,cap,hv,hg,hgl,hcap⟩:=HB.out.2.head hne;rw[hyl.out]at hv hcap;subst hv;clear hne;have c2:(2*i+1<N∧i<N):=by omega
    have uU:Hid (∀(q x y:Nat) (t:Bool),x<N→y<N→decide (ys.getD x 0<ys.getD y 0)=t→Calls Tryz.prog 238 #[(.slice (some ⟨g,0,none⟩) N cap),.int .i64 x,.int .i64 y] (wr.drewN q) fun e w'=>e=.returned (.bool t)∧∃q',w'=wr.drewN q'):=Aa (fun q x y t hx hy ht=>(Tj (b+1) g N cap x y ys (wr.drewN q) (HB.out.drewN q).2 hyl.out hx hy t ht).mono fun e w' ⟨h1,q2,h2⟩=>⟨h1,q+q2,by rw[h2,World.drewN_drewN]⟩);have HSW:Hid (∀(q x y:Nat),x<N→y<N→Calls Tryz.prog 240 #[(.slice (some ⟨g,0,none⟩) N cap),.int .i64 x,.int .i64 y] (wr.drewN q) fun e w'=>e=.returned (.tuple #[])∧Dw (b+1) w' (.slice (some ⟨g,0,none⟩) N cap) (Qx ys x y)∧wr.grownBy w' (some g)):=Aa (fun q x y hx hy=>(WC (b+1) g N cap x y ys (wr.drewN q) (HB.out.drewN q).2 hg hyl.out hx hy).mono fun e w' ⟨h1,h2,h3⟩=>⟨h1,h2,MF h3⟩);have uw:Hid (∀q,(method 411 254 (.pointer (some ⟨b,404,none⟩)) "Less").run Tryz.prog (wr.drewN q)=.ok (238,(.slice (some ⟨g,0,none⟩) N cap)) (wr.drewN q)):=Aa (fun q=>KH b _ (wr.drewN q) (HB.out.drewN q).cell.1);have HMS:Hid (∀q,(method 411 254 (.pointer (some ⟨b,404,none⟩)) "Swap").run Tryz.prog (wr.drewN q)=.ok (240,(.slice (some ⟨g,0,none⟩) N cap)) (wr.drewN q)):=Aa (fun q=>KG b _ (wr.drewN q) (HB.out.drewN q).cell.1);have m0:=KH b _ wr c0;have c1z:(2*(i:Int)+1<(n:Int)):=by omega
    obtain⟨c2,c3⟩:=c2;by_cases h2:2*i+2<n
    · have h2z:(2*(i:Int)+2<(n:Int)):=by omega
      have c4:2*i+2<N:=by omega
      cases hb1:decide (ys.getD (2*i+2) 0<ys.getD (2*i+1) 0) with
      | false =>
       have cl1:=uU.out 0 (2*i+2) (2*i+1) false c4 c2 hb1;have Uo:Hid (Ow n ys i (2*i+1)):=Aa (Ti h1 (Or.inr (of_decide_eq_false hb1)));clear hb1;cases hb2:decide (ys.getD (2*i+1) 0<ys.getD i 0) with
       | false =>
        have Zy:=fun q=>uU.out q (2*i+1) i false (by omega) c3 hb2
        have HD:Hid (¬ys.getD (2*i+1) 0<ys.getD i 0):=Aa (of_decide_eq_false hb2);have HE:Hid ((2*(i:Int)+1)=((2*i+1:Nat):Int)):=Aa (by omega);clear hb2;go_wp2_with (go_at_call 238;refine cl1.mono ?_;rintro e w' ⟨rfl,q,rfl⟩);rw[uw.out q];have sK:=Zy q;clear Zy;go_wp2_with (go_at_call 238;refine sK.mono ?_;rintro e w' ⟨rfl,q2,rfl⟩);go_ret;exact⟨⟨_,rfl⟩,ys,HP.out,Oj HI.out Uo.out (by have:=HD.out;omega),HB.out.drewN q2⟩
       | true =>
        have Zy:=fun q=>uU.out q (2*i+1) i true (by omega) c3 hb2
        have HD:Hid (ys.getD (2*i+1) 0<ys.getD i 0):=Aa (FL hb2);have HE:Hid ((2*(i:Int)+1)=((2*i+1:Nat):Int)):=Aa (by omega);clear hb2;go_wp2_with (go_at_call 238;refine cl1.mono ?_;rintro e w' ⟨rfl,q,rfl⟩);rw[uw.out q];have sK:=Zy q;clear Zy;go_wp2_with (go_at_call 238;refine sK.mono ?_;rintro e w' ⟨rfl,q2,rfl⟩);rw[HMS.out q2];have cs:=HSW.out q2 i (2*i+1) c3 (by omega);go_wp2_with (go_at_call 240;refine cs.mono ?_;rintro e w2 ⟨rfl,ho2,Y8⟩);have HB2:=Aa Y8;have JQ:=Aa ho2;clear Y8 ho2 cs;go_roundg (n+1-(2*i+1))
        case measure=>omega
        case rel=>exact⟨(2*i+1),Qx ys i (2*i+1),by omega,by first|rfl|rw[HE.out]|go_num,HP.out.swap (by omega) (by omega) (by rw[hyl.out];omega),Oi HI.out (by rw[hyl.out];omega) Uo.out HD.out,HB.out.kept HB2.out JQ.out⟩
      | true =>
       have cl1:=uU.out 0 (2*i+2) (2*i+1) true c4 c2 hb1;have Uo:Hid (Ow n ys i (2*i+2)):=Aa (bE h2 (FL hb1));clear hb1;cases hb2:decide (ys.getD (2*i+2) 0<ys.getD i 0) with
       | false =>
        have Zy:=fun q=>uU.out q (2*i+2) i false (by omega) c3 hb2
        have HD:Hid (¬ys.getD (2*i+2) 0<ys.getD i 0):=Aa (of_decide_eq_false hb2);have HE:Hid ((2*(i:Int)+2)=((2*i+2:Nat):Int)):=Aa (by omega);clear hb2;go_wp2_with (go_at_call 238;refine cl1.mono ?_;rintro e w' ⟨rfl,q,rfl⟩);rw[uw.out q];have sK:=Zy q;clear Zy;go_wp2_with (go_at_call 238;refine sK.mono ?_;rintro e w' ⟨rfl,q2,rfl⟩);go_ret;exact⟨⟨_,rfl⟩,ys,HP.out,Oj HI.out Uo.out (by have:=HD.out;omega),HB.out.drewN q2⟩
       | true =>
        have Zy:=fun q=>uU.out q (2*i+2) i true (by omega) c3 hb2
        have HD:Hid (ys.getD (2*i+2) 0<ys.getD i 0):=Aa (FL hb2);have HE:Hid ((2*(i:Int)+2)=((2*i+2:Nat):Int)):=Aa (by omega);clear hb2;go_wp2_with (go_at_call 238;refine cl1.mono ?_;rintro e w' ⟨rfl,q,rfl⟩);rw[uw.out q];have sK:=Zy q;clear Zy;go_wp2_with (go_at_call 238;refine sK.mono ?_;rintro e w' ⟨rfl,q2,rfl⟩);rw[HMS.out q2];have cs:=HSW.out q2 i (2*i+2) c3 (by omega);go_wp2_with (go_at_call 240;refine cs.mono ?_;rintro e w2 ⟨rfl,ho2,Y8⟩);have HB2:=Aa Y8;have JQ:=Aa ho2;clear Y8 ho2 cs;go_roundg (n+1-(2*i+2))
        case measure=>omega
        case rel=>exact⟨(2*i+2),Qx ys i (2*i+2),by omega,by first|rfl|rw[HE.out]|go_num,HP.out.swap (by omega) (by omega) (by rw[hyl.out];omega),Oi HI.out (by rw[hyl.out];omega) Uo.out HD.out,HB.out.kept HB2.out JQ.out⟩
    · have h2z:¬(2*(i:Int)+2<(n:Int)):=by omega
      have Uo:Hid (Ow n ys i (2*i+1)):=Aa (Ti h1 (Or.inl h2));cases hb2:decide (ys.getD (2*i+1) 0<ys.getD i 0) with
      | false =>
       have Zy:=fun q=>uU.out q (2*i+1) i false (by omega) c3 hb2
       have HD:Hid (¬ys.getD (2*i+1) 0<ys.getD i 0):=Aa (of_decide_eq_false hb2);have HE:Hid ((2*(i:Int)+1)=((2*i+1:Nat):Int)):=Aa (by omega);clear hb2;have sK:=Zy 0;clear Zy;go_wp2_with (go_at_call 238;refine sK.mono ?_;rintro e w' ⟨rfl,q2,rfl⟩);go_ret;exact⟨⟨_,rfl⟩,ys,HP.out,Oj HI.out Uo.out (by have:=HD.out;omega),HB.out.drewN q2⟩
      | true =>
       have Zy:=fun q=>uU.out q (2*i+1) i true (by omega) c3 hb2
       have HD:Hid (ys.getD (2*i+1) 0<ys.getD i 0):=Aa (FL hb2);have HE:Hid ((2*(i:Int)+1)=((2*i+1:Nat):Int)):=Aa (by omega);clear hb2;have sK:=Zy 0;clear Zy;go_wp2_with (go_at_call 238;refine sK.mono ?_;rintro e w' ⟨rfl,q2,rfl⟩);rw[HMS.out q2];have cs:=HSW.out q2 i (2*i+1) c3 (by omega);go_wp2_with (go_at_call 240;refine cs.mono ?_;rintro e w2 ⟨rfl,ho2,Y8⟩);have HB2:=Aa Y8;have JQ:=Aa ho2;clear Y8 ho2 cs;go_roundg (n+1-(2*i+1))
       case measure=>omega
       case rel=>exact⟨(2*i+1),Qx ys i (2*i+1),by omega,by first|rfl|rw[HE.out]|go_num,HP.out.swap (by omega) (by omega) (by rw[hyl.out];omega),Oi HI.out (by rw[hyl.out];omega) Uo.out HD.out,HB.out.kept HB2.out JQ.out⟩
  · have h1z:((n:Int)≤2*(i:Int)+1):=by omega
    go_wp2;go_ret;exact⟨⟨_,rfl⟩,ys,HP.out,di HI.out (by omega),HB.out⟩
end Q0
namespace Q0
open Go.RowKit Go.Sort
def JN (wB:World)(rB:Option Nat)(mB uB b:Nat)(xs:List Int)(x:Int)(w:World)(e:Ending)(w':World):Prop:=e=.returned (.tuple #[])∧∃v',EE wB rB mB uB b w' v' (xs++[x])
set_option maxHeartbeats 2000000 in
theorem aX (wB:World)(rB:Option Nat)(mB uB b:Nat)(v:Value)(xs:List Int)(x:Int)(w:World)(h:EE wB rB mB uB b w v xs)(hl:xs.length≤1000) :
 Calls Tryz.prog 243 #[.pointer (some ⟨b,404,none⟩),.iface 3 (.int .i64 x)] w (JN wB rB mB uB b xs x w):=by
 unfold JN;obtain⟨i0,hi,hz0,hz1,hz2⟩:=info_parts Tryz.Xi;have hbl:b<w.heap.size:=h.lt;have HB:=Aa h;obtain⟨c0,f0⟩:=h.cell;have d0:w.drew.cell? ⟨b,404,none⟩=some v:=c0;have NJ:Hid (Dw (b+1) (w.alloc (.cells #[.int .i64 x] 3)).drew v xs):=Aa (h.own.below (((Ad _ _).alloc (Ae _) _).drew));have HOB:Hid (Dw (b+1) (w.drew.alloc (.cells #[.int .i64 x] 3)) v xs):=Aa (h.own.below (((Ad _ _).drew.alloc (Ae _) _)));have j3:(w.alloc (.cells #[.int .i64 x] 3)).cell? ⟨b,404,none⟩=some v:=by rw[Fj (w:=w) (Ct w _ b hbl)];exact c0
 have j4:(w.alloc (.cells #[.int .i64 x] 3)).drew.cell? ⟨b,404,none⟩=some v:=j3;have TB:b+1≤(w.alloc (.cells #[.int .i64 x] 3)).drew.heap.size:=by show b+1≤(w.heap.push _).size;simp;omega
 have Qq:Hid (w.heap.size≤(w.alloc (.cells #[.int .i64 x] 3)).drew.heap.size):=Aa (by show _≤(w.heap.push _).size;simp);obtain⟨cs,_,hcs2,AbD⟩:=h.at';have HQ:Hid ((ES cs mB uB v)[404]?=some v):=Aa (by rw[Dy _ _ _ _ hcs2];rfl);have zw:Hid ((w.alloc (.cells #[.int .i64 x] 3)).drew.heap[b]?=some (.cells (ES cs mB uB v) 96 (0,0))):=Aa (by
  show(w.alloc _).heap[b]?=_
  rw[Ct w _ b hbl];exact AbD)
 clear hcs2 AbD;obtain⟨a2,cap2,hv2⟩:=h.own.len;obtain⟨n,hn⟩:∃n,xs.length=n:=⟨_,rfl⟩;have HN:=Aa hn;have jc:(w.alloc (.cells #[.int .i64 x] 3)).drew.cell? ⟨w.heap.size,0,none⟩=some (.int .i64 x):=World.cell?_alloc_at _ _ _ _ rfl;have Aa5:=Aa TB;rw[hn]at hv2 hl;subst hv2;have ta:=WB x w.drew;clear h hn;go_enter Tryz.func243,Tryz.ntmps243;go_wp2;go_region_law (first|(refine step_append_lies _ rfl _ _ 90 rfl (b+1) 3 i0 (.int .i64 0) 1 8 Tryz.underlying90 hi hz0 hz1 hz2 rfl (by decide) _ _ _ rfl (by have:=NJ.out;unfold Dw at this;rw[HN.out]at this;exact this) ⟨w.heap.size,0,none⟩ 1 1 [.int .i64 x] rfl rfl (by intro j u hj;rcases j with _|j;(simp at hj;subst hj;exact jc);(simp at hj)) (by intro u hu;simp at hu;subst hu;rfl) (by decide) (by unfold maxLen;omega) (by omega) Aa5.out _ rfl ?_;intro g9 Je w9 JF EG Ty qD;have hh9:=(EG.block b (Ry zw.out) (fun e=>by have:=(NJ.out.lt b e.symm).1;omega)).trans zw.out;have q9:w9.cell? ⟨b,404,none⟩=some (.slice a2 n cap2):=(Ap hh9 404).trans HQ.out;have f9:w9.frozen? ⟨b,404,none⟩=false:=BA hh9 404))
 all_goals go_end0
 all_goals
  have hon:Dw (b+1) w9 (.slice (some ⟨g9,0,none⟩) (n+1) Je) (xs++[x]):=Dw.more (by rw[HN.out];exact JF);have Jn:w.grownBy w9 (Value.slice a2 n cap2).ownBlock:=QS (Oe (w.grownBy_alloc _ _)) EG;exact⟨rfl,_,EE.put HB.out Jn hon (fun k hk=>by
   simp only[Value.ownBlock,Option.some.injEq]at hk;subst hk;rcases Ty with h1|h1
   · exact Or.inl h1.symm
   · right;rw[h1];exact Qq.out)⟩
def XN (wB:World)(rB:Option Nat)(mB uB b:Nat)(xs:List Int)(n:Nat)(w:World)(e:Ending)(w':World):Prop:=e=.returned (.iface 3 (.int .i64 (xs.getD n 0)))∧∃v',EE wB rB mB uB b w' v' (xs.take n)
theorem Abf (wB:World)(rB:Option Nat)(mB uB b:Nat)(v:Value)(xs:List Int)(n:Nat)(w:World)(h:EE wB rB mB uB b w v xs)(hn:xs.length=n+1)(hl:n≤1000) :
 Calls Tryz.prog 242 #[.pointer (some ⟨b,404,none⟩)] w (XN wB rB mB uB b xs n w):=by
 unfold XN;have hbl:b<w.heap.size:=h.lt;obtain⟨c0,f0⟩:=h.cell;obtain⟨g,cap,hv,hg,hgl,hcap⟩:=h.own.head (by intro e;rw[e]at hn;simp at hn);rw[hn]at hv hcap;subst hv;have hcx:=(h.own.cell (j:=n) (by omega)).1;have HB:=Aa h;have HX:Hid (EE wB rB mB uB b (w.setCell ⟨b,404,none⟩ (.slice (some ⟨g,0,none⟩) n cap)) (.slice (some ⟨g,0,none⟩) n cap) (xs.take n)):=Aa (EE.put h (Ll _ _) (h.own.cut hn) (fun k hk=>Or.inl hk.symm));have hnz:(n:Int)<((n+1:Nat):Int):=by omega
 have Acm:(n:Int)<(n:Int)+1:=by omega
 generalize xs.getD n 0=x at *;clear h hn;go_enter Tryz.func242,Tryz.ntmps242;go_wp2;go_ret;exact⟨rfl,_,HX.out⟩
def K3 (wB:World)(rB:Option Nat)(mB uB b:Nat)(xs:List Int)(x:Int)(w:World)(e:Ending)(w':World):Prop:=e=.returned (.tuple #[])∧∃v' ys,ys.Perm (x::xs)∧Ed ys.length ys∧EE wB rB mB uB b w' v' ys
set_option maxHeartbeats 2000000 in
theorem Xm (wB:World)(rB:Option Nat)(mB uB b:Nat)(v:Value)(xs:List Int)(x:Int)(w:World)(h:EE wB rB mB uB b w v xs)(hh:Ed xs.length xs)(hl:xs.length≤900) :
 Calls Tryz.prog 179 #[.iface 254 (.pointer (some ⟨b,404,none⟩)),.iface 3 (.int .i64 x)] w (K3 wB rB mB uB b xs x w):=by
 unfold K3;have cP:=aX wB rB mB uB b v xs x w h (by omega);have HH:=Aa hh;have m1:=Qb b w;unfold JN at cP;obtain⟨n,hn⟩:∃n,xs.length=n:=⟨_,rfl⟩;have hxl:(xs++[x]).length=n+1:=by rw[A7,RP,hn]
 have uP:=Aa hxl;have xe:n≤900:=by omega
 have HU:Hid (uO (xs++[x]) n):=Aa (by rw[←hn];exact U5 hh x);have HPX:Hid ((xs++[x]).Perm (x::xs)):=Aa (List.perm_append_comm);have hnz:(n:Int)+1-1=(n:Int):=by omega
 clear hh h hl hn hxl;generalize xs++[x]=zs at *;go_enter Tryz.func179,Tryz.ntmps179;go_wp2_with (go_at_call 243;refine cP.mono ?_;rintro e w2 ⟨rfl,v2,hb2⟩;obtain⟨a2,cap2,hv2⟩:=hb2.own.len;rw[uP.out]at hv2;have HB2:=Aa hb2;subst hv2;have m2:=O8 b _ w2 hb2.cell.1;clear hb2);refine(YP a2 (n+1) cap2 w2).mono ?_;rintro e w3 ⟨rfl,rfl⟩;have cU:=zK wB rB mB uB b _ zs n w2 HB2.out (by rw[uP.out];omega) HU.out (by rw[uP.out];omega);unfold Ou at cU;clear cP m1;go_wp2_with fail;refine cU.mono ?_;rintro e w4 ⟨rfl,ys,hp,yJ,hbx⟩;have H1:=Aa hp;have H2:=Aa yJ;have H3:=Aa hbx;clear hp yJ hbx;go_wp2;go_end0;exact⟨rfl,_,ys,H1.out.trans HPX.out,H2.out,H3.out⟩
def Um (wB:World)(rB:Option Nat)(mB uB b:Nat)(xs:List Int)(w:World)(e:Ending)(w':World):Prop:=e=.returned (.iface 3 (.int .i64 (xs.getD 0 0)))∧∃v' ys,xs.Perm (xs.getD 0 0::ys)∧Ed ys.length ys∧EE wB rB mB uB b w' v' ys
theorem Aan (wB:World)(rB:Option Nat)(mB uB b:Nat)(v:Value)(xs:List Int)(n:Nat)(w:World)(h:EE wB rB mB uB b w v xs)(hh:Ed xs.length xs)(hn:xs.length=n+1)(hl:n≤900) :
 Calls Tryz.prog 190 #[.iface 254 (.pointer (some ⟨b,404,none⟩))] w (Um wB rB mB uB b xs w):=by
 unfold Um;obtain⟨g,cap,hv,hg,hgl,hcap⟩:=h.own.head (by intro e;rw[e]at hn;simp at hn);rw[hn]at hv hcap;subst hv;have HB:=Aa h;have HD:Hid (Q3 n (Qx xs 0 n) 0):=Aa (Zu hn hh);have m1:=O8 b _ w h.cell.1;have m2:=KG b _ w h.cell.1;have cS:=WC (b+1) g (n+1) cap 0 n xs w h.2 hg hn (by omega) (by omega);have HN:=Aa hn;have hnz:(n:Int)+1-1=(n:Int):=by omega
 have HPP:Hid (∀zs,LB n (Qx xs 0 n) zs→zs.getD n 0=xs.getD 0 0∧xs.Perm (xs.getD 0 0::zs.take n)∧zs.length=n+1):=Aa (fun zs hz=>oK hn hz);have ui:Hid ((Qx xs 0 n).length=n+1):=Aa (by rw[K9,hn]);generalize xs.getD 0 0=x at *;generalize Qx xs 0 n=ss at *;clear h hh hn;go_enter Tryz.func190,Tryz.ntmps190;go_wp2_with fail;refine(YP _ (n+1) cap w).mono ?_;rintro e w1 ⟨rfl,rfl⟩;go_wp2_with fail;refine cS.mono ?_;rintro e w2 ⟨rfl,ho2,hb2⟩;have HB2:Hid (EE wB rB mB uB b w2 (.slice (some ⟨g,0,none⟩) (n+1) cap) ss):=Aa (HB.out.kept hb2 ho2);have cD:=AaG wB rB mB uB b _ ss n w2 HB2.out (by rw[ui.out];omega) HD.out (by rw[ui.out];omega);unfold Uu at cD;clear cS m1 m2 ho2 hb2;go_wp2_with fail;refine cD.mono ?_;rintro e w3 ⟨⟨t,rfl⟩,zs,hdr,yJ,hb3⟩;obtain⟨hz1,hz2,hz3⟩:=HPP.out zs hdr;have cP:=Abf wB rB mB uB b _ zs n w3 hb3 hz3 (by omega);unfold XN at cP;rw[hz1]at cP;have HZ2:=Aa hz2;have HHP:Hid (Ed (zs.take n).length (zs.take n)):=Aa (by
  rw[show(zs.take n).length=n by rw[Cc];omega];exact ku yJ)
 have m3:=pM b w3;clear cD hdr yJ hb3 hz1 hz2 hz3;go_wp2_with fail;refine cP.mono ?_;rintro e w4 ⟨rfl,v4,hb4⟩;have LY:=Aa hb4;clear cP hb4;go_wp2;go_ret;exact⟨rfl,v4,_,HZ2.out,HHP.out,LY.out⟩
def PS (wB:World)(rB:Option Nat)(mB uB b:Nat)(xs:List Int)(x:Int)(w:World)(e:Ending)(w':World):Prop:=e=.returned (.tuple #[])∧∃v' ys,ys.Perm (x::xs)∧Ed ys.length ys∧EE wB rB mB uB b w' v' ys
theorem tH (wB:World)(rB:Option Nat)(mB uB b:Nat)(v:Value)(xs:List Int)(x:Int)(w:World)(h:EE wB rB mB uB b w v xs)(hh:Ed xs.length xs)(hl:xs.length≤900) :
 Calls Tryz.prog 155 #[.pointer (some ⟨b,404,none⟩),.int .i64 x] w (PS wB rB mB uB b xs x w):=by
 have cH:=Xm wB rB mB uB b v xs x w h hh hl;clear h hh hl;go_enter Tryz.func155,Tryz.ntmps155;go_wp2_with fail;refine cH.mono ?_;rintro e w1 ⟨rfl,h1⟩;have H1:=Aa h1;clear h1 cH;go_wp2;go_end0;exact⟨rfl,H1.out⟩
def Qp (wB:World)(rB:Option Nat)(mB uB b:Nat)(xs:List Int)(w:World)(e:Ending)(w':World):Prop:=e=.returned (.int .i64 (xs.getD 0 0))∧∃v' ys,xs.Perm (xs.getD 0 0::ys)∧Ed ys.length ys∧EE wB rB mB uB b w' v' ys
theorem wI (wB:World)(rB:Option Nat)(mB uB b:Nat)(v:Value)(xs:List Int)(n:Nat)(w:World)(h:EE wB rB mB uB b w v xs)(hh:Ed xs.length xs)(hn:xs.length=n+1)(hl:n≤900) :
 Calls Tryz.prog 168 #[.pointer (some ⟨b,404,none⟩)] w (Qp wB rB mB uB b xs w):=by
 have cH:=Aan wB rB mB uB b v xs n w h hh hn hl;unfold Um at cH;unfold Qp;clear h hh hl hn;generalize xs.getD 0 0=x at *;have ta:=fun w=>WB x w
 go_enter Tryz.func168,Tryz.ntmps168;go_wp2_with fail;refine cH.mono ?_;rintro e w1 ⟨rfl,h1⟩;have H1:=Aa h1;have ta:=WB x w1;clear h1 cH;go_wp2;go_ret;exact⟨rfl,H1.out⟩
end Q0
namespace Q0
open Go.RowKit Go.Sort
def Dr (w0:World)(r:Option Nat)(m b:Nat)(w:World)(v:Value)(l:List Bool):Prop:=∃u ys,EE w0 r m u b w v ys∧Fv m u ys∧l=Bc u ys
theorem nG (w0:World)(r:Option Nat)(m b:Nat)(v:Value)(l:List Bool)(w:World)(h:Dr w0 r m b w v l) :
 Calls Tryz.prog 139 #[.pointer (some ⟨b,402,none⟩)] w fun e w' =>
  (Ie m l=0∧e=.returned (.tuple #[.int .i64 0,.bool false])∧Dr w0 r m b w' v l)∨(∃(n:Nat) (v':Value),1≤n∧n≤200∧Ie m l=n∧e=.returned (.tuple #[.int .i64 (n:Int),.bool true])∧Dr w0 r m b w' v' (l.set n true)):=by
 obtain⟨u,ys,hb,hg,rfl⟩:=h;have HB:=Aa hb;have HG:=Aa hg;have hum:=hg.um;have hm2:=hg.Re;have hyl:=hg.len;have Adf:(u:Int)≤200:=by omega
 have Adm:(m:Int)≤200:=by omega
 obtain⟨c0,f0⟩:=hb.cell0;obtain⟨c1,f1⟩:=hb.cell1;obtain⟨c2,f2⟩:=hb.cell;obtain⟨a,cap,hv⟩:=hb.own.len;have cN:=YP a ys.length cap w;rw[←hv]at cN;have HV:=Aa hv;cases hys:ys with
 | cons y zs =>
  have cL:=wI w0 r m u b v ys zs.length w hb hg.heap (by rw[hys];rfl) (by rw[hys]at hyl;simp at hyl;omega);unfold Qp at cL;have HT:Hid (∀zs,ys.Perm (ys.getD 0 0::zs)→Ed zs.length zs→∃n:Nat,ys.getD 0 0=(n:Int)∧1≤n∧Ie m (Bc u ys)=n∧Fv m u zs∧Bc u zs=(Bc u ys).set n true):=Aa (fun zs hp hz=>hg.take hp hz);obtain⟨n,hn⟩:∃n,ys.length=n:=⟨_,rfl⟩;have hn0:(0:Int)<(n:Int):=by rw[←hn,hys];simp
  rw[hn]at cN;have HYS:=Aa hys;generalize hxx:ys.getD 0 0=x at *;rw[←hys];clear hb hg hn hys hv hyl hxx;go_enter Tryz.func139,Tryz.ntmps139;go_wp2_with fail;refine cN.mono ?_;rintro e w1 ⟨rfl,rfl⟩;go_wp2_with fail;refine cL.mono ?_;rintro e w2 ⟨rfl,v',zs',hp,hz,hb2⟩;obtain⟨k,hk1,hk2,hk3,hk4,hk5⟩:=HT.out zs' hp hz;have Abz:k≤200:=by rw[←hk3];exact Ao (VA _ _) hm2
  have H1:Hid (Dr w0 r m b w2 v' ((Bc u ys).set k true)):=Aa ⟨u,zs',hb2,hk4,hk5.symm⟩;have H2:=Aa hk3;subst hk1;clear cL cN hp hz hb2 hk3 hk4 hk5;go_wp2;go_ret2;exact Or.inr ⟨k,v',hk2,Abz,H2.out,rfl,H1.out⟩
 | nil =>
  subst hys;rw[yt]at cN;clear hb hg hv hyl;by_cases e:u=m
  · have HE:Hid (Ie m (Bc u [])=0):=Aa (HG.out.full e);subst e;go_enter Tryz.func139,Tryz.ntmps139;go_wp2_with fail;refine cN.mono ?_;rintro e w1 ⟨rfl,rfl⟩;clear cN;go_wp2;go_quiet (fail);go_wp2;go_ret2;exact Or.inl ⟨HE.out,rfl,u,[],HB.out.drewN _,HG.out,rfl⟩
  · obtain⟨h1,h2,h3⟩:=HG.out.next e;have H1:=Aa h1;have H2:=Aa h2;have H3:=Aa h3;have hez:((u:Int)==(m:Int))=false:=by rw[Ba];omega
    have huz:((u:Int)+1)=((u+1:Nat):Int):=by omega
    have HZ:=Aa huz;clear h1 h2 h3 huz;go_enter Tryz.func139,Tryz.ntmps139;go_wp2_with fail;refine cN.mono ?_;rintro e w1 ⟨rfl,rfl⟩;clear cN;go_wp2;go_quiet (fail);go_wp2;go_ret2;refine Or.inr ⟨u+1,v,by omega,by omega,H1.out,by first|rfl|simp,u+1,[],?_,H2.out,H3.out.symm⟩
    first|exact(HB.out.drewN _).use (u+1)|exact HB.out.drew.use (u+1)
set_option maxHeartbeats 2000000 in
theorem qM (w0:World)(r:Option Nat)(m b:Nat)(v:Value)(l:List Bool)(x:Int)(w:World)(h:Dr w0 r m b w v l)(t:Bool)(ht:Tu m l x=t) :
 Calls Tryz.prog 144 #[.pointer (some ⟨b,402,none⟩),.int .i64 x] w fun e w'=>e=.returned (.bool t)∧∃v',Dr w0 r m b w' v' (if t=true then l.set x.toNat false else l):=by
 obtain⟨u,ys,hb,hg,rfl⟩:=h;have HB:=Aa hb;have HG:=Aa hg;have hyl:=hg.len;have uR:Hid (Dr w0 r m b w v (Bc u ys)):=Aa ⟨u,ys,hb,hg,rfl⟩;rw[hg.Tu x]at ht;obtain⟨c1,f1⟩:=hb.cell1;obtain⟨c2,f2⟩:=hb.cell;have hnb:CQ w v ys:=CQ.own hb.own;by_cases h1:x<1
 · obtain rfl:t=false:=by rw[←ht];exact Bb (fun h=>by omega)
   have h1z:decide (x<1)=true:=A8 h1;clear hb hg hyl ht hnb;go_enter Tryz.func144,Tryz.ntmps144;go_wp2;go_ret;exact⟨rfl,v,uR.out⟩
 · by_cases h2:(u:Int)<x
   · obtain rfl:t=false:=by rw[←ht];exact Bb (fun h=>by omega)
     have h1z:decide (x<1)=false:=Bb h1;have h2z:decide ((u:Int)<x)=true:=A8 h2;clear hb hg hyl ht hnb;go_enter Tryz.func144,Tryz.ntmps144;go_wp2;go_ret;exact⟨rfl,v,uR.out⟩
   · have h1z:decide (x<1)=false:=Bb h1;have h2z:decide ((u:Int)<x)=false:=Bb h2;by_cases h3:x∈ys
     · obtain rfl:t=false:=by rw[←ht];exact Bb (fun h=>h.2.2 h3)
       have cC:=TZ v ys x w hnb (by omega) true (A8 h3);clear hb hg hyl ht hnb h3;go_enter Tryz.func144,Tryz.ntmps144;go_wp2_with (go_at_call 171;refine cC.mono ?_;rintro e w1 ⟨rfl,rfl⟩);go_ret;exact⟨rfl,v,uR.out⟩
     · obtain rfl:t=true:=by rw[←ht];exact A8 ⟨by omega,by omega,h3⟩
       have cC:=TZ v ys x w hnb (by omega) false (Bb h3);have cA:=tH w0 r m u b v ys x w hb hg.heap (by omega);unfold PS at cA;have HGV:Hid (∀zs,zs.Perm (x::ys)→Ed zs.length zs→Fv m u zs∧Bc u zs=(Bc u ys).set x.toNat false):=Aa (fun zs hp hz=>hg.give (by omega) (by omega) h3 hp hz);clear hb hg hyl ht hnb h3;go_enter Tryz.func144,Tryz.ntmps144;go_wp2_with (go_at_call 171;refine cC.mono ?_;rintro e w1 ⟨rfl,rfl⟩);refine cA.mono ?_;rintro e w2 ⟨rfl,v',zs,hp,hz,hb2⟩;have HX:Hid (Dr w0 r m b w2 v' ((Bc u ys).set x.toNat false)):=Aa (by
        obtain⟨g1,g2⟩:=HGV.out zs hp hz;exact⟨u,zs,hb2,g1,g2.symm⟩)
       clear cA cC hp hz hb2;go_wp2;go_ret;exact⟨rfl,v',HX.out⟩
theorem Abg (w0:World)(r:Option Nat)(m b:Nat)(v:Value)(l:List Bool)(w:World)(h:Dr w0 r m b w v l) :
 Calls Tryz.prog 108 #[.pointer (some ⟨b,402,none⟩)] w fun e w'=>e=.returned (.int .i64 (Kt m l:Nat))∧∃q,w'=w.drewN q:=by
 obtain⟨u,ys,hb,hg,rfl⟩:=h;have hct:=hg.count;have hum:=hg.um;have hm2:=hg.Re;obtain⟨c1,f1⟩:=hb.cell1;obtain⟨c2,f2⟩:=hb.cell;obtain⟨a,cap,hv⟩:=hb.own.len;obtain⟨n,hn⟩:∃n,ys.length=n:=⟨_,rfl⟩;have cN:=fun w=>YP a n cap w
 rw[hn]at hct hv;subst hv;have hz:(u:Int)-(n:Int)=((Kt m (Bc u ys):Nat):Int):=by omega
 generalize Kt m (Bc u ys)=c at *;have HZ:=Aa hz;have hu2:(u:Int)≤200:=by omega
 have hn2:(n:Int)≤200:=by omega
 clear hb hg hct hz hn;go_enter Tryz.func108,Tryz.ntmps108;go_wp2;go_quiet ((go_at_call 152;exact Calls.quiet_of_same ((cN _).mono fun _ _ h=>⟨h.1,h.2.symm⟩)));go_wp2;go_ret;exact⟨by rw[←HZ.out];rfl,_,rfl⟩
theorem Dr.now {w0:World}{r:Option Nat}{m b:Nat}{w:World}{v:Value}{l:List Bool}(h:Dr w0 r m b w v l):Dr w v.ownBlock m b w v l:=by
 obtain⟨u,ys,hx,hg,hl⟩:=h;exact⟨u,ys,hx.now,hg,hl⟩
end Q0
end Go.Proofs.YtdmkhmeaphaapaaGreat
