/- Kit. -/
import Derived.Test.YtdmkhmeaphaapaaGreatCZ1
import Derived.Test.YtdmkhmeaphaapaaGreatCZ14
import Derived.Laws.EntriesVeiled
import Derived.Test.YtdmkhmeaphaapaaGreatCZ0
set_option maxRecDepth 100000
set_option linter.unusedVariables false
set_option linter.unusedSimpArgs false
namespace Go.Proofs.YtdmkhmeaphaapaaGreat
open Go.RowKit Go.Sort
abbrev Tg:Value:=.func (.func 99) #[] #[]
abbrev K8:Value:=.func (.func 101) #[] #[]
abbrev moveF:Value:=.func (.func 103) #[] #[]
def MU (w:World)(k:Int)(f:Value):Prop:=∃g,
 (k=1∧f=.func (.func 136) #[] #[DF g]∧w.heap[g]?=some (.cells #[Tg] 181 (0,0))) ∨
 (k=2∧f=.func (.func 141) #[] #[DF g]∧w.heap[g]?=some (.cells #[K8] 184 (0,0))) ∨
 (k=3∧f=.func (.func 145) #[] #[DF g]∧w.heap[g]?=some (.cells #[moveF] 187 (0,0)))
theorem MU.below {w w':World}{k:Int}{f:Value}(h:MU w k f)(hb:Below w.heap.size w w'):MU w' k f:=by
 obtain⟨g,h|h|h⟩:=h
 · exact⟨g,Or.inl ⟨h.1,h.2.1,(hb.block g (Ab h.2.2)).trans h.2.2⟩⟩
 · exact⟨g,Or.inr (Or.inl ⟨h.1,h.2.1,(hb.block g (Ab h.2.2)).trans h.2.2⟩)⟩
 · exact⟨g,Or.inr (Or.inr ⟨h.1,h.2.1,(hb.block g (Ab h.2.2)).trans h.2.2⟩)⟩
theorem MU.form {w:World}{k:Int}{f:Value}(h:MU w k f):∃n g,f=.func n #[] #[DF g]:=by
 obtain⟨g,h|h|h⟩:=h
 · exact⟨_,g,h.2.1⟩
 · exact⟨_,g,h.2.1⟩
 · exact⟨_,g,h.2.1⟩
theorem AJ {W:World}{b:Nat}{T:TypeId}{x:De}(h:W.heap[b]?=some (.cells ⟨Qk x⟩ T (0,0))) :
 W.cell? ⟨b,0,none⟩=some (.int .i64 x.k)∧W.cell? ⟨b,1,none⟩=some (.int .i64 x.d)∧W.cell? ⟨b,2,none⟩=some (.int .i64 x.dt)∧W.cell? ⟨b,3,none⟩=some (.string x.s)∧W.cell? ⟨b,4,none⟩=some (.string x.ns)∧W.cell? ⟨b,5,none⟩=some (.bool x.Bg)∧W.cell? ⟨b,6,none⟩=some (.int .i64 x.sh):=
 ⟨Ap h 0,Ap h 1,Ap h 2,Ap h 3,Ap h 4,Ap h 5,Ap h 6⟩
theorem Be {W:World}{b:Nat}{v0 v1 v2 v3:Value}{T:TypeId}(h:W.heap[b]?=some (.cells #[v0,v1,v2,v3] T (0,0))) :
 (W.cell? ⟨b,0,none⟩=some v0∧W.cell? ⟨b,1,none⟩=some v1∧W.cell? ⟨b,2,none⟩=some v2∧W.cell? ⟨b,3,none⟩=some v3) ∧
 (W.frozen? ⟨b,0,none⟩=false∧W.frozen? ⟨b,1,none⟩=false∧W.frozen? ⟨b,2,none⟩=false∧W.frozen? ⟨b,3,none⟩=false):=
 ⟨⟨Ap h 0,Ap h 1,Ap h 2,Ap h 3⟩,BA h 0,BA h 1,BA h 2,BA h 3⟩
def IC (k:Int)(f:Value):Value:=.agg #[.bool (decide (k=1∨k=2)),.bool (decide (k=3)),.bool (decide (k=1∨k=3)),f]
abbrev VG:Value:=.agg #[.bool false,.bool false,.bool false,.nilFunc]
set_option maxHeartbeats 1000000 in
theorem pW (w:World):Calls Tryz.prog 98 #[Tg] w fun e w'=>e=.returned (.func (.func 136) #[] #[DF w.heap.size])∧w'=w.alloc (.cells #[Tg] 181):=by
 go_enter Tryz.func98,Tryz.ntmps98;go_wp2;go_ret;exact⟨rfl,rfl⟩
set_option maxHeartbeats 1000000 in
theorem ax (w:World):Calls Tryz.prog 100 #[K8] w fun e w'=>e=.returned (.func (.func 141) #[] #[DF w.heap.size])∧w'=w.alloc (.cells #[K8] 184):=by
 go_enter Tryz.func100,Tryz.ntmps100;go_wp2;go_ret;exact⟨rfl,rfl⟩
set_option maxHeartbeats 1000000 in
theorem pG (w:World):Calls Tryz.prog 102 #[moveF] w fun e w'=>e=.returned (.func (.func 145) #[] #[DF w.heap.size])∧w'=w.alloc (.cells #[moveF] 187):=by
 go_enter Tryz.func102,Tryz.ntmps102;go_wp2;go_ret;exact⟨rfl,rfl⟩
abbrev G6:Obj:=.cells #[.bool false,.bool false,.bool false,.nilFunc] 129
theorem Fb (w:World)(a b:Obj):((w.alloc a).alloc b).heap[w.heap.size+1]?=some b:=by
 have h:=Ai (w.alloc a) b;rwa[show(w.alloc a).heap.size=w.heap.size+1 by simp]at h
theorem E8 (w:World)(a b:Obj):Below w.heap.size w ((w.alloc a).alloc b):=((Ad _ w).alloc (Ae _) _).alloc (by simp) _
set_option maxHeartbeats 2000000 in
theorem JB (k:Int)(w:World)(hk:k=1∨k=2∨k=3):Calls Tryz.prog 59 #[.int .i64 k] w fun e w'=>∃f,e=.returned (.tuple #[IC k f,.bool true])∧MU w' k f∧Below w.heap.size w w':=by
 have c1:=pW;have c2:=ax;have c3:=pG;rcases hk with rfl|rfl|rfl
 · go_enter Tryz.func59,Tryz.ntmps59;go_wp2_with (go_at_call 98;refine(c1 _).mono ?_;rintro e w1 ⟨rfl,rfl⟩)
   (try simp only[Exit.inBlock,Exit.then])
   refine Bv (v:=.tuple #[IC 1 (.func (.func 136) #[] #[DF (w.heap.size+1)]),.bool true]) ?_ rfl ⟨_,rfl,⟨_,Or.inl ⟨rfl,rfl,Fb _ _ _⟩⟩,E8 _ _ _⟩;rw[CZ rfl];unfold IC;go_simp
 · go_enter Tryz.func59,Tryz.ntmps59;go_wp2_with (go_at_call 100;refine(c2 _).mono ?_;rintro e w1 ⟨rfl,rfl⟩)
   (try simp only[Exit.inBlock,Exit.then])
   refine Bv (v:=.tuple #[IC 2 (.func (.func 141) #[] #[DF (w.heap.size+1)]),.bool true]) ?_ rfl ⟨_,rfl,⟨_,Or.inr (Or.inl ⟨rfl,rfl,Fb _ _ _⟩)⟩,E8 _ _ _⟩;rw[CZ rfl];unfold IC;go_simp
 · go_enter Tryz.func59,Tryz.ntmps59;go_wp2_with (go_at_call 102;refine(c3 _).mono ?_;rintro e w1 ⟨rfl,rfl⟩)
   (try simp only[Exit.inBlock,Exit.then])
   refine Bv (v:=.tuple #[IC 3 (.func (.func 145) #[] #[DF (w.heap.size+1)]),.bool true]) ?_ rfl ⟨_,rfl,⟨_,Or.inr (Or.inr ⟨rfl,rfl,Fb _ _ _⟩)⟩,E8 _ _ _⟩;rw[CZ rfl];unfold IC;go_simp
set_option maxHeartbeats 2000000 in
theorem VC (k:Int)(w:World)(hk:¬(k=1∨k=2∨k=3)):Calls Tryz.prog 59 #[.int .i64 k] w fun e w'=>e=.returned (.tuple #[VG,.bool false])∧Below w.heap.size w w':=by
 have h1:(k==1)=false:=by rw[Ba];omega
 have h2:(k==2)=false:=by rw[Ba];omega
 have h3:(k==3)=false:=by rw[Ba];omega
 clear hk;go_enter Tryz.func59,Tryz.ntmps59;go_wp2
 (try simp only[Exit.inBlock,Exit.then])
 refine Bv (v:=.tuple #[VG,.bool false]) ?_ rfl ⟨rfl,?_⟩
 · rw[CZ rfl];go_simp
 · first|exact(Ad _ _).alloc (Ae _) _|exact((Ad _ _).alloc (Ae _) _).setCells (Ae _) _ _
def hasAll (a b c:Bool)(x:De):Bool:=(a||!x.Bg)&&(b||(decide (x.dt=0)&&decide (x.ns=⟨#[]⟩)))&&(c||decide (x.sh=0))
def KO (x:De):Bool:=decide ((x.s.size:Int)≤255)&&decide ((x.ns.size:Int)≤255)&&decide (x.d≥0)&&decide (x.d≤65535)&&decide (x.dt≥0)&&decide (x.dt≤65535)&&decide (x.sh≥0)&&decide (x.sh≤1000000)
theorem Yd (s:ByteArray):s.toList=[]↔s=⟨#[]⟩:=by
 constructor
 · intro h;rw[ByteArray.toList_eq]at h;exact ByteArray.ext (Array.toList_inj.1 h)
 · rintro rfl;rw[ByteArray.toList_eq]
set_option maxHeartbeats 2000000 in
theorem Tz (a b c:Bool)(f:Value)(x:De)(w:World):Calls Tryz.prog 115 #[.agg #[.bool a,.bool b,.bool c,f],Ga x] w fun e w'=>e=.returned (.bool (hasAll a b c x))∧Below w.heap.size w w':=by
 obtain⟨k,d,dt,s,ns,Bg,sh⟩:=x;unfold Ga hasAll;simp only;go_enter Tryz.func115,Tryz.ntmps115;go_wp2
 all_goals (go_ret;refine⟨?_,E8 _ _ _⟩;simp_all [Yd]<;>rfl)
set_option maxHeartbeats 2000000 in
theorem VK (x:De)(w:World):Calls Tryz.prog 116 #[Ga x] w fun e w'=>e=.returned (.bool (KO x))∧Below w.heap.size w w':=by
 obtain⟨k,d,dt,s,ns,Bg,sh⟩:=x;unfold Ga KO;simp only;go_enter Tryz.func116,Tryz.ntmps116;go_wp2
 all_goals (go_ret;refine⟨?_,(Ad _ w).alloc (Ae _) _⟩;simp_all<;>omega)
theorem fZ (x:De):May x↔((x.k=1∨x.k=2∨x.k=3)∧hasAll (decide (x.k=1∨x.k=2)) (decide (x.k=3)) (decide (x.k=1∨x.k=3)) x=true∧KO x=true):=by
 obtain⟨k,d,dt,s,ns,Bg,sh⟩:=x;unfold May hasAll KO;simp only[Bool.and_eq_true,Bool.or_eq_true,decide_eq_true_eq,Bool.not_eq_true'];constructor
 · rintro⟨h1,h2,h3,h4,h5,h6,h7,h8,h9⟩;refine⟨h1,⟨⟨?_,?_⟩,?_⟩,?_⟩
   · rcases h1 with rfl|rfl|rfl
     · exact Or.inl (Or.inl rfl)
     · exact Or.inl (Or.inr rfl)
     · exact Or.inr (h3 rfl)
   · rcases h2 with h2|h2
     · exact Or.inl h2
     · exact Or.inr h2
   · rcases h1 with rfl|rfl|rfl
     · exact Or.inl (Or.inl rfl)
     · exact Or.inr (h4 rfl)
     · exact Or.inl (Or.inr rfl)
   · refine⟨⟨⟨⟨⟨⟨⟨?_,?_⟩,?_⟩,?_⟩,?_⟩,?_⟩,?_⟩,?_⟩<;>omega
 · rintro⟨h1,⟨⟨a1,a2⟩,a3⟩,⟨⟨⟨⟨⟨⟨⟨b1,b2⟩,b3⟩,b4⟩,b5⟩,b6⟩,b7⟩,b8⟩⟩;refine⟨h1,?_,?_,?_,?_,?_,?_,?_,?_⟩
   · rcases a2 with h|h
     · exact Or.inl h
     · exact Or.inr h
   · rintro rfl;rcases a1 with h|h
     · omega
     · exact h
   · rintro rfl;rcases a3 with h|h
     · omega
     · exact h
   all_goals omega
structure uH (w:World)(bO b4:Nat)(x:De)(A B C:Bool)(n9:Fn)(g9:Nat)(W:World):Prop where
 d:W.heap[bO]?=some (.cells ⟨Qk x⟩ 38 (0,0))
 z:W.heap[bO+1]?=some G6
 k:W.heap[b4]?=some (.cells #[.bool A,.bool B,.bool C,.func n9 #[] #[DF g9]] 129 (0,0))
 f:MU W x.k (.func n9 #[] #[DF g9])
 b:Below bO w W
 lt:bO+1<b4
theorem uH.below {w:World}{bO b4:Nat}{x:De}{A B C:Bool}{n9:Fn}{g9:Nat}{W W':World}(h:uH w bO b4 x A B C n9 g9 W)(hb:Below W.heap.size W W'):uH w bO b4 x A B C n9 g9 W':=
 ⟨(hb.block _ (Ab h.d)).trans h.d,(hb.block _ (Ab h.z)).trans h.z,(hb.block _ (Ab h.k)).trans h.k,h.f.below hb,h.b.trans (hb.mono (by have:=Ab h.d;omega)),h.lt⟩
theorem Pf {W:World}{q:Nat}(h:W.heap[q]?=some G6)(x0 x1 x2 x3:Value):((((W.setCell ⟨q,0,none⟩ x0).setCell ⟨q,1,none⟩ x1).setCell ⟨q,2,none⟩ x2).setCell ⟨q,3,none⟩ x3).heap[q]?=some (.cells #[x0,x1,x2,x3] 129 (0,0)):=by
 rw[Bn _ q 3 _ _ _ (Bn _ q 2 _ _ _ (Bn _ q 1 _ _ _ (Bn _ q 0 _ _ _ h)))];rfl
theorem MU.put {W:World}{q:Nat}(h:W.heap[q]?=some G6){k:Int}{f:Value}(hd:MU W k f)(x0 x1 x2 x3:Value):MU ((((W.setCell ⟨q,0,none⟩ x0).setCell ⟨q,1,none⟩ x1).setCell ⟨q,2,none⟩ x2).setCell ⟨q,3,none⟩ x3) k f:=by
 have key:∀(g:Nat) (cs:Array Value) (T:TypeId),W.heap[g]?=some (.cells cs T (0,0))→T≠129→((((W.setCell ⟨q,0,none⟩ x0).setCell ⟨q,1,none⟩ x1).setCell ⟨q,2,none⟩ x2).setCell ⟨q,3,none⟩ x3).heap[g]?=some (.cells cs T (0,0)):=by
  intro g cs T hg hT;have hne:g≠q:=by
   rintro rfl;rw[h]at hg;injection hg with hg;injection hg with _ h2 _;exact hT h2.symm
  rw[Bw _ _ _ _ hne,Bw _ _ _ _ hne,Bw _ _ _ _ hne,Bw _ _ _ _ hne];exact hg
 obtain⟨g,h1|h1|h1⟩:=hd
 · exact⟨g,Or.inl ⟨h1.1,h1.2.1,key g _ _ h1.2.2 (by decide)⟩⟩
 · exact⟨g,Or.inr (Or.inl ⟨h1.1,h1.2.1,key g _ _ h1.2.2 (by decide)⟩)⟩
 · exact⟨g,Or.inr (Or.inr ⟨h1.1,h1.2.1,key g _ _ h1.2.2 (by decide)⟩)⟩
theorem Lt {B q:Nat}{W0 W:World}{x0 x1 x2 x3:Value}(h:Below B W0 W)(hq:B≤q):Below B W0 ((((W.setCell ⟨q,0,none⟩ x0).setCell ⟨q,1,none⟩ x1).setCell ⟨q,2,none⟩ x2).setCell ⟨q,3,none⟩ x3):=
 (((h.setCell (p:=⟨q,0,none⟩) hq _).setCell (p:=⟨q,1,none⟩) hq _).setCell (p:=⟨q,2,none⟩) hq _).setCell (p:=⟨q,3,none⟩) hq _
def Np (x:De)(w:World)(e:Ending)(w':World):Prop:=∃f,(e=.returned (.tuple #[IC x.k f,.int .i64 0])∧MU w' x.k f∧Below w.heap.size w w')
set_option maxHeartbeats 4000000 in
theorem RG (x:De)(w:World)(h:May x):Calls Tryz.prog 74 #[Ga x] w (Np x w):=by
 unfold Np;obtain⟨h1,h2,h3⟩:=(fZ x).1 h;have cK:=fun W=>JB x.k W h1
 have cA:=fun f W=>Tz (decide (x.k=1∨x.k=2)) (decide (x.k=3)) (decide (x.k=1∨x.k=3)) f x W
 have cR:=VK x;rw[h2]at cA;rw[h3]at cR;clear h h1 h2 h3;obtain⟨k,d,dt,s,ns,Bg,sh⟩:=x;unfold IC Ga at *;simp only at cK cA cR ⊢;generalize decide (k=1∨k=2)=A at *;generalize decide (k=3)=B at *;generalize decide (k=1∨k=3)=C at *;have HO:Hid (((w.alloc (.cells #[.int .i64 k,.int .i64 d,.int .i64 dt,.string s,.string ns,.bool Bg,.int .i64 sh] 38)).alloc G6).heap[w.heap.size]?=some (.cells ⟨Qk ⟨k,d,dt,s,ns,Bg,sh⟩⟩ 38 (0,0))):=Aa (by rw[Lib.alloc_old _ _ _ (by simp)];exact Ai _ _);have HZ:Hid (((w.alloc (.cells #[.int .i64 k,.int .i64 d,.int .i64 dt,.string s,.string ns,.bool Bg,.int .i64 sh] 38)).alloc G6).heap[w.heap.size+1]?=some G6):=Aa (Fb _ _ _);have HB0:=Aa (E8 w (.cells #[.int .i64 k,.int .i64 d,.int .i64 dt,.string s,.string ns,.bool Bg,.int .i64 sh] 38) G6);unfold G6 at HO HZ HB0;go_enter Tryz.func74,Tryz.ntmps74;go_upto_region 1 with fail;generalize ((w.alloc (.cells #[.int .i64 k,.int .i64 d,.int .i64 dt,.string s,.string ns,.bool Bg,.int .i64 sh] 38)).alloc (.cells #[.bool false,.bool false,.bool false,.nilFunc] 129))=W0 at *;have k0:=(AJ HO.out).1;have Qq:Hid (w.heap.size+1<W0.heap.size):=Aa (Ab HZ.out);generalize NF:w.heap.size=bO at *;go_upto_region 2 with(go_at_call 59;refine(cK _).mono ?_;rintro e w1 ⟨f,rfl,hd1,hb1⟩;obtain⟨n9,g9,rfl⟩:=hd1.form;have HD1:=Aa hd1;have HB1:=Aa hb1;clear hd1 hb1);have HA:Hid (uH w bO w1.heap.size ⟨k,d,dt,s,ns,Bg,sh⟩ A B C n9 g9 (w1.alloc (.cells #[.bool A,.bool B,.bool C,.func n9 #[] #[DF g9]] 129))):=by
  have hs1:=HB1.out.size;have Rh:Below w1.heap.size w1 (w1.alloc (.cells #[.bool A,.bool B,.bool C,.func n9 #[] #[DF g9]] 129)):=(Ad _ _).alloc (Ae _) _;have hlt:=Qq.out;refine Aa ⟨?_,?_,Ai _ _,HD1.out.below Rh,(HB0.out.trans (HB1.out.mono (by omega))).trans (Rh.mono (by omega)),by omega⟩
  · rw[Rh.block _ (by omega),HB1.out.block _ (by omega)];exact HO.out
  · rw[Rh.block _ (by omega),HB1.out.block _ (by omega)];exact HZ.out
 generalize (w1.alloc (.cells #[.bool A,.bool B,.bool C,.func n9 #[] #[DF g9]] 129))=W1 at *;generalize w1.heap.size=b4 at *;clear HO HZ HB0 Qq k0 HB1 HD1;obtain⟨p0,p1,p2,p3,p4,p5,p6⟩:=AJ HA.out.d;obtain⟨⟨q0,q1,q2,q3⟩,q4,q5,q6,q7⟩:=Be HA.out.k;go_upto_region 4 with(first|(go_at_call 115;refine(cA _ _).mono ?_;rintro e w2 ⟨rfl,hb2⟩;have HA2:=Aa (HA.out.below hb2);obtain⟨p0,p1,p2,p3,p4,p5,p6⟩:=AJ HA2.out.d)|(go_at_call 116;refine(cR _).mono ?_;rintro e w3 ⟨rfl,hb3⟩;have Wo:=Aa (HA2.out.below hb3)));obtain⟨⟨q0,q1,q2,q3⟩,q4,q5,q6,q7⟩:=Be Wo.out.k;obtain⟨⟨z0,z1,z2,z3⟩,z4,z5,z6,z7⟩:=Be Wo.out.z;go_wp2
 (try simp only[Exit.inBlock,Exit.then])
 have HF:Hid _:=Aa (Pf Wo.out.z (.bool A) (.bool B) (.bool C) (.func n9 #[] #[DF g9]));have Qs:=Aa (Wo.out.f.put Wo.out.z (.bool A) (.bool B) (.bool C) (.func n9 #[] #[DF g9]));have Ex:Hid _:=Aa (Lt (x0:=.bool A) (x1:=.bool B) (x2:=.bool C) (x3:=.func n9 #[] #[DF g9]) Wo.out.b (D9 bO));generalize ((((w3.setCell ⟨bO+1,0,none⟩ (.bool A)).setCell ⟨bO+1,1,none⟩ (.bool B)).setCell ⟨bO+1,2,none⟩ (.bool C)).setCell ⟨bO+1,3,none⟩ (.func n9 #[] #[DF g9]))=W5 at *;clear p0 p1 p2 p3 p4 p5 p6 q0 q1 q2 q3 q4 q5 q6 q7 z0 z1 z2 z3 z4 z5 z6 z7;obtain⟨⟨z0,z1,z2,z3⟩,_⟩:=Be HF.out;refine Bv (v:=.tuple #[.agg #[.bool A,.bool B,.bool C,.func n9 #[] #[DF g9]],.int .i64 0]) ?_ rfl ⟨_,rfl,Qs.out,by rw[NF];exact Ex.out⟩;rw[CZ rfl];go_simp
def Uw (w:World)(e:Ending)(w':World):Prop:=e=.returned (.tuple #[VG,.int .i64 1])∧Below w.heap.size w w'
set_option maxHeartbeats 4000000 in
theorem sV (x:De)(w:World)(h:¬(x.k=1∨x.k=2∨x.k=3)):Calls Tryz.prog 74 #[Ga x] w (Uw w):=by
 unfold Uw;have cK:=fun W=>VC x.k W h
 clear h;obtain⟨k,d,dt,s,ns,Bg,sh⟩:=x;unfold Ga at *;simp only at cK ⊢;have HO:Hid (((w.alloc (.cells #[.int .i64 k,.int .i64 d,.int .i64 dt,.string s,.string ns,.bool Bg,.int .i64 sh] 38)).alloc G6).heap[w.heap.size]?=some (.cells ⟨Qk ⟨k,d,dt,s,ns,Bg,sh⟩⟩ 38 (0,0))):=Aa (by rw[Lib.alloc_old _ _ _ (by simp)];exact Ai _ _);have HZ:Hid (((w.alloc (.cells #[.int .i64 k,.int .i64 d,.int .i64 dt,.string s,.string ns,.bool Bg,.int .i64 sh] 38)).alloc G6).heap[w.heap.size+1]?=some G6):=Aa (Fb _ _ _);have HB0:=Aa (E8 w (.cells #[.int .i64 k,.int .i64 d,.int .i64 dt,.string s,.string ns,.bool Bg,.int .i64 sh] 38) G6);unfold G6 at HO HZ HB0;go_enter Tryz.func74,Tryz.ntmps74;go_upto_region 1 with fail;generalize ((w.alloc (.cells #[.int .i64 k,.int .i64 d,.int .i64 dt,.string s,.string ns,.bool Bg,.int .i64 sh] 38)).alloc (.cells #[.bool false,.bool false,.bool false,.nilFunc] 129))=W0 at *;have k0:=(AJ HO.out).1;have Qq:Hid (w.heap.size+1<W0.heap.size):=Aa (Ab HZ.out);generalize NF:w.heap.size=bO at *;go_upto_region 3 with(go_at_call 59;refine(cK _).mono ?_;rintro e w1 ⟨rfl,hb1⟩;have HB1:=Aa hb1;clear hb1);have HA:Hid ((w1.alloc (.cells #[.bool false,.bool false,.bool false,.nilFunc] 129)).heap[bO+1]?=some G6∧Below bO w (w1.alloc (.cells #[.bool false,.bool false,.bool false,.nilFunc] 129))):=by
  have hs1:=HB1.out.size;have Rh:Below w1.heap.size w1 (w1.alloc (.cells #[.bool false,.bool false,.bool false,.nilFunc] 129)):=(Ad _ _).alloc (Ae _) _;have hlt:=Qq.out;refine Aa ⟨?_,(HB0.out.trans (HB1.out.mono (by omega))).trans (Rh.mono (by omega))⟩;rw[Rh.block _ (by omega),HB1.out.block _ (by omega)];exact HZ.out
 generalize (w1.alloc (.cells #[.bool false,.bool false,.bool false,.nilFunc] 129))=W1 at *;clear HO HZ HB0 Qq k0 HB1;obtain⟨⟨z0,z1,z2,z3⟩,z4,z5,z6,z7⟩:=Be HA.out.1;go_wp2
 (try simp only[Exit.inBlock,Exit.then])
 have HF:Hid _:=Aa (Pf HA.out.1 (.bool false) (.bool false) (.bool false) .nilFunc);have Ex:Hid _:=Aa (Lt (x0:=.bool false) (x1:=.bool false) (x2:=.bool false) (x3:=.nilFunc) HA.out.2 (D9 bO));generalize ((((W1.setCell ⟨bO+1,0,none⟩ (.bool false)).setCell ⟨bO+1,1,none⟩ (.bool false)).setCell ⟨bO+1,2,none⟩ (.bool false)).setCell ⟨bO+1,3,none⟩ .nilFunc)=W5 at *;clear z0 z1 z2 z3 z4 z5 z6 z7;obtain⟨⟨z0,z1,z2,z3⟩,_⟩:=Be HF.out;refine Bv (v:=.tuple #[VG,.int .i64 1]) ?_ rfl ⟨rfl,by rw[NF];exact Ex.out⟩;rw[CZ rfl];go_simp
set_option maxHeartbeats 4000000 in
theorem sW (x:De)(w:World)(h1:x.k=1∨x.k=2∨x.k=3)(h:¬May x):Calls Tryz.prog 74 #[Ga x] w (Uw w):=by
 unfold Uw;have cK:=fun W=>JB x.k W h1
 have cA:=fun f W=>Tz (decide (x.k=1∨x.k=2)) (decide (x.k=3)) (decide (x.k=1∨x.k=3)) f x W
 have cR:=VK x;have hno:∃H1 H2:Bool,hasAll (decide (x.k=1∨x.k=2)) (decide (x.k=3)) (decide (x.k=1∨x.k=3)) x=H1∧KO x=H2∧((H1=false)∨(H1=true∧H2=false)):=by
  refine⟨_,_,rfl,rfl,?_⟩;cases e1:hasAll (decide (x.k=1∨x.k=2)) (decide (x.k=3)) (decide (x.k=1∨x.k=3)) x with
  | false=>exact Or.inl rfl
  | true =>
   cases e2:KO x with
   | false=>exact Or.inr ⟨rfl,rfl⟩
   | true=>exact absurd ((fZ x).2 ⟨h1,e1,e2⟩) h
 obtain⟨H1,H2,e1,e2,hno⟩:=hno;rw[e1]at cA;rw[e2]at cR;clear h h1 e1 e2;obtain⟨k,d,dt,s,ns,Bg,sh⟩:=x;unfold IC Ga at *;simp only at cK cA cR ⊢;generalize decide (k=1∨k=2)=A at *;generalize decide (k=3)=B at *;generalize decide (k=1∨k=3)=C at *;have HO:Hid (((w.alloc (.cells #[.int .i64 k,.int .i64 d,.int .i64 dt,.string s,.string ns,.bool Bg,.int .i64 sh] 38)).alloc G6).heap[w.heap.size]?=some (.cells ⟨Qk ⟨k,d,dt,s,ns,Bg,sh⟩⟩ 38 (0,0))):=Aa (by rw[Lib.alloc_old _ _ _ (by simp)];exact Ai _ _);have HZ:Hid (((w.alloc (.cells #[.int .i64 k,.int .i64 d,.int .i64 dt,.string s,.string ns,.bool Bg,.int .i64 sh] 38)).alloc G6).heap[w.heap.size+1]?=some G6):=Aa (Fb _ _ _);have HB0:=Aa (E8 w (.cells #[.int .i64 k,.int .i64 d,.int .i64 dt,.string s,.string ns,.bool Bg,.int .i64 sh] 38) G6);unfold G6 at HO HZ HB0;go_enter Tryz.func74,Tryz.ntmps74;go_upto_region 1 with fail;generalize ((w.alloc (.cells #[.int .i64 k,.int .i64 d,.int .i64 dt,.string s,.string ns,.bool Bg,.int .i64 sh] 38)).alloc (.cells #[.bool false,.bool false,.bool false,.nilFunc] 129))=W0 at *;have k0:=(AJ HO.out).1;have Qq:Hid (w.heap.size+1<W0.heap.size):=Aa (Ab HZ.out);generalize NF:w.heap.size=bO at *;go_upto_region 2 with(go_at_call 59;refine(cK _).mono ?_;rintro e w1 ⟨f,rfl,hd1,hb1⟩;obtain⟨n9,g9,rfl⟩:=hd1.form;have HD1:=Aa hd1;have HB1:=Aa hb1;clear hd1 hb1);have HA:Hid (uH w bO w1.heap.size ⟨k,d,dt,s,ns,Bg,sh⟩ A B C n9 g9 (w1.alloc (.cells #[.bool A,.bool B,.bool C,.func n9 #[] #[DF g9]] 129))):=by
  have hs1:=HB1.out.size;have Rh:Below w1.heap.size w1 (w1.alloc (.cells #[.bool A,.bool B,.bool C,.func n9 #[] #[DF g9]] 129)):=(Ad _ _).alloc (Ae _) _;have hlt:=Qq.out;refine Aa ⟨?_,?_,Ai _ _,HD1.out.below Rh,(HB0.out.trans (HB1.out.mono (by omega))).trans (Rh.mono (by omega)),by omega⟩
  · rw[Rh.block _ (by omega),HB1.out.block _ (by omega)];exact HO.out
  · rw[Rh.block _ (by omega),HB1.out.block _ (by omega)];exact HZ.out
 generalize (w1.alloc (.cells #[.bool A,.bool B,.bool C,.func n9 #[] #[DF g9]] 129))=W1 at *;generalize w1.heap.size=b4 at *;clear HO HZ HB0 Qq k0 HB1 HD1;obtain⟨p0,p1,p2,p3,p4,p5,p6⟩:=AJ HA.out.d;obtain⟨⟨q0,q1,q2,q3⟩,q4,q5,q6,q7⟩:=Be HA.out.k;rcases hno with rfl|⟨rfl,rfl⟩
 · go_upto_region 3 with(first|(go_at_call 115;refine(cA _ _).mono ?_;rintro e w3 ⟨rfl,hb2⟩;have Wo:=Aa (HA.out.below hb2)));obtain⟨⟨z0,z1,z2,z3⟩,z4,z5,z6,z7⟩:=Be Wo.out.z;go_wp2
   (try simp only[Exit.inBlock,Exit.then])
   have HF:Hid _:=Aa (Pf Wo.out.z (.bool false) (.bool false) (.bool false) .nilFunc);have Ex:Hid _:=Aa (Lt (x0:=.bool false) (x1:=.bool false) (x2:=.bool false) (x3:=.nilFunc) Wo.out.b (D9 bO));generalize ((((w3.setCell ⟨bO+1,0,none⟩ (.bool false)).setCell ⟨bO+1,1,none⟩ (.bool false)).setCell ⟨bO+1,2,none⟩ (.bool false)).setCell ⟨bO+1,3,none⟩ .nilFunc)=W5 at *;clear z0 z1 z2 z3 z4 z5 z6 z7;obtain⟨⟨z0,z1,z2,z3⟩,_⟩:=Be HF.out;refine Bv (v:=.tuple #[VG,.int .i64 1]) ?_ rfl ⟨rfl,by rw[NF];exact Ex.out⟩;rw[CZ rfl];go_simp
 · go_upto_region 3 with(first|(go_at_call 115;refine(cA _ _).mono ?_;rintro e w2 ⟨rfl,hb2⟩;have HA2:=Aa (HA.out.below hb2);obtain⟨p0,p1,p2,p3,p4,p5,p6⟩:=AJ HA2.out.d)|(go_at_call 116;refine(cR _).mono ?_;rintro e w3 ⟨rfl,hb3⟩;have Wo:=Aa (HA2.out.below hb3)));obtain⟨⟨z0,z1,z2,z3⟩,z4,z5,z6,z7⟩:=Be Wo.out.z;go_wp2
   (try simp only[Exit.inBlock,Exit.then])
   have HF:Hid _:=Aa (Pf Wo.out.z (.bool false) (.bool false) (.bool false) .nilFunc);have Ex:Hid _:=Aa (Lt (x0:=.bool false) (x1:=.bool false) (x2:=.bool false) (x3:=.nilFunc) Wo.out.b (D9 bO));generalize ((((w3.setCell ⟨bO+1,0,none⟩ (.bool false)).setCell ⟨bO+1,1,none⟩ (.bool false)).setCell ⟨bO+1,2,none⟩ (.bool false)).setCell ⟨bO+1,3,none⟩ .nilFunc)=W5 at *;clear z0 z1 z2 z3 z4 z5 z6 z7;obtain⟨⟨z0,z1,z2,z3⟩,_⟩:=Be HF.out;refine Bv (v:=.tuple #[VG,.int .i64 1]) ?_ rfl ⟨rfl,by rw[NF];exact Ex.out⟩;rw[CZ rfl];go_simp
theorem sU (x:De)(w:World)(h:¬May x):Calls Tryz.prog 74 #[Ga x] w (Uw w):=by
 by_cases h1:x.k=1∨x.k=2∨x.k=3
 · exact sW x w h1 h
 · exact sV x w h1
end Go.Proofs.YtdmkhmeaphaapaaGreat
namespace Go.Proofs.YtdmkhmeaphaapaaGreat
open Go.RowKit Go.Sort
abbrev FW:TypeId:=148
theorem qH:JO FW 0:=⟨by decide,by kernel_rfl⟩
structure Ox (w:World)(bO b4 b6:Nat)(x:De)(v0 v1 v2 v3:Value)(u:List UInt8)(W:World):Prop where
 d:W.heap[bO]?=some (.cells ⟨Qk x⟩ 38 (0,0))
 k:W.heap[b4]?=some (.cells #[v0,v1,v2,v3] 129 (0,0))
 wr:Rk FW b6 b6 (Lib.byteCells u) W
 b:Below bO w W
 le:bO≤b6
section
variable {w W W':World}{bO b4 b6:Nat}{x:De}{v0 v1 v2 v3:Value}{u:List UInt8}
theorem H8.lt {T:TypeId}{R:List Value}{B b:Nat}{bs:List Value}{w:World}(h:H8 T R B b bs w):b<w.heap.size:=by
 rcases h with h|h
 · exact h.lt
 · exact h.lt
theorem Ox.step (h:Ox w bO b4 b6 x v0 v1 v2 v3 u W){u':List UInt8}{e:Ending}(hp:Gd FW b6 b6 W u' e W'):e=.returned (.tuple #[])∧Ox w bO b4 b6 x v0 v1 v2 v3 u' W':=by
 obtain⟨he,hw,hb,hf⟩:=hp;exact⟨he,hf _ (by decide) (by decide) _ _ _ h.d,hf _ (by decide) (by decide) _ _ _ h.k,hw,h.b.trans (hb.mono h.le),h.le⟩
theorem Ox.num (h:Ox w bO b4 b6 x v0 v1 v2 v3 u W)(z kk:Int)(k:Nat)(hk:kk=(k:Int))(hk4:k≤4)(hz:0≤z∧z≤9223372036854775807)(hu:u.length≤1000) :
 Calls Tryz.prog 75 #[DF b6,.int .i64 z,.int .i64 kk] W fun e w'=>e=.returned (.tuple #[])∧Ox w bO b4 b6 x v0 v1 v2 v3 (u++BB z.toNat k) w':=by
 subst hk;have h9:=KE qH b6 b6 z.toNat k u W h.wr (by omega) (by omega) (by omega) (Nat.le_of_lt h.wr.lt);rw[show((z.toNat:Nat):Int)=z by omega]at h9;exact h9.mono fun e w' hp=>h.step hp
theorem Ox.name (h:Ox w bO b4 b6 x v0 v1 v2 v3 u W)(s:ByteArray)(hs:s.size≤255)(hu:u.length≤700) :
 Calls Tryz.prog 76 #[DF b6,.string s] W fun e w'=>e=.returned (.tuple #[])∧Ox w bO b4 b6 x v0 v1 v2 v3 (u++EU s) w':=
 (eQ qH b6 b6 s u W h.wr hs (by omega) (Nat.le_of_lt h.wr.lt)).mono fun e w' hp=>h.step hp
theorem Ox.flag (h:Ox w bO b4 b6 x v0 v1 v2 v3 u W)(t:Bool)(hu:u.length≤700) :
 Calls Tryz.prog 77 #[DF b6,.bool t] W fun e w'=>e=.returned (.tuple #[])∧Ox w bO b4 b6 x v0 v1 v2 v3 (u++BB (DI t) 1) w':=
 (eT qH b6 b6 t u W h.wr (by omega) (Nat.le_of_lt h.wr.lt)).mono fun e w' hp=>h.step hp
theorem Ox.str (h:Ox w bO b4 b6 x v0 v1 v2 v3 u W):Calls Tryz.prog 78 #[DF b6] W fun e w'=>e=.returned (.string ⟨u.toArray⟩)∧Below bO w w':=
 (Ws b6 b6 u W h.wr (Nat.le_of_lt h.wr.lt)).mono fun e w' hp=>⟨hp.1,h.b.trans (hp.2.mono h.le)⟩
end
theorem mQ (w:World):Rk FW w.heap.size w.heap.size (Lib.byteCells []) (w.alloc (.cells #[.pointer none,.slice none 0 0] 148)):=
 Or.inl ⟨Ae _,.slice none 0 0,Ai w _,FV _ _ _ _,by simp[Value.ownBlock]⟩
theorem TS {w w1:World}{D:Obj}{x:De}(hO:(w.alloc D).heap[w.heap.size]?=some (.cells ⟨Qk x⟩ 38 (0,0)))(h0:Below w.heap.size w (w.alloc D))(h1:Below (w.alloc D).heap.size (w.alloc D) w1)(v0 v1 v2 v3:Value) :
 Hid (Ox w w.heap.size w1.heap.size (w1.heap.size+1) x v0 v1 v2 v3 [] ((w1.alloc (.cells #[v0,v1,v2,v3] 129)).alloc (.cells #[.pointer none,.slice none 0 0] 148))):=by
 have hs0:w.heap.size<(w.alloc D).heap.size:=Ab hO;have hs1:=h1.size;refine Aa ⟨?_,?_,?_,?_,by omega⟩
 · rw[Lib.alloc_old _ _ _ (by simp;omega),Lib.alloc_old _ _ _ (by omega),h1.block _ hs0];exact hO
 · rw[Lib.alloc_old _ _ _ (by simp)];exact Ai _ _
 · have h9:=mQ (w1.alloc (.cells #[v0,v1,v2,v3] 129));rwa[show(w1.alloc (.cells #[v0,v1,v2,v3] 129)).heap.size=w1.heap.size+1 by simp]at h9
 · exact((h0.trans (h1.mono (by omega))).alloc (by omega) _).alloc (by simp;omega) _
def Us (w:World)(e:Ending)(w':World):Prop:=e=.returned (.tuple #[.string ⟨#[]⟩,.int .i64 1])∧Below w.heap.size w w'
def LA (x:De)(w:World)(e:Ending)(w':World):Prop:=e=.returned (.tuple #[.string ⟨(Ac x).toArray⟩,.int .i64 0])∧Below w.heap.size w w'
set_option maxHeartbeats 4000000 in
theorem TR (x:De)(w:World)(h:¬May x):Calls Tryz.prog 34 #[Ga x] w (Us w):=by
 unfold Us;have cK:=fun W=>sU x W h
 unfold Uw at cK;clear h;obtain⟨k,d,dt,s,ns,Bg,sh⟩:=x;unfold Ga at *;simp only at cK ⊢;have HB0:Hid (Below w.heap.size w (w.alloc (.cells #[.int .i64 k,.int .i64 d,.int .i64 dt,.string s,.string ns,.bool Bg,.int .i64 sh] 38))):=Aa ((Ad _ _).alloc (Ae _) _);go_enter Tryz.func34,Tryz.ntmps34;go_wp2_with (go_at_call 74;refine(cK _).mono ?_;rintro e w1 ⟨rfl,hb1⟩;have HB1:=Aa hb1;clear hb1);go_ret2;refine⟨rfl,?_⟩;have hs:=HB0.out.size;have hs1:=HB1.out.size;exact(HB0.out.trans (HB1.out.mono hs)).alloc (by omega) _
set_option maxHeartbeats 8000000 in
theorem Lr (x:De)(w:World)(h:May x):Calls Tryz.prog 34 #[Ga x] w (LA x w):=by
 unfold LA;have cK:=fun W=>RG x W h
 unfold Np at cK;obtain⟨L,hL⟩:∃L,Ac x=L:=⟨_,rfl⟩;rw[hL];unfold Ac kX toB shB at hL;have HM:=Aa h;clear h;obtain⟨k,d,dt,s,ns,Bg,sh⟩:=x;obtain⟨m1,m2,m3,m4,m5,m6,m7,m8,m9⟩:=HM.out;unfold Ga IC at *;simp only at cK m1 m2 m3 m4 m5 m6 m7 m8 m9 hL ⊢;have HL:=Aa hL;clear hL m2 m3 m4;have HO:Hid ((w.alloc (.cells #[.int .i64 k,.int .i64 d,.int .i64 dt,.string s,.string ns,.bool Bg,.int .i64 sh] 38)).heap[w.heap.size]?=some (.cells ⟨Qk ⟨k,d,dt,s,ns,Bg,sh⟩⟩ 38 (0,0))):=Aa (Ai _ _);have HB0:Hid (Below w.heap.size w (w.alloc (.cells #[.int .i64 k,.int .i64 d,.int .i64 dt,.string s,.string ns,.bool Bg,.int .i64 sh] 38))):=Aa ((Ad _ _).alloc (Ae _) _);rcases m1 with rfl|rfl|rfl
 · simp only[show ¬(1:Int)=3 by decide,show ¬(1:Int)=2 by decide,reduceIte,List.nil_append,List.append_nil]at HL;go_enter Tryz.func34,Tryz.ntmps34;go_upto_region 5 with(go_at_call 74;refine(cK _).mono ?_;rintro e w1 ⟨f,rfl,hd1,hb1⟩;obtain⟨n9,g9,rfl⟩:=hd1.form;have HB1:=Aa hb1;clear hb1 hd1);have HE:=TS HO.out HB0.out HB1.out (.bool true) (.bool false) (.bool true) (.func n9 #[] #[DF g9]);generalize ((w1.alloc (.cells #[.bool true,.bool false,.bool true,.func n9 #[] #[DF g9]] 129)).alloc (.cells #[.pointer none,.slice none 0 0] 148))=W1 at *;generalize w1.heap.size=b4 at *;generalize NF:w.heap.size=bO at *;clear cK HO HB0 HB1;obtain⟨p0,p1,p2,p3,p4,p5,p6⟩:=AJ HE.out.d;obtain⟨⟨q0,q1,q2,q3⟩,_⟩:=Be HE.out.k;go_wp2_with (first
    | (go_at_call 75;(with_reducible refine(HE.out.num _ 1 1 rfl (by omega) (by omega) (by simp only[List.length_append,Ah,BP,List.length_nil];omega)).mono ?_);rintro e w2 ⟨rfl,he⟩;have HE:=Aa he;clear he;obtain⟨p0,p1,p2,p3,p4,p5,p6⟩:=AJ HE.out.d;obtain⟨⟨q0,q1,q2,q3⟩,_⟩:=Be HE.out.k)
    | (go_at_call 75;(with_reducible refine(HE.out.num _ 2 2 rfl (by omega) (by omega) (by simp only[List.length_append,Ah,BP,List.length_nil];omega)).mono ?_);rintro e w2 ⟨rfl,he⟩;have HE:=Aa he;clear he;obtain⟨p0,p1,p2,p3,p4,p5,p6⟩:=AJ HE.out.d;obtain⟨⟨q0,q1,q2,q3⟩,_⟩:=Be HE.out.k)
    | (go_at_call 75;(with_reducible refine(HE.out.num _ 4 4 rfl (by omega) (by omega) (by simp only[List.length_append,Ah,BP,List.length_nil];omega)).mono ?_);rintro e w2 ⟨rfl,he⟩;have HE:=Aa he;clear he;obtain⟨p0,p1,p2,p3,p4,p5,p6⟩:=AJ HE.out.d;obtain⟨⟨q0,q1,q2,q3⟩,_⟩:=Be HE.out.k)
    | (go_at_call 76;(with_reducible refine(HE.out.name _ (by omega) (by simp only[List.length_append,Ah,BP,List.length_nil];omega)).mono ?_);rintro e w2 ⟨rfl,he⟩;have HE:=Aa he;clear he;obtain⟨p0,p1,p2,p3,p4,p5,p6⟩:=AJ HE.out.d;obtain⟨⟨q0,q1,q2,q3⟩,_⟩:=Be HE.out.k)
    | (go_at_call 77;(with_reducible refine(HE.out.flag _ (by simp only[List.length_append,Ah,BP,List.length_nil];omega)).mono ?_);rintro e w2 ⟨rfl,he⟩;have HE:=Aa he;clear he;obtain⟨p0,p1,p2,p3,p4,p5,p6⟩:=AJ HE.out.d;obtain⟨⟨q0,q1,q2,q3⟩,_⟩:=Be HE.out.k)
    | (go_at_call 78;refine HE.out.str.mono ?_;rintro e w3 ⟨rfl,hb3⟩;have HB3:=Aa hb3;clear hb3))
   go_ret2;refine⟨?_,by first|exact HB3.out|(rw[NF];exact HB3.out)⟩;rw[←HL.out];simp only[List.nil_append,List.append_assoc];rfl
 · simp only[show ¬(2:Int)=3 by decide,reduceIte,List.nil_append,List.append_nil]at HL;go_enter Tryz.func34,Tryz.ntmps34;go_upto_region 5 with(go_at_call 74;refine(cK _).mono ?_;rintro e w1 ⟨f,rfl,hd1,hb1⟩;obtain⟨n9,g9,rfl⟩:=hd1.form;have HB1:=Aa hb1;clear hb1 hd1);have HE:=TS HO.out HB0.out HB1.out (.bool true) (.bool false) (.bool false) (.func n9 #[] #[DF g9]);generalize ((w1.alloc (.cells #[.bool true,.bool false,.bool false,.func n9 #[] #[DF g9]] 129)).alloc (.cells #[.pointer none,.slice none 0 0] 148))=W1 at *;generalize w1.heap.size=b4 at *;generalize NF:w.heap.size=bO at *;clear cK HO HB0 HB1;obtain⟨p0,p1,p2,p3,p4,p5,p6⟩:=AJ HE.out.d;obtain⟨⟨q0,q1,q2,q3⟩,_⟩:=Be HE.out.k;go_wp2_with (first
    | (go_at_call 75;(with_reducible refine(HE.out.num _ 1 1 rfl (by omega) (by omega) (by simp only[List.length_append,Ah,BP,List.length_nil];omega)).mono ?_);rintro e w2 ⟨rfl,he⟩;have HE:=Aa he;clear he;obtain⟨p0,p1,p2,p3,p4,p5,p6⟩:=AJ HE.out.d;obtain⟨⟨q0,q1,q2,q3⟩,_⟩:=Be HE.out.k)
    | (go_at_call 75;(with_reducible refine(HE.out.num _ 2 2 rfl (by omega) (by omega) (by simp only[List.length_append,Ah,BP,List.length_nil];omega)).mono ?_);rintro e w2 ⟨rfl,he⟩;have HE:=Aa he;clear he;obtain⟨p0,p1,p2,p3,p4,p5,p6⟩:=AJ HE.out.d;obtain⟨⟨q0,q1,q2,q3⟩,_⟩:=Be HE.out.k)
    | (go_at_call 75;(with_reducible refine(HE.out.num _ 4 4 rfl (by omega) (by omega) (by simp only[List.length_append,Ah,BP,List.length_nil];omega)).mono ?_);rintro e w2 ⟨rfl,he⟩;have HE:=Aa he;clear he;obtain⟨p0,p1,p2,p3,p4,p5,p6⟩:=AJ HE.out.d;obtain⟨⟨q0,q1,q2,q3⟩,_⟩:=Be HE.out.k)
    | (go_at_call 76;(with_reducible refine(HE.out.name _ (by omega) (by simp only[List.length_append,Ah,BP,List.length_nil];omega)).mono ?_);rintro e w2 ⟨rfl,he⟩;have HE:=Aa he;clear he;obtain⟨p0,p1,p2,p3,p4,p5,p6⟩:=AJ HE.out.d;obtain⟨⟨q0,q1,q2,q3⟩,_⟩:=Be HE.out.k)
    | (go_at_call 77;(with_reducible refine(HE.out.flag _ (by simp only[List.length_append,Ah,BP,List.length_nil];omega)).mono ?_);rintro e w2 ⟨rfl,he⟩;have HE:=Aa he;clear he;obtain⟨p0,p1,p2,p3,p4,p5,p6⟩:=AJ HE.out.d;obtain⟨⟨q0,q1,q2,q3⟩,_⟩:=Be HE.out.k)
    | (go_at_call 78;refine HE.out.str.mono ?_;rintro e w3 ⟨rfl,hb3⟩;have HB3:=Aa hb3;clear hb3))
   go_ret2;refine⟨?_,by first|exact HB3.out|(rw[NF];exact HB3.out)⟩;rw[←HL.out];simp only[List.nil_append,List.append_assoc];rfl
 · simp only[show ¬(3:Int)=2 by decide,reduceIte,List.nil_append,List.append_nil]at HL;go_enter Tryz.func34,Tryz.ntmps34;go_upto_region 5 with(go_at_call 74;refine(cK _).mono ?_;rintro e w1 ⟨f,rfl,hd1,hb1⟩;obtain⟨n9,g9,rfl⟩:=hd1.form;have HB1:=Aa hb1;clear hb1 hd1);have HE:=TS HO.out HB0.out HB1.out (.bool false) (.bool true) (.bool true) (.func n9 #[] #[DF g9]);generalize ((w1.alloc (.cells #[.bool false,.bool true,.bool true,.func n9 #[] #[DF g9]] 129)).alloc (.cells #[.pointer none,.slice none 0 0] 148))=W1 at *;generalize w1.heap.size=b4 at *;generalize NF:w.heap.size=bO at *;clear cK HO HB0 HB1;obtain⟨p0,p1,p2,p3,p4,p5,p6⟩:=AJ HE.out.d;obtain⟨⟨q0,q1,q2,q3⟩,_⟩:=Be HE.out.k;go_wp2_with (first
    | (go_at_call 75;(with_reducible refine(HE.out.num _ 1 1 rfl (by omega) (by omega) (by simp only[List.length_append,Ah,BP,List.length_nil];omega)).mono ?_);rintro e w2 ⟨rfl,he⟩;have HE:=Aa he;clear he;obtain⟨p0,p1,p2,p3,p4,p5,p6⟩:=AJ HE.out.d;obtain⟨⟨q0,q1,q2,q3⟩,_⟩:=Be HE.out.k)
    | (go_at_call 75;(with_reducible refine(HE.out.num _ 2 2 rfl (by omega) (by omega) (by simp only[List.length_append,Ah,BP,List.length_nil];omega)).mono ?_);rintro e w2 ⟨rfl,he⟩;have HE:=Aa he;clear he;obtain⟨p0,p1,p2,p3,p4,p5,p6⟩:=AJ HE.out.d;obtain⟨⟨q0,q1,q2,q3⟩,_⟩:=Be HE.out.k)
    | (go_at_call 75;(with_reducible refine(HE.out.num _ 4 4 rfl (by omega) (by omega) (by simp only[List.length_append,Ah,BP,List.length_nil];omega)).mono ?_);rintro e w2 ⟨rfl,he⟩;have HE:=Aa he;clear he;obtain⟨p0,p1,p2,p3,p4,p5,p6⟩:=AJ HE.out.d;obtain⟨⟨q0,q1,q2,q3⟩,_⟩:=Be HE.out.k)
    | (go_at_call 76;(with_reducible refine(HE.out.name _ (by omega) (by simp only[List.length_append,Ah,BP,List.length_nil];omega)).mono ?_);rintro e w2 ⟨rfl,he⟩;have HE:=Aa he;clear he;obtain⟨p0,p1,p2,p3,p4,p5,p6⟩:=AJ HE.out.d;obtain⟨⟨q0,q1,q2,q3⟩,_⟩:=Be HE.out.k)
    | (go_at_call 77;(with_reducible refine(HE.out.flag _ (by simp only[List.length_append,Ah,BP,List.length_nil];omega)).mono ?_);rintro e w2 ⟨rfl,he⟩;have HE:=Aa he;clear he;obtain⟨p0,p1,p2,p3,p4,p5,p6⟩:=AJ HE.out.d;obtain⟨⟨q0,q1,q2,q3⟩,_⟩:=Be HE.out.k)
    | (go_at_call 78;refine HE.out.str.mono ?_;rintro e w3 ⟨rfl,hb3⟩;have HB3:=Aa hb3;clear hb3))
   go_ret2;refine⟨?_,by first|exact HB3.out|(rw[NF];exact HB3.out)⟩;rw[←HL.out];simp only[List.nil_append,List.append_assoc];rfl
end Go.Proofs.YtdmkhmeaphaapaaGreat
