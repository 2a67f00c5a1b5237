/- Kit. -/
import Derived.Test.YtdmkhmeaphaapaaGreatCZ5
import Derived.Test.YtdmkhmeaphaapaaGreatCZ6
import Derived.Test.YtdmkhmeaphaapaaGreatCZ7
import Derived.Deep.RegionLaw
import Derived.Lib.SliceRun
import Derived.Shelf.RegionOpenPlain
import Derived.Shelf.Strconv.Clone
import Derived.Laws.EntriesVeiled
import Derived.Test.YtdmkhmeaphaapaaGreatCZ0
set_option maxRecDepth 100000
set_option linter.unusedVariables false
set_option linter.unusedSimpArgs false
namespace Go.Proofs.YtdmkhmeaphaapaaGreat
open Go.RowKit Go.Sort
abbrev Ag (b:Nat):Value:=.pointer (some ⟨b,0,none⟩)
def Jd (s:ByteArray):List Br→Nat→Int
 | [],_=>-1
 | x::l,k=>if x.name=s then(k:Int) else Jd s l (k+1)
def ER (l:List Br)(s:ByteArray):Int:=Jd s l 0
theorem O1 (s:ByteArray):∀(l:List Br) (k:Nat),(Jd s l k=-1∧named l s=none∧∀x∈l,x.name≠s)∨∃(i:Nat) (x:Br),Jd s l k=((k+i:Nat):Int)∧l[i]?=some x∧x.name=s∧named l s=some x∧∀y∈l.take i,y.name≠s
 | [],k=>Or.inl ⟨rfl,rfl,fun x hx=>by cases hx⟩
 | x::l,k=>by
  unfold Jd;by_cases h:x.name=s
  · rw[if_pos h];refine Or.inr ⟨0,x,rfl,rfl,h,?_,fun y hy=>by cases hy⟩;unfold named;rw[List.find?_cons,A8 h]
  · rw[if_neg h];have hn:named (x::l) s=named l s:=by
     unfold named;rw[List.find?_cons,Bb h]
    rcases O1 s l (k+1) with⟨h1,h2,h3⟩|⟨i,y,h1,h2,h3,h4,h5⟩
    · exact Or.inl ⟨h1,hn.trans h2,fun y hy=>by
       rcases Em.1 hy with rfl|hy
       · exact h
       · exact h3 y hy⟩
    · refine Or.inr ⟨i+1,y,by rw[h1];omega,by rw[List.getElem?_cons_succ];exact h2,h3,hn.trans h4,fun z hz=>?_⟩;rw[List.take_succ_cons]at hz;rcases Em.1 hz with rfl|hz
      · exact h
      · exact h5 z hz
theorem Iy (l:List Br)(s:ByteArray):(ER l s=-1∧named l s=none∧∀x∈l,x.name≠s)∨∃(i:Nat) (x:Br),ER l s=(i:Int)∧l[i]?=some x∧x.name=s∧named l s=some x∧∀y∈l.take i,y.name≠s:=by
 rcases O1 s l 0 with h|⟨i,x,h1,h⟩
 · exact Or.inl h
 · exact Or.inr ⟨i,x,by rw[ER,h1,Gh],h⟩
theorem aQ (e:Br)(s:ByteArray)(q:Nat)(w:World)(hq:w.heap[q]?=some (.cells #[.string s] 9 (0,0)))(t:Bool)(ht:decide (e.name=s)=t) :
 Calls Tryz.prog 189 #[Di e,.pointer (some ⟨q,0,none⟩)] w fun r w'=>r=.returned (.bool t)∧Below w.heap.size w w':=by
 obtain⟨nm,nd,dr,ck,sh⟩:=e;have c0:(w.alloc (.cells #[.string nm,.int .i64 nd,.bool dr,.int .i64 ck,.int .i64 sh] 112)).cell? ⟨q,0,none⟩=some (.string s):=by
  rw[Fj (w:=w) (Ct w _ q (Ab hq)),Ap hq];rfl
 have HB:Hid (Below w.heap.size w (w.alloc (.cells #[.string nm,.int .i64 nd,.bool dr,.int .i64 ck,.int .i64 sh] 112))):=Aa ((Ad _ _).alloc (Ae _) _);have he:(nm.toList==s.toList)=t:=by
  rw[←ht];by_cases h:nm=s
  · rw[A8 h,h];simp
  · rw[Bb h];exact Rs h
 clear hq ht;unfold Di;go_enter Tryz.func189,Tryz.ntmps189;go_wp2;go_ret
 first|exact⟨by rw[←he];rfl,HB.out⟩|exact⟨rfl,HB.out⟩
set_option maxHeartbeats 2000000 in
theorem bK (v:Value)(l:List Br)(q:Nat)(s:ByteArray)(w:World)(hv:DD w v l)(hl:l.length≤1000)(hq:w.heap[q]?=some (.cells #[.string s] 9 (0,0))) :
 Calls Tryz.prog 188 #[v,.func (.func 189) #[] #[.pointer (some ⟨q,0,none⟩)]] w fun e w'=>e=.returned (.int .i64 (ER l s))∧Below w.heap.size w w':=by
 obtain⟨a,cap,rfl⟩:=hv.len;obtain⟨n,hn⟩:∃n,l.length=n:=⟨_,rfl⟩;rw[hn]at hl hv ⊢;have HV:=Aa hv;have HN:=Aa hn;have HQ:=Aa hq;have cC:=fun W e t (h:W.heap[q]?=some (.cells #[.string s] 9 (0,0))) (ht:decide (e.name=s)=t)=>aQ e s q W h t ht
 unfold Di at cC;obtain⟨X,hX⟩:∃X,ER l s=X:=⟨_,rfl⟩;have HX:=Aa hX;rw[hX];clear hv hn hq hX;go_enter Tryz.func188,Tryz.ntmps188;go_wp2;go_loopw [8] (fun iv wr=>∃i:Nat,i≤n∧iv=.int .i64 i∧Jd s (l.drop i) i=X∧Below w.heap.size w wr) (fun iv _=>n-(intOf iv).toNat)
 case atStart=>exact⟨0,by omega,rfl,HX.out,Ad _ _⟩
 case round =>
  obtain⟨i,hi,rfl,hgo,hb⟩:=hrel;have Ht:=Aa hgo;have HB:=Aa hb;clear hgo;by_cases hin:i<n
  · have hiz:(i:Int)<(n:Int):=by omega
    obtain⟨x,hx⟩:∃x,l[i]?=some x:=⟨_,Co (by rw[HN.out];omega)⟩;obtain⟨g,off,rfl,hg,hr⟩:=HV.out.at hx;obtain⟨d0,d1,d2,d3,d4⟩:=Ii (DJ hr hg hb);have HG:Hid (Jd s (l.drop i) i=if x.name=s then(i:Int) else Jd s (l.drop (i+1)) (i+1)):=Aa (by rw[DK hx];rfl);obtain⟨t,ht⟩:∃t,decide (x.name=s)=t:=⟨_,rfl⟩;have HT:=Aa ht;have yR:=cC wr x t ((hb.block q (Ab HQ.out)).trans HQ.out) ht;clear hr hx hg cC hb ht;cases t with
    | true =>
     have HE:Hid ((i:Int)=X):=Aa (by rw[←Ht.out,HG.out,if_pos (FL HT.out)]);go_wp2_with (go_at_call 189;refine yR.mono ?_;rintro e w2 ⟨rfl,hb2⟩);go_ret;exact⟨by rw[HE.out];rfl,HB.out.trans (hb2.mono HB.out.size)⟩
    | false =>
     have HE:Hid (Jd s (l.drop (i+1)) (i+1)=X):=Aa (by rw[←Ht.out,HG.out,if_neg (of_decide_eq_false HT.out)]);go_wp2_with (go_at_call 189;refine yR.mono ?_;rintro e w2 ⟨rfl,hb2⟩);go_roundw
     case rel=>exact⟨i+1,by omega,by first|rfl|go_num,HE.out,HB.out.trans (hb2.mono HB.out.size)⟩
     case measure=>simp[intOf];omega
  · have hiz:¬(i:Int)<(n:Int):=by omega
    have HE:Hid (X=-1):=Aa (by rw[←Ht.out,JW (by rw[HN.out];omega)];rfl);clear hb cC;go_wp2;go_ret;exact⟨by rw[HE.out];rfl,HB.out⟩
section
variable {w:World}{b:Nat}{K:Nat→Int}{E:Nat→List Br}{R:Nat→Value}{u:Nat}{v:Value}{ys:List Int}{c:Int}
set_option maxHeartbeats 2000000 in
theorem Ru (h:TM w b K E R u v ys c){d:Nat}(hd:d≤200)(hl:(E d).length≤1000)(s:ByteArray) :
 Calls Tryz.prog 167 #[Ag b,.int .i64 (d:Int),.string s] w fun e w'=>e=.returned (.int .i64 (ER (E d) s))∧Below w.heap.size w w':=by
 have hb0:Below w.heap.size w (w.alloc (.cells #[.string s] 9)):=(Ad _ w).alloc (Ae _) _;have HB:=Aa hb0;have c1:=((h.below hb0).FH hd).1;have cI:=bK (R d) (E d) w.heap.size s (w.alloc (.cells #[.string s] 9)) ((h.below hb0).Fy hd) hl (Ai _ _);obtain⟨a,cap,hr⟩:=(h.Fy hd).len;generalize ER (E d) s=X at *;rw[hr]at c1 cI;have hd0:(0:Int)≤(d:Int):=by omega
 have hd1:(d:Int)<201:=by omega
 generalize (E d).length=n at *;clear h hb0 hr;go_enter Tryz.func167,Tryz.ntmps167;go_wp2_with (go_at_call 188;refine cI.mono ?_;rintro e w2 ⟨rfl,hb2⟩);go_ret;exact⟨rfl,HB.out.trans (hb2.mono HB.out.size)⟩
def Du (K:Nat→Int)(d:Int):Int:=if d<0∨200<d then 5 else if K d.toNat=2 then 0 else if K d.toNat=1 then 8 else 5
theorem G9 {d:Int}(h:Du K d=0):∃n:Nat,d=n∧n≤200∧K n=2:=by
 unfold Du at h;split at h
 · omega
 · split at h
   · exact⟨d.toNat,by omega,by omega,by assumption⟩
   · split at h<;>omega
set_option maxHeartbeats 2000000 in
theorem SY (h:TM w b K E R u v ys c)(d:Int):Calls Tryz.prog 109 #[Ag b,.int .i64 d] w fun e w'=>e=.returned (.int .i64 (Du K d))∧w'=w:=by
 obtain⟨X,hX⟩:∃X,Du K d=X:=⟨_,rfl⟩;rw[hX];unfold Du at hX;by_cases h0:d<0
 · have HX:Hid (X=5):=Aa (by rw[←hX,if_pos (Or.inl h0)]);clear hX;go_enter Tryz.func109,Tryz.ntmps109;go_wp2;go_ret;exact⟨by rw[HX.out];rfl,rfl⟩
 · by_cases h1:200<d
   · have HX:Hid (X=5):=Aa (by rw[←hX,if_pos (Or.inr h1)]);clear hX;go_enter Tryz.func109,Tryz.ntmps109;go_wp2;go_ret;exact⟨by rw[HX.out];rfl,rfl⟩
   · obtain⟨n,rfl⟩:∃n:Nat,d=n:=⟨d.toNat,by omega⟩;have hn:n≤200:=by omega
     have hn1:(n:Int)<201:=by omega
     have c1:=(h.LH hn).1;rw[if_neg (by omega),DY]at hX;generalize K n=k at *;by_cases h2:k=2
     · have HX:Hid (X=0):=Aa (by rw[←hX,if_pos h2]);subst h2;clear hX h;go_enter Tryz.func109,Tryz.ntmps109;go_wp2;go_ret;exact⟨by rw[HX.out];rfl,rfl⟩
     · by_cases h3:k=1
       · have HX:Hid (X=8):=Aa (by rw[←hX,if_neg h2,if_pos h3]);subst h3;clear hX h h2;go_enter Tryz.func109,Tryz.ntmps109;go_wp2;go_ret;exact⟨by rw[HX.out];rfl,rfl⟩
       · have HX:Hid (X=5):=Aa (by rw[←hX,if_neg h2,if_neg h3]);have h2b:(k==2)=false:=Ba.2 h2;have h3b:(k==1)=false:=Ba.2 h3;clear hX h h2 h3;go_enter Tryz.func109,Tryz.ntmps109;go_wp2;go_ret;exact⟨by rw[HX.out];rfl,rfl⟩
theorem Ui (s:ByteArray)(hs:s.size≤9223372036854775807)(sh:Int)(w:World):Calls Tryz.prog 166 #[.string s,.int .i64 sh] w fun e w'=>e=.returned (.int .i64 (Ec s sh))∧Below w.heap.size w w':=by
 have cG:=rA s hs w;obtain⟨X,hX⟩:∃X,Ec s sh=X:=⟨_,rfl⟩;rw[hX];unfold Ec at hX;cases hg:Hg s with
 | false =>
  have HX:Hid (X=3):=Aa (by rw[←hX,hg];rfl);rw[hg]at cG;clear hX hg;go_enter Tryz.func166,Tryz.ntmps166;go_wp2_with (go_at_call 187;refine cG.mono ?_;rintro e w2 ⟨rfl,hb2⟩);go_ret;exact⟨by rw[HX.out];rfl,hb2⟩
 | true =>
  rw[hg]at cG hX;by_cases h0:sh<0
  · have HX:Hid (X=1):=Aa (by rw[←hX,if_pos rfl,if_pos (Or.inl h0)]);clear hX hg;go_enter Tryz.func166,Tryz.ntmps166;go_wp2_with (go_at_call 187;refine cG.mono ?_;rintro e w2 ⟨rfl,hb2⟩);go_ret;exact⟨by rw[HX.out];rfl,hb2⟩
  · by_cases h1:1000000<sh
    · have HX:Hid (X=1):=Aa (by rw[←hX,if_pos rfl,if_pos (Or.inr h1)]);clear hX hg;go_enter Tryz.func166,Tryz.ntmps166;go_wp2_with (go_at_call 187;refine cG.mono ?_;rintro e w2 ⟨rfl,hb2⟩);go_ret;exact⟨by rw[HX.out];rfl,hb2⟩
    · have HX:Hid (X=0):=Aa (by rw[←hX,if_pos rfl,if_neg (by omega)]);clear hX hg;go_enter Tryz.func166,Tryz.ntmps166;go_wp2_with (go_at_call 187;refine cG.mono ?_;rintro e w2 ⟨rfl,hb2⟩);go_ret;exact⟨by rw[HX.out];rfl,hb2⟩
def Lu (K:Nat→Int)(d:Int)(s:ByteArray)(sh:Int):Int:=if Du K d=0 then Ec s sh else Du K d
theorem ZJ (h:TM w b K E R u v ys c)(d:Int)(s:ByteArray)(hs:s.size≤9223372036854775807)(sh:Int) :
 Calls Tryz.prog 137 #[Ag b,.int .i64 d,.string s,.int .i64 sh] w fun e w'=>e=.returned (.int .i64 (Lu K d s sh))∧Below w.heap.size w w':=by
 have cO:=SY h d;have cA:=Ui s hs sh w;obtain⟨X,hX⟩:∃X,Lu K d s sh=X:=⟨_,rfl⟩;rw[hX];unfold Lu at hX;generalize Du K d=o at *;generalize Ec s sh=a at *;by_cases h0:o=0
 · subst h0;have HX:Hid (X=a):=Aa (by rw[←hX,if_pos rfl]);clear hX h;go_enter Tryz.func137,Tryz.ntmps137;go_wp2_with (first
    | (go_at_call 109;refine cO.mono ?_;rintro e w1 ⟨rfl,rfl⟩)
    | (go_at_call 166;refine cA.mono ?_;rintro e w2 ⟨rfl,hb2⟩))
   go_ret;exact⟨by rw[HX.out];rfl,hb2⟩
 · have HX:Hid (X=o):=Aa (by rw[←hX,if_neg h0]);have h0b:(o==0)=false:=Ba.2 h0;clear hX h h0;go_enter Tryz.func137,Tryz.ntmps137;go_wp2_with (go_at_call 109;refine cO.mono ?_;rintro e w1 ⟨rfl,rfl⟩);go_ret;exact⟨by rw[HX.out];rfl,Ad _ _⟩
def Gm (l:List Br)(s:ByteArray)(c:Int):Int:=if 0≤ER l s then 6 else if c<1 then 12 else 0
theorem Li (h:TM w b K E R u v ys c){d:Nat}(hd:d≤200)(hl:(E d).length≤1000)(s:ByteArray) :
 Calls Tryz.prog 138 #[Ag b,.int .i64 (d:Int),.string s] w fun e w'=>e=.returned (.int .i64 (Gm (E d) s c))∧Below w.heap.size w w':=by
 have cP:=Ru h hd hl s;have HC:Hid (∀W,Below w.heap.size w W→W.cell? ⟨b,405,none⟩=some (.int .i64 c)):=Aa (fun W hW=>(h.below hW).MI.1);obtain⟨X,hX⟩:∃X,Gm (E d) s c=X:=⟨_,rfl⟩;rw[hX];unfold Gm at hX;generalize ER (E d) s=p at *;clear h;by_cases h0:0≤p
 · have HX:Hid (X=6):=Aa (by rw[←hX,if_pos h0]);clear hX;go_enter Tryz.func138,Tryz.ntmps138;go_wp2_with (go_at_call 167;refine cP.mono ?_;rintro e w1 ⟨rfl,hb1⟩;have c1:=HC.out w1 hb1);go_ret;exact⟨by rw[HX.out];rfl,hb1⟩
 · by_cases h1:c<1
   · have HX:Hid (X=12):=Aa (by rw[←hX,if_neg h0,if_pos h1]);clear hX;go_enter Tryz.func138,Tryz.ntmps138;go_wp2_with (go_at_call 167;refine cP.mono ?_;rintro e w1 ⟨rfl,hb1⟩;have c1:=HC.out w1 hb1);go_ret;exact⟨by rw[HX.out];rfl,hb1⟩
   · have HX:Hid (X=0):=Aa (by rw[←hX,if_neg h0,if_neg h1]);clear hX;go_enter Tryz.func138,Tryz.ntmps138;go_wp2_with (go_at_call 167;refine cP.mono ?_;rintro e w1 ⟨rfl,hb1⟩;have c1:=HC.out w1 hb1);go_ret;exact⟨by rw[HX.out];rfl,hb1⟩
theorem Pw (h:TM w b K E R u v ys c):Calls Tryz.prog 66 #[Ag b] w fun e w'=>e=.returned (.int .i64 c)∧w'=w:=by
 have c1:=h.MI.1;clear h;go_enter Tryz.func66,Tryz.ntmps66;go_wp2;go_ret;exact⟨rfl,rfl⟩
theorem fP (h:TM w b K E R u v ys c):Calls Tryz.prog 67 #[Ag b] w fun e w'=>e=.returned (.int .i64 (Kt 200 (Bc u ys):Nat))∧∃q,w'=w.drewN q:=by
 have cO:=Q0.Abg w v.ownBlock 200 b v (Bc u ys) w h.SK;clear h;go_enter Tryz.func67,Tryz.ntmps67;go_wp2_with (go_at_call 108;refine cO.mono ?_;rintro e w1 ⟨rfl,q,rfl⟩);go_ret;exact⟨rfl,q,rfl⟩
end
def I6:List Value:=[.string ⟨#[]⟩,.int .i64 0,.bool false,.int .i64 0,.int .i64 0]
theorem mK (W:World):(zeroValue 112).run Tryz.prog W=.ok (.agg I6.toArray) W:=(zero_of_info (P:=Tryz.prog) (t:=112) (v:=.agg I6.toArray) (n:=5) (by kernel_rfl)).1 W
theorem UK (w:World)(ty:TypeId)(b o c:Nat)(hc:∀j,j<5→(w.cell? ⟨b,o+j,none⟩).isSome=true)(hf:∀j,j<5→w.frozen? ⟨b,o+j,none⟩=false) :
 (Builtin.clear_ #[86] ty #[.slice (some ⟨b,o,none⟩) 1 c]).run Tryz.prog w=.ok (.tuple #[]) (w.setCells b o I6):=by
 have hst:=run_storeCells_cells (P:=Tryz.prog) b o I6 0 w (by simpa[I6]using hc) (by simpa[I6]using hf) (by intro v hv;simp[I6]at hv;rcases hv with rfl|rfl|rfl|rfl|rfl<;>rfl);have hz:(Builtin.zeroCells (Value.agg I6.toArray).cells 1).toList=I6:=by simp[Builtin.zeroCells,I6,Value.cells,List.range_succ]
 simp only[Nat.add_zero]at hst;have hv:=mK;simp[Builtin.clear_,run_underlying Tryz.underlying86,hv,hz,hst]
theorem df {l:List Br}{i:Nat}(hi:i<l.length):(l.eraseIdx i).flatMap DU=(l.flatMap DU).take (i*5)++(l.drop (i+1)).flatMap DU:=by
 rw[List.eraseIdx_eq_take_drop_succ,FB,Qi DU 5 l i (Eb l)]
theorem aH {α:Type}(C Z D:List α){k:Nat}(h:k≤C.length):(C.take k++Z++D).take k=C.take k:=by
 rw[Ch,List.take_append_of_le_length (by rw[Cc];omega),List.take_take,Nat.min_self]
theorem aI {α:Type}(C D:List α){k:Nat}(h:C.length=k):(C++D).take k=C:=by
 subst h;rw[List.take_append_of_le_length (Ae _),List.take_length]
def RL (B g n cap:Nat)(l:List Br)(i:Nat)(w:World)(e:Ending)(w':World):Prop:=
 e=.returned (.slice (some ⟨g,0,none⟩) (n-1) cap)∧w'.ownsRow B 112 5 (.slice (some ⟨g,0,none⟩) (n-1) cap) (l.eraseIdx i).length ((l.eraseIdx i).flatMap DU)∧w.grownBy w' (some g)
set_option maxHeartbeats 4000000 in
theorem rT (B g n cap:Nat)(l:List Br)(i:Nat)(w:World)(h:w.ownsRow B 112 5 (.slice (some ⟨g,0,none⟩) n cap) l.length (l.flatMap DU))(hn:l.length=n)(hi:i<n)(hl:n≤1000) :
 Calls Tryz.prog 170 #[.slice (some ⟨g,0,none⟩) n cap,.int .i64 (i:Int),.int .i64 ((i:Int)+1)] w (RL B g n cap l i w):=by
 unfold RL;obtain⟨i0,hi0,hz0,hz1,hz2⟩:=info_parts Tryz.M9;have htk:l.take l.length=l:=List.take_length;rcases h.2 with⟨hv,_⟩|⟨g',cap',cur,hv,hg,hb,h1,h2,h3,h4⟩
 · cases hv
 injection hv with e1 e2 e3;injection e1 with e1;injection e1 with e1 _ _;subst e1;subst e3;have hgl:=Ab hb;have hz5:I6.length=5:=rfl;have hfl:=Hm DU 5 l (Eb l);have hdl:=Hm DU 5 (l.drop (i+1)) (fun x hx=>rfl);rw[Ea]at hdl;have hcs:cur.toList.length=cap*5:=by rw[BQ];exact h3
 rw[hn]at hfl hdl h1 h4;have hcap5:n*5≤cap*5:=Nat.mul_le_mul_right 5 h1;obtain⟨news,hnews⟩:∃news,news=(l.drop (i+1)).flatMap DU:=⟨_,rfl⟩;rw[←hnews]at hdl;have hw0:w.drew.heap[g]?=some (.cells cur.toList.toArray 112 (0,0)):=by rw[Array.toArray_toList];exact hb
 have hW1:=Cm g 112 news (i*5) w.drew cur.toList hw0 (by omega);have kz:(cur.toList.take (i*5)++news++cur.toList.drop (i*5+news.length)).length=cap*5:=by
  simp only[List.length_append,List.length_take,List.length_drop];omega
 have hW2:=Cm g 112 I6 ((n-1)*5) _ _ hW1 (by rw[kz,hz5];omega);have h6:cur.toList.take (i*5)=(l.flatMap DU).take (i*5):=by rw[←h4,List.take_take,Nat.min_eq_left (by omega)]
 have HO:Hid (((w.drew.setCells g (i*5) news).setCells g ((n-1)*5) I6).ownsRow B 112 5 (.slice (some ⟨g,0,none⟩) (n-1) cap) (l.eraseIdx i).length ((l.eraseIdx i).flatMap DU)):=Aa (by
  have hel:(l.eraseIdx i).length=n-1:=by rw[List.length_eraseIdx,if_pos (by omega),hn]
  have AbC:=Hm DU 5 (l.eraseIdx i) (fun x hx=>rfl);rw[hel]at AbC ⊢;refine⟨AbC,Or.inr ⟨g,cap,_,rfl,hg,hW2,by omega,h2,?_,?_⟩⟩
  · rw[Gq];simp only[List.length_append,List.length_take,List.length_drop,kz,hz5];omega
  · have hp:(cur.toList.take (i*5)++news).length=(n-1)*5:=by
     rw[A7,Cc];omega
    rw[Iw,aH _ _ _ (by rw[kz];omega),aI _ _ hp,df (by omega),hnews,h6])
 have HG:Hid (w.grownBy ((w.drew.setCells g (i*5) news).setCells g ((n-1)*5) I6) (some g)):=Aa (by
  have hb1:Below w.heap.size w w.drew:=(Ad _ _).drew;have hs:((w.drew.setCells g (i*5) news).setCells g ((n-1)*5) I6).heap.size=w.heap.size:=by rw[size_setCells,size_setCells];rfl
  refine⟨?_,?_,?_,by rw[hs];exact Ae _,fun k hk hne=>?_⟩
  · exact(Below.setCells (Below.setCells (b:=g) (B:=g) (Ad _ w.drew) (Ae _) _ _) (Ae _) _ _).os
  · exact(Below.setCells (Below.setCells (b:=g) (B:=g) (Ad _ w.drew) (Ae _) _ _) (Ae _) _ _).tape
  · exact(Below.setCells (Below.setCells (b:=g) (B:=g) (Ad _ w.drew) (Ae _) _ _) (Ae _) _ _).output
  · rw[Cq g _ _ _ k (fun e=>hne (by rw[e])),Cq g _ _ _ k (fun e=>hne (by rw[e]))];rfl)
 have qz:=C9 hb;have s2:Hid (∀u∈news,u.oneCell'=true):=Aa (by
  intro x hx;rw[hnews]at hx;obtain⟨y,_,hx⟩:=List.mem_flatMap.1 hx;exact IL y x hx)
 have s3:Hid (∀t,t<news.length→(w.drew.cell? ⟨g,0+i*5+t,none⟩).isSome=true∧w.drew.frozen? ⟨g,0+i*5+t,none⟩=false):=Aa (fun t ht=>by
  have:=qz (i*5) (n*5-i*5) (by omega) t (by omega);rw[Gh];exact this)
 have hread:∀t x,news[t]?=some x→w.drew.cell? ⟨g,(i+1)*5+t,none⟩=some x:=fun t x hx=>by
  have htl:t<news.length:=(DL.1 hx).1;show w.cell? _=_
  rw[AB _ _ _ _ _ _ hb,←Array.getElem?_toList];have h5:(cur.toList.take (n*5))[(i+1)*5+t]?=some x:=by
   rw[h4,←hx,hnews,←Nb DU 5 l (i+1) (Eb l),I5]
  rw[JR,if_pos (by omega)]at h5;exact h5
 obtain⟨A,hA,hsrc⟩:∃A:Addr,(if cap=i+1 then some (⟨g,0,none⟩:Addr) else some ⟨g,(i+1)*5,none⟩)=some A∧Hid (∀t x,news[t]?=some x→w.drew.cell? (A.add t)=some x):=by
  by_cases hci:cap=i+1
  · refine⟨⟨g,0,none⟩,by simp[hci],Aa (fun t x hx=>?_)⟩;have:news.length=0:=by omega
    rw[Kw this]at hx;cases hx
  · refine⟨⟨g,(i+1)*5,none⟩,by simp[hci],Aa (fun t x hx=>?_)⟩;rw[Addr.add_mid];exact hread t x hx
 have s1:Hid (news.length=(n-(i+1))*5):=Aa hdl;have hcl:∀ty,(Builtin.clear_ #[86] ty #[.slice (some ⟨g,(n-1)*5,none⟩) 1 (cap-(n-1))]).run Tryz.prog (w.drew.setCells g (i*5) news)=.ok (.tuple #[]) ((w.drew.setCells g (i*5) news).setCells g ((n-1)*5) I6):=fun ty =>
  UK _ ty g ((n-1)*5) (cap-(n-1)) (fun j hj=>by
   have:=C9 hW1 ((n-1)*5) 5 (by rw[Gq,kz];omega) j hj;exact this.1) (fun j hj=>by
   have:=C9 hW1 ((n-1)*5) 5 (by rw[Gq,kz];omega) j hj;exact this.2)
 have hic:i≤cap:=by omega
 have hjc:i+1≤cap:=by omega
 have Acy:(i:Int)+1≤(n:Int):=by omega
 obtain⟨m,hm⟩:∃m,n=m+1:=⟨n-1,by omega⟩;have HX:Hid (n-1=m):=Aa (by omega);have HI0:=Aa hi0;have HZ1:=Aa hz1;have hcm:¬(cap=m):=by omega
 have hmc:m≤cap:=by omega
 have HIM:Hid (i+(m-i)=m):=Aa (by omega);have him:i≤m:=by omega
 have hiz:(0:Int)≤(i:Int)+1:=by omega
 rw[HX.out]at HO HG hcl ⊢;have s1:Hid (news.length=(m-i)*5):=Aa (by rw[s1.out,hm,show m+1-(i+1)=m-i by omega]);rw[hm]at h1 hcap5 hi Acy ⊢;clear hread qz hW1 hW2 kz hw0 hb h4 h3 hcs hfl hdl hnews h htk hn hm hi0 h6 hz0 hz1 hz2 hz5 hgl;go_enter Tryz.func170,Tryz.ntmps170;go_upto_region 5 with fail;go_region_law (first|(refine step_append_room rfl (.tmp 22) (.tmp 25) 86 rfl 112 i0 5 Tryz.underlying86 HI0.out HZ1.out g 0 i cap (by simp[Act.eval,Act.put]) A (m-i) (cap-(i+1)) news (by simp[Act.eval,Act.put]) s1.out hsrc.out s2.out (by omega) s3.out ?_;rw[show(0+i*5)=i*5 from Gh _,HIM.out]))
 all_goals
  go_wp2;go_ret;exact⟨rfl,HO.out,HG.out⟩
set_option maxHeartbeats 1000000 in
theorem aM (s:ByteArray)(w:World)(hs:s.size≤281474976710656):Calls Tryz.prog 55 #[.string s] w fun e w'=>e=.returned (.string s)∧Below w.heap.size w w':=by
 have cC:=Tryz.stringslite_Clone s w hs;go_enter Tryz.func55,Tryz.ntmps55;go_wp2_with fail;refine cC.mono ?_;rintro e w1 ⟨rfl,hb⟩;have HB:=Aa hb;clear hb cC;go_wp2;go_ret;exact⟨rfl,HB.out⟩
theorem ownsRow_form {w:World}{B:Nat}{T:TypeId}{c:Nat}{v:Value}{n:Nat}{xs:List Value}(h:w.ownsRow B T c v n xs)(hn:n≠0):∃g cap,v=.slice (some ⟨g,0,none⟩) n cap:=by
 rcases h.2 with⟨_,h0⟩|⟨g,cap,cur,hv,_⟩
 · exact absurd h0 hn
 · exact⟨g,cap,hv⟩
theorem Av {w:World}{B:Nat}{T:TypeId}{c:Nat}{v:Value}{n:Nat}{xs:List Value}(h:w.ownsRow B T c v n xs):∃a cap,v=.slice a n cap:=by
 rcases h.2 with⟨hv,h0⟩|⟨g,cap,cur,hv,_⟩
 · exact⟨none,0,by rw[hv,h0]⟩
 · exact⟨_,cap,hv⟩
theorem ME {w0 w w':World}{r:Option Nat}(hb:Below w0.heap.size w0 w)(hg:w.grownBy w' r):w0.grownBy w' r:=
 ⟨hg.os.trans hb.os,hg.tape.trans hb.tape,hg.output.trans hb.output,Ao hb.size hg.size,fun k hk hne=>(hg.block k (by have:=hb.size;omega) hne).trans (hb.block k hk)⟩
section
variable {w:World}{b:Nat}{K:Nat→Int}{E:Nat→List Br}{R:Nat→Value}{u:Nat}{v:Value}{ys:List Int}{c:Int}
set_option maxHeartbeats 4000000 in
theorem SG (h:TM w b K E R u v ys c){d:Nat}(hd:d≤200)(hl:(E d).length≤1000)(s:ByteArray){i:Nat}(hp:ER (E d) s=(i:Int))(hi:i<(E d).length) :
 Calls Tryz.prog 143 #[Ag b,.int .i64 (d:Int),.string s] w fun e w'=>∃R',e=.returned (.tuple #[])∧TM w' b K (upd E d ((E d).eraseIdx i)) R' u v ys c∧Trod w w' (DV b R v) (DV b R' v):=by
 have cP:=Ru h hd hl s;rw[hp]at cP;obtain⟨g,cap,hr⟩:=ownsRow_form (h.rows d hd) (by omega);have HT:=Aa h;have HI:=Aa hi;have HL:=Aa hl;have HR:=Aa hr;have hd0:(0:Int)≤(d:Int):=by omega
 have hd1:(d:Int)<201:=by omega
 have hi2:(i:Int)≤1000:=by omega
 have hwi:IntKind.i64.wrap ((i:Int)+1)=(i:Int)+1:=by rw[El];omega
 clear h hi hl hr hp;go_enter Tryz.func143,Tryz.ntmps143;go_upto_region 1 with(go_at_call 167;refine cP.mono ?_;rintro e w1 ⟨rfl,hb1⟩);have hT1:=HT.out.below (hb1.drew);have HB1:=Aa hb1;have HT1:=Aa hT1;have c1:=(hT1.FH hd).1;rw[HR.out]at c1;have cD:Calls Tryz.prog 170 #[.slice (some ⟨g,0,none⟩) (E d).length cap,.int .i64 (i:Int),.int .i64 ((i:Int)+1)] w1.drew (RL (b+1) g (E d).length cap (E d) i w1.drew):=rT (b+1) g (E d).length cap (E d) i w1.drew (by have:=hT1.rows d hd;rw[HR.out]at this;exact this) rfl HI.out HL.out;unfold RL at cD;have HK:Hid (∀w2,w1.drew.grownBy w2 (some g)→w2.cell? ⟨b,d*2+1,none⟩=some (.slice (some ⟨g,0,none⟩) (E d).length cap)∧w2.frozen? ⟨b,d*2+1,none⟩=false):=Aa (fun w2 hg=>by
  obtain⟨cs,hc,ho⟩:=HT1.out.cells;have hne:some b≠some g:=fun e=>by
   have:=((HT1.out.rows d hd).lt g (by rw[HR.out];rfl)).1;injection e with e;omega
  have hc2:=(hg.block b (Ab hc) hne).trans hc;exact⟨by rw[AB _ _ _ _ _ _ hc2,ho.row d hd,HR.out],BA hc2 _⟩)
 clear hT1 hb1 cP;generalize (E d).length=n at *;go_region_with (first
  | (go_at_call 170;refine cD.mono ?_;rintro e w2 ⟨rfl,ho2,hg2⟩;obtain⟨q1,q2⟩:=HK.out w2 hg2))
 all_goals
  go_end0;have hgg:w1.drew.grownBy w2 (R d).ownBlock:=by rw[HR.out];exact hg2
  obtain⟨h1,h2⟩:=HT1.out.setRow hd hgg ho2 (fun k hk=>Or.inl (by rw[HR.out];exact hk));exact⟨_,rfl,h1,(Trod.of_below HB1.out.drew).trans h2⟩
end
section
variable {w:World}{b:Nat}{K:Nat→Int}{E:Nat→List Br}{R:Nat→Value}{u:Nat}{v:Value}{ys:List Int}{c:Int}
def kindOf (t:Bool):Int:=if t=true then 2 else 1
theorem eY {α:Type}(f:Nat→α)(k:Nat)(x y:α):upd (upd f k x) k y=upd f k y:=by
 funext n;unfold upd;split<;>rfl
def ED (b:Nat)(K:Nat→Int)(E:Nat→List Br)(R:Nat→Value)(u:Nat)(v:Value)(ys:List Int)(c:Int)(d:Nat)(x:Br)(nd:Nat)(w:World)(e:Ending)(w':World):Prop:=
 ∃R',e=.returned (.tuple #[])∧TM w' b (upd K nd (kindOf x.dir)) (upd E d (E d++[x])) R' u v ys c∧Trod w w' (DV b R v) (DV b R' v)
set_option maxHeartbeats 8000000 in
theorem Vn (h:TM w b K E R u v ys c){d:Nat}(hd:d≤200)(hl:(E d).length≤1000)(x:Br){nd:Nat}(hx:x.node=nd)(hnd:nd≤200)(hs:x.name.size≤281474976710656) :
 Calls Tryz.prog 169 #[Ag b,.int .i64 (d:Int),Di x] w (ED b K E R u v ys c d x nd w):=by
 unfold ED;obtain⟨nm,n0,dr,ck,sh⟩:=x;simp only at hx hs ⊢;subst hx;have HXE:=Aa (rfl:DU ⟨nm,(nd:Int),dr,ck,sh⟩=[.string nm,.int .i64 (nd:Int),.bool dr,.int .i64 ck,.int .i64 sh]);have hb0:Below w.heap.size w (w.alloc (.cells #[.string nm,.int .i64 (nd:Int),.bool dr,.int .i64 ck,.int .i64 sh] 112)):=(Ad _ w).alloc (Ae _) _;have RI:Hid ((w.alloc (.cells #[.string nm,.int .i64 (nd:Int),.bool dr,.int .i64 ck,.int .i64 sh] 112)).heap[w.heap.size]?=some (.cells #[.string nm,.int .i64 (nd:Int),.bool dr,.int .i64 ck,.int .i64 sh] 112 (0,0))):=Aa (Ai _ _);have HB0:=Aa hb0;have HT:=Aa h;have HL:=Aa hl;have hd0:(0:Int)≤(d:Int):=by omega
 have hd1:(d:Int)<201:=by omega
 have hn0:(0:Int)≤(nd:Int):=by omega
 have hn1:(nd:Int)<201:=by omega
 have cS:=fun W=>aM nm W hs
 obtain⟨q,hq⟩:∃q,w.heap.size=q:=⟨_,rfl⟩;unfold Di;clear h hl hb0;go_enter Tryz.func169,Tryz.ntmps169;go_upto_region 1 with fail;generalize (w.alloc (.cells #[.string nm,.int .i64 (nd:Int),.bool dr,.int .i64 ck,.int .i64 sh] 112))=W0 at *;have HQ:=Aa hq
 (try rw[hq]at RI)
 (try rw[hq]at HB0)
 have wX:b<q:=by rw[←hq];exact HT.out.blt
 have p0:W0.cell? ⟨q,0,none⟩=some (.string nm):=Ap RI.out 0;clear hq;have HW1:Hid (∀w1,Below W0.heap.size W0 w1→w1.heap[q]?=some (.cells #[.string nm,.int .i64 (nd:Int),.bool dr,.int .i64 ck,.int .i64 sh] 112 (0,0))∧(w1.setCell ⟨q,0,none⟩ (.string nm)).heap[q]?=some (.cells #[.string nm,.int .i64 (nd:Int),.bool dr,.int .i64 ck,.int .i64 sh] 112 (0,0))∧Below q w (w1.setCell ⟨q,0,none⟩ (.string nm))):=Aa (fun w1 hb=>by
  have h1:=(hb.block q (Ab RI.out)).trans RI.out;refine⟨h1,?_,?_⟩
  · rw[Bn w1 q 0 _ _ _ h1];rfl
  · exact(HB0.out.trans (hb.mono (by have:=HB0.out.size;have:=HQ.out;omega))).setCell (p:=⟨q,0,none⟩) (Ae _) _)
 go_upto_region 2 with(go_at_call 55;refine(cS _).mono ?_;rintro e w1 ⟨rfl,hb1⟩;obtain⟨e1,e2,e3⟩:=HW1.out w1 hb1;have k0:w1.cell? ⟨q,0,none⟩=some (.string nm):=Ap e1 0;have k1:w1.frozen? ⟨q,0,none⟩=false:=BA e1 0);have HE2:=Aa e2;have HE3:=Aa e3;clear HW1 p0 k0 k1 e1 e2 e3 hb1 cS RI HB0;generalize w1.setCell ⟨q,0,none⟩ (.string nm)=W1 at *;have HT1:Hid (TM W1 b K E R u v ys c):=Aa (HT.out.below (by rw[HQ.out];exact HE3.out));obtain⟨⟨a0,a1,a2,a3,a4⟩,_⟩:=Aj (W:=W1.drew) HE2.out;obtain⟨k0,k1⟩:=HT1.out.LH hnd;have k2:W1.drew.cell? ⟨b,nd*2,none⟩=some (.int .i64 (K nd)):=k0;have k3:W1.drew.frozen? ⟨b,nd*2,none⟩=false:=k1;cases dr with
 | false =>
  go_big_region;have Aa1:=Aa (by rw[←HQ.out]at HE3;exact HE3.out:Below w.heap.size w W1);obtain⟨W3,hW3⟩:∃W3,(W1.setCell ⟨b,nd*2,none⟩ (.int .i64 1)).drew=W3:=⟨_,rfl⟩;have HT3:Hid (TM W3 b (upd K nd (kindOf false)) E R u v ys c):=Aa (by rw[←hW3];exact(HT1.out.setKind hnd 1).below (Ad _ _).drew);have Nl:Hid (W3.heap[q]?=some (.cells #[.string nm,.int .i64 (nd:Int),.bool false,.int .i64 ck,.int .i64 sh] 112 (0,0))):=Aa (by rw[←hW3];show(W1.setCell _ _).heap[q]?=_;rw[Bw _ _ _ _ (by show q≠b;omega)];exact HE2.out);have HR3:Hid (Trod w W3 (DV b R v) (DV b R v)):=Aa (by rw[←hW3];exact((Trod.of_below Aa1.out).trans (HT1.out.Jh _ _ R v (fun k hk=>Or.inl hk))).trans (Trod.of_below (Ad _ _).drew));obtain⟨⟨d0,d1,d2,d3,d4⟩,_⟩:=Aj (W:=W3) Nl.out;go_upto_region 5 with fail;clear a0 a1 a2 a3 a4 k0 k1 k2 k3 d0 d1 d2 d3 d4
  (try rw[hW3])
  clear hW3;have Rh:Below W3.heap.size W3 (W3.alloc (.cells #[.string nm,.int .i64 (nd:Int),.bool false,.int .i64 ck,.int .i64 sh] 112)).drew:=((Ad _ _).alloc (Ae _) _).drew;have hbb:Below W3.heap.size W3 (W3.drew.alloc (.cells #[.string nm,.int .i64 (nd:Int),.bool false,.int .i64 ck,.int .i64 sh] 112)):=((Ad _ _).drew).alloc (Ae _) _;have K5:=Aa Rh;have ZT:=Aa (HT3.out.below Rh);have HTB:=Aa (HT3.out.below hbb);have Qr:Hid (b+1≤(W3.alloc (.cells #[.string nm,.int .i64 (nd:Int),.bool false,.int .i64 ck,.int .i64 sh] 112)).drew.heap.size):=Aa ZT.out.blt;have HLA:Hid (DD (W3.alloc (.cells #[.string nm,.int .i64 (nd:Int),.bool false,.int .i64 ck,.int .i64 sh] 112)).drew (.slice (some ⟨W3.heap.size,0,none⟩) 1 1) [⟨nm,(nd:Int),false,ck,sh⟩]):=Aa (AL.block (T:=112) (fr:=(0,0)) (Eb _) (Ai _ _));obtain⟨⟨a0,a1,a2,a3,a4⟩,_⟩:=Aj (W:=W3.drew) Nl.out;have r1:W3.drew.cell? ⟨b,d*2+1,none⟩=some (R d):=(HT3.out.FH hd).1;have r2:(W3.alloc (.cells #[.string nm,.int .i64 (nd:Int),.bool false,.int .i64 ck,.int .i64 sh] 112)).drew.cell? ⟨b,d*2+1,none⟩=some (R d):=(ZT.out.FH hd).1;have HK:Hid (∀w9,(W3.alloc (.cells #[.string nm,.int .i64 (nd:Int),.bool false,.int .i64 ck,.int .i64 sh] 112)).drew.grownBy w9 (R d).ownBlock→w9.cell? ⟨b,d*2+1,none⟩=some (R d)∧w9.frozen? ⟨b,d*2+1,none⟩=false):=Aa (fun w9 hg=>by
   obtain⟨cs,hc,ho⟩:=ZT.out.cells;have hne:some b≠(R d).ownBlock:=fun e=>by
    have:=((ZT.out.rows d hd).lt b e.symm).1;omega
   have hc2:=(hg.block b (Ab hc) hne).trans hc;exact⟨by rw[AB _ _ _ _ _ _ hc2,ho.row d hd],BA hc2 _⟩)
  clear Rh hbb;obtain⟨ad,cap,hrd⟩:=(HT3.out.Fy hd).len;have HRD:=Aa hrd;obtain⟨n,hn⟩:∃n,(E d).length=n:=⟨_,rfl⟩;have HN:=Aa hn;rw[hn]at hrd;rw[hrd]at r1 r2;have yf:Hid (R d=.slice ad n cap):=Aa hrd;clear hrd hn;go_region_law (first|(refine Bf Xz rfl _ _ rfl (b+1) (.slice ad n cap) n ((E d).flatMap DU) rfl (by have:=ZT.out.rows d hd;rw[yf.out,HN.out]at this;exact this) (.slice (some ⟨W3.heap.size,0,none⟩) 1 1) [⟨nm,(nd:Int),false,ck,sh⟩] (Eb _) (fun y _=>IL y) rfl HLA.out (by have:=HL.out;have:=HN.out;simp only[List.length_singleton];omega) Qr.out ?_;intro v9 w9 JF EG Ty;obtain⟨q9,f9⟩:=HK.out w9 (by rw[yf.out];exact EG);obtain⟨av9,cv9,FQ⟩:=Av JF;subst FQ))
  all_goals
   go_end0;have hgg:W3.grownBy w9 (R d).ownBlock:=by rw[yf.out];exact ME K5.out EG
   obtain⟨g1,g2⟩:=HT3.out.setRow hd (l:=E d++[⟨nm,(nd:Int),false,ck,sh⟩]) hgg (r:=.slice av9 _ cv9) (by rw[A7,FB,HN.out];simpa using JF) (fun k hk=>by
    rcases Ty with h9|h9
    · exact Or.inl (by rw[yf.out,←h9];exact hk)
    · right;rw[show(Value.slice av9 (n+1) cv9).ownBlock=some _ from h9]at hk;have:=BS hk;have:=K5.out.size;omega)
   exact⟨_,rfl,g1,HR3.out.trans g2⟩
 | true =>
  go_big_region;obtain⟨W2,hW2⟩:∃W2,(W1.setCell ⟨b,nd*2,none⟩ (.int .i64 1)).drew=W2:=⟨_,rfl⟩;have HT2:Hid (TM W2 b (upd K nd 1) E R u v ys c):=Aa (by rw[←hW2];exact(HT1.out.setKind hnd 1).below (Ad _ _).drew);have Kh:Hid (W2.heap[q]?=some (.cells #[.string nm,.int .i64 (nd:Int),.bool true,.int .i64 ck,.int .i64 sh] 112 (0,0))):=Aa (by rw[←hW2];show(W1.setCell _ _).heap[q]?=_;rw[Bw _ _ _ _ (by show q≠b;omega)];exact HE2.out);have HR2:Hid (Trod W1 W2 (DV b R v) (DV b R v)):=Aa (by rw[←hW2];exact(HT1.out.Jh _ _ R v (fun k hk=>Or.inl hk)).trans (Trod.of_below (Ad _ _).drew));obtain⟨⟨d0,d1,d2,d3,d4⟩,_⟩:=Aj (W:=W2) Kh.out;go_upto_region 4 with fail;clear a0 a1 a2 a3 a4 k0 k1 k2 k3 d0 d1 d2 d3 d4;clear hW2;obtain⟨⟨a0,a1,a2,a3,a4⟩,_⟩:=Aj (W:=W2.drew) Kh.out;obtain⟨k0,k1⟩:=HT2.out.LH hnd;have k2:W2.drew.cell? ⟨b,nd*2,none⟩=some (.int .i64 (upd K nd 1 nd)):=k0;have k3:W2.drew.frozen? ⟨b,nd*2,none⟩=false:=k1;go_big_region;have Aa1:=Aa (by rw[←HQ.out]at HE3;exact HE3.out:Below w.heap.size w W1);obtain⟨W3,hW3⟩:∃W3,(W2.setCell ⟨b,nd*2,none⟩ (.int .i64 2)).drew=W3:=⟨_,rfl⟩;have HT3:Hid (TM W3 b (upd K nd (kindOf true)) E R u v ys c):=Aa (by rw[←hW3];have:=(HT2.out.setKind hnd 2).below (Ad _ _).drew;rw[eY]at this;exact this);have Nl:Hid (W3.heap[q]?=some (.cells #[.string nm,.int .i64 (nd:Int),.bool true,.int .i64 ck,.int .i64 sh] 112 (0,0))):=Aa (by rw[←hW3];show(W2.setCell _ _).heap[q]?=_;rw[Bw _ _ _ _ (by show q≠b;omega)];exact Kh.out);have HR3:Hid (Trod w W3 (DV b R v) (DV b R v)):=Aa (by rw[←hW3];exact(((Trod.of_below Aa1.out).trans HR2.out).trans (HT2.out.Jh _ _ R v (fun k hk=>Or.inl hk))).trans (Trod.of_below (Ad _ _).drew));obtain⟨⟨d0,d1,d2,d3,d4⟩,_⟩:=Aj (W:=W3) Nl.out;go_upto_region 5 with fail;clear a0 a1 a2 a3 a4 k0 k1 k2 k3 d0 d1 d2 d3 d4
  (try rw[hW3])
  clear hW3;have Rh:Below W3.heap.size W3 (W3.alloc (.cells #[.string nm,.int .i64 (nd:Int),.bool true,.int .i64 ck,.int .i64 sh] 112)).drew:=((Ad _ _).alloc (Ae _) _).drew;have hbb:Below W3.heap.size W3 (W3.drew.alloc (.cells #[.string nm,.int .i64 (nd:Int),.bool true,.int .i64 ck,.int .i64 sh] 112)):=((Ad _ _).drew).alloc (Ae _) _;have K5:=Aa Rh;have ZT:=Aa (HT3.out.below Rh);have HTB:=Aa (HT3.out.below hbb);have Qr:Hid (b+1≤(W3.alloc (.cells #[.string nm,.int .i64 (nd:Int),.bool true,.int .i64 ck,.int .i64 sh] 112)).drew.heap.size):=Aa ZT.out.blt;have HLA:Hid (DD (W3.alloc (.cells #[.string nm,.int .i64 (nd:Int),.bool true,.int .i64 ck,.int .i64 sh] 112)).drew (.slice (some ⟨W3.heap.size,0,none⟩) 1 1) [⟨nm,(nd:Int),true,ck,sh⟩]):=Aa (AL.block (T:=112) (fr:=(0,0)) (Eb _) (Ai _ _));obtain⟨⟨a0,a1,a2,a3,a4⟩,_⟩:=Aj (W:=W3.drew) Nl.out;have r1:W3.drew.cell? ⟨b,d*2+1,none⟩=some (R d):=(HT3.out.FH hd).1;have r2:(W3.alloc (.cells #[.string nm,.int .i64 (nd:Int),.bool true,.int .i64 ck,.int .i64 sh] 112)).drew.cell? ⟨b,d*2+1,none⟩=some (R d):=(ZT.out.FH hd).1;have HK:Hid (∀w9,(W3.alloc (.cells #[.string nm,.int .i64 (nd:Int),.bool true,.int .i64 ck,.int .i64 sh] 112)).drew.grownBy w9 (R d).ownBlock→w9.cell? ⟨b,d*2+1,none⟩=some (R d)∧w9.frozen? ⟨b,d*2+1,none⟩=false):=Aa (fun w9 hg=>by
   obtain⟨cs,hc,ho⟩:=ZT.out.cells;have hne:some b≠(R d).ownBlock:=fun e=>by
    have:=((ZT.out.rows d hd).lt b e.symm).1;omega
   have hc2:=(hg.block b (Ab hc) hne).trans hc;exact⟨by rw[AB _ _ _ _ _ _ hc2,ho.row d hd],BA hc2 _⟩)
  clear Rh hbb;obtain⟨ad,cap,hrd⟩:=(HT3.out.Fy hd).len;have HRD:=Aa hrd;obtain⟨n,hn⟩:∃n,(E d).length=n:=⟨_,rfl⟩;have HN:=Aa hn;rw[hn]at hrd;rw[hrd]at r1 r2;have yf:Hid (R d=.slice ad n cap):=Aa hrd;clear hrd hn;go_region_law (first|(refine Bf Xz rfl _ _ rfl (b+1) (.slice ad n cap) n ((E d).flatMap DU) rfl (by have:=ZT.out.rows d hd;rw[yf.out,HN.out]at this;exact this) (.slice (some ⟨W3.heap.size,0,none⟩) 1 1) [⟨nm,(nd:Int),true,ck,sh⟩] (Eb _) (fun y _=>IL y) rfl HLA.out (by have:=HL.out;have:=HN.out;simp only[List.length_singleton];omega) Qr.out ?_;intro v9 w9 JF EG Ty;obtain⟨q9,f9⟩:=HK.out w9 (by rw[yf.out];exact EG);obtain⟨av9,cv9,FQ⟩:=Av JF;subst FQ))
  all_goals
   go_end0;have hgg:W3.grownBy w9 (R d).ownBlock:=by rw[yf.out];exact ME K5.out EG
   obtain⟨g1,g2⟩:=HT3.out.setRow hd (l:=E d++[⟨nm,(nd:Int),true,ck,sh⟩]) hgg (r:=.slice av9 _ cv9) (by rw[A7,FB,HN.out];simpa using JF) (fun k hk=>by
    rcases Ty with h9|h9
    · exact Or.inl (by rw[yf.out,←h9];exact hk)
    · right;rw[show(Value.slice av9 (n+1) cv9).ownBlock=some _ from h9]at hk;have:=BS hk;have:=K5.out.size;omega)
   exact⟨_,rfl,g1,HR3.out.trans g2⟩
set_option maxHeartbeats 2000000 in
theorem U8 (h:TM w b K E R u v ys c){d:Nat}(hd:d≤200)(hl:(E d).length≤1000)(x:Br){nd:Nat}(hx:x.node=nd)(hnd:nd≤200)(hs:x.name.size≤281474976710656)(hc0:0≤c)(hc:c+1≤9223372036854775807) :
 Calls Tryz.prog 140 #[Ag b,.int .i64 (d:Int),Di x] w (ED b K E R u v ys (c+1) d { x with Al:=c } nd w):=by
 obtain⟨nm,n0,dr,ck,sh⟩:=x;simp only at hx hs ⊢;subst hx;have hb0:Below w.heap.size w (w.alloc (.cells #[.string nm,.int .i64 (nd:Int),.bool dr,.int .i64 ck,.int .i64 sh] 112)):=(Ad _ w).alloc (Ae _) _;have RI:Hid ((w.alloc (.cells #[.string nm,.int .i64 (nd:Int),.bool dr,.int .i64 ck,.int .i64 sh] 112)).heap[w.heap.size]?=some (.cells #[.string nm,.int .i64 (nd:Int),.bool dr,.int .i64 ck,.int .i64 sh] 112 (0,0))):=Aa (Ai _ _);have HB0:=Aa hb0;have HT0:=Aa h;have HT:=Aa (h.below hb0);have HL:=Aa hl;have hbl:=h.blt;obtain⟨q,hq⟩:∃q,w.heap.size=q:=⟨_,rfl⟩;have HQ:=Aa hq;unfold Di;clear h hl hb0;go_enter Tryz.func140,Tryz.ntmps140;go_upto_region 1 with fail;generalize (w.alloc (.cells #[.string nm,.int .i64 (nd:Int),.bool dr,.int .i64 ck,.int .i64 sh] 112))=W0 at *
 (try rw[hq]at RI)
 (try rw[hq]at hbl)
 clear hq;have ZV:Hid ((W0.setCell ⟨q,3,none⟩ (.int .i64 c)).heap[q]?=some (.cells #[.string nm,.int .i64 (nd:Int),.bool dr,.int .i64 c,.int .i64 sh] 112 (0,0))):=Aa (by
  rw[Bn W0 q 3 _ _ _ RI.out];rfl)
 have HB1:Hid (Below w.heap.size w (W0.setCell ⟨q,3,none⟩ (.int .i64 c))):=Aa (HB0.out.setCell (p:=⟨q,3,none⟩) (by rw[HQ.out];exact Ae _) _);have HT1:Hid (TM (W0.setCell ⟨q,3,none⟩ (.int .i64 c)) b K E R u v ys c):=Aa (by
  have h0:=HT0.out;exact h0.kept fun k hk=>(HB1.out.block k (h0.lt k hk).2))
 have p0:W0.cell? ⟨b,405,none⟩=some (.int .i64 c):=HT.out.MI.1;have p1:W0.cell? ⟨q,3,none⟩=some (.int .i64 ck):=Ap RI.out 3;have p2:W0.frozen? ⟨q,3,none⟩=false:=BA RI.out 3;have HQP:Hid (0=0):=Aa rfl;have hwc:IntKind.i64.wrap (c+1)=c+1:=by rw[El];omega
 go_upto_region 2 with fail;clear p0 p1 p2;generalize W0.setCell ⟨q,3,none⟩ (.int .i64 c)=W1 at *;have p0:W1.cell? ⟨b,405,none⟩=some (.int .i64 c):=HT1.out.MI.1;have p1:W1.frozen? ⟨b,405,none⟩=false:=HT1.out.MI.2;have HT2:=Aa (HT1.out.Rt (c+1));have HR2:Hid (Trod w (W1.setCell ⟨b,405,none⟩ (.int .i64 (c+1))) (DV b R v) (DV b R v)):=Aa ((Trod.of_below HB1.out).trans (HT1.out.Jh _ _ R v (fun k hk=>Or.inl hk)));have Kh:Hid ((W1.setCell ⟨b,405,none⟩ (.int .i64 (c+1))).heap[q]?=some (.cells #[.string nm,.int .i64 (nd:Int),.bool dr,.int .i64 c,.int .i64 sh] 112 (0,0))):=Aa (by
  rw[Bw _ _ _ _ (by show q≠b;omega)];exact ZV.out)
 obtain⟨W2,hW2⟩:∃W2,W1.setCell ⟨b,405,none⟩ (.int .i64 (c+1))=W2:=⟨_,rfl⟩;rw[hW2]at HT2 HR2 Kh;obtain⟨⟨d0,d1,d2,d3,d4⟩,_⟩:=Aj (W:=W2) Kh.out;have cP:=Vn HT2.out hd HL.out ⟨nm,(nd:Int),dr,c,sh⟩ rfl hnd hs;unfold ED Di at cP;go_wp2_with (go_at_call 169;refine cP.mono ?_;rintro e w3 ⟨R3,rfl,h3,hr3⟩;have H3:=Aa h3;have HR3:=Aa hr3;clear h3 hr3);go_end0;exact⟨R3,rfl,H3.out,HR2.out.trans HR3.out⟩
end
def Ev (E:Nat→List Br)(n:Int):Nat→Nat→Bool
 | 0,_=>false
 | k+1,d=>(E d).any fun x=>decide (x.node=n)||Ev E n k x.node.toNat
structure Lower (E:Nat→List Br)(H:Nat→Nat):Prop where
 at':∀d,d≤200→∀x∈E d,∃nd:Nat,x.node=(nd:Int)∧nd≤200∧H nd<H d
 len:∀d,d≤200→(E d).length≤1000
structure tL (W:World)(b A B C:Nat)(n:Int)(K:Nat→Int)(E:Nat→List Br)(R:Nat→Value)(u:Nat)(v:Value)(ys:List Int)(c:Int):Prop where
 tm:TM W b K E R u v ys c
 a:W.heap[A]?=some (.cells #[Ag b] 55 (0,0))
 n:W.heap[B]?=some (.cells #[.int .i64 n] 3 (0,0))
 f:W.heap[C]?=some (.cells #[.func (.func 172) #[] #[Ag A,Ag B,Ag C]] 229 (0,0))
theorem tL.below {W W':World}{b A B C:Nat}{n:Int}{K:Nat→Int}{E:Nat→List Br}{R:Nat→Value}{u:Nat}{v:Value}{ys:List Int}{c:Int}(h:tL W b A B C n K E R u v ys c)(hb:Below W.heap.size W W'):tL W' b A B C n K E R u v ys c:=
 ⟨h.tm.below hb,(hb.block _ (Ab h.a)).trans h.a,(hb.block _ (Ab h.n)).trans h.n,(hb.block _ (Ab h.f)).trans h.f⟩
set_option maxHeartbeats 4000000 in
theorem Ym (b A B C:Nat)(n:Int)(K:Nat→Int)(E:Nat→List Br)(R:Nat→Value)(u:Nat)(v:Value)(ys:List Int)(c:Int)(H:Nat→Nat)(hl:Lower E H):∀(k d:Nat) (W:World),d≤200→H d<k→tL W b A B C n K E R u v ys c →
 Calls Tryz.prog 172 #[.int .i64 (d:Int),Ag A,Ag B,Ag C] W fun e w'=>e=.returned (.bool (Ev E n k d))∧Below W.heap.size W w'
 | 0,d,W,hd,hk,hs=>absurd hk (Nat.not_lt_zero _)
 | k+1,d,W,hd,hk,hs=>by
  have IH:=fun nd W h1 h2 h3=>Ym b A B C n K E R u v ys c H hl k nd W h1 h2 h3
  have HL:=Aa hl;have HS:=Aa hs;obtain⟨X,hX⟩:∃X,Ev E n (k+1) d=X:=⟨_,rfl⟩;have HX:Hid ((E d).any (fun x=>decide (x.node=n)||Ev E n k x.node.toNat)=X):=Aa hX;rw[hX];have c0:W.cell? ⟨A,0,none⟩=some (Ag b):=Ap hs.a 0;have c1:=(hs.tm.FH hd).1;have he:=hs.tm.Fy hd;obtain⟨a,cap,hr⟩:=he.len;obtain⟨m,hm⟩:∃m,(E d).length=m:=⟨_,rfl⟩;have HM:=Aa hm;rw[hm]at hr;rw[hr]at c1 he;have HE:=Aa he;have hm1:m≤1000:=by rw[←hm];exact hl.len d hd
  have hd0:(0:Int)≤(d:Int):=by omega
  have hd1:(d:Int)<201:=by omega
  have HK:=Aa hk;have HD:=Aa hd;clear hX hm hr he hs hl;go_enter Tryz.func172,Tryz.ntmps172;go_wp2;clear c0 c1;go_loopw [16] (fun iv wr=>∃i:Nat,i≤m∧iv=.int .i64 i∧(((E d).drop i).any fun x=>decide (x.node=n)||Ev E n k x.node.toNat)=X∧Below W.heap.size W wr) (fun iv _=>m-(intOf iv).toNat)
  case atStart=>exact⟨0,by omega,rfl,HX.out,Ad _ _⟩
  case round =>
   obtain⟨i,hi,rfl,hgo,hb⟩:=hrel;have Ht:=Aa hgo;have HB:=Aa hb;clear hgo;by_cases him:i<m
   · have hiz:(i:Int)<(m:Int):=by omega
     obtain⟨x,hx⟩:∃x,(E d)[i]?=some x:=⟨_,Co (by rw[HM.out];omega)⟩;obtain⟨g,off,rfl,hg,hrr⟩:=HE.out.at hx;obtain⟨d0,d1,d2,d3,d4⟩:=Ii (DJ hrr hg hb);have HG:Hid ((((E d).drop i).any fun x=>decide (x.node=n)||Ev E n k x.node.toNat)=((decide (x.node=n)||Ev E n k x.node.toNat)||((E d).drop (i+1)).any fun x=>decide (x.node=n)||Ev E n k x.node.toNat)):=Aa (by rw[DK hx,List.any_cons]);obtain⟨nd,hnd,Aco,Adk⟩:=HL.out.at' d HD.out x (CU hx);obtain⟨nm,x1,dr,ck,sh⟩:=x;simp only at hnd d0 d1 d2 d3 d4 HG;subst hnd;rw[DY]at HG;have hbw:Below wr.heap.size wr (wr.alloc (.cells #[.string nm,.int .i64 (nd:Int),.bool dr,.int .i64 ck,.int .i64 sh] 112)):=(Ad _ _).alloc (Ae _) _;have hs2:=(HS.out.below hb).below hbw;have FU:=Aa (hb.trans (hbw.mono hb.size));have q1:(wr.alloc (.cells #[.string nm,.int .i64 (nd:Int),.bool dr,.int .i64 ck,.int .i64 sh] 112)).cell? ⟨B,0,none⟩=some (.int .i64 n):=Ap hs2.n 0;have q2:(wr.alloc (.cells #[.string nm,.int .i64 (nd:Int),.bool dr,.int .i64 ck,.int .i64 sh] 112)).cell? ⟨C,0,none⟩=some (.func (.func 172) #[] #[Ag A,Ag B,Ag C]):=Ap hs2.f 0;have cI:=IH nd _ Aco (by have:=HK.out;omega) hs2;clear IH hrr hg hx hs2 hbw hb;by_cases hnn:(nd:Int)=n
     · have zx:Hid (X=true):=Aa (by rw[←Ht.out,HG.out,A8 hnn];rfl);have hnb:((nd:Int)==n)=true:=by rw[hnn];simp
       clear cI hnn;go_wp2;go_ret;exact⟨by rw[zx.out];rfl,FU.out⟩
     · have hnb:((nd:Int)==n)=false:=Ba.2 hnn;cases ht:Ev E n k nd with
       | true =>
        have zx:Hid (X=true):=Aa (by rw[←Ht.out,HG.out,ht,Bool.or_true,Bool.true_or]);rw[ht]at cI;clear ht hnn;go_wp2_with (go_at_call 172;refine cI.mono ?_;rintro e w2 ⟨rfl,hb2⟩);go_ret;exact⟨by rw[zx.out];rfl,FU.out.trans (hb2.mono FU.out.size)⟩
       | false =>
        have zx:Hid ((((E d).drop (i+1)).any fun x=>decide (x.node=n)||Ev E n k x.node.toNat)=X):=Aa (by rw[←Ht.out,HG.out,ht,Bb hnn];rfl);rw[ht]at cI;clear ht hnn;go_wp2_with (go_at_call 172;refine cI.mono ?_;rintro e w2 ⟨rfl,hb2⟩);go_roundw
        case rel=>exact⟨i+1,by omega,by first|rfl|go_num,zx.out,FU.out.trans (hb2.mono FU.out.size)⟩
        case measure=>simp[intOf];omega
   · have hiz:¬(i:Int)<(m:Int):=by omega
     have zx:Hid (X=false):=Aa (by rw[←Ht.out,JW (by rw[HM.out];omega)];rfl);clear hb IH;go_wp2;go_ret;exact⟨by rw[zx.out];rfl,HB.out⟩
set_option maxHeartbeats 4000000 in
theorem jW {w:World}{b:Nat}{K:Nat→Int}{E:Nat→List Br}{R:Nat→Value}{u:Nat}{v:Value}{ys:List Int}{c:Int}(h:TM w b K E R u v ys c)(H:Nat→Nat)(hl:Lower E H){d:Nat}(hd:d≤200)(n:Int) :
 Calls Tryz.prog 146 #[Ag b,.int .i64 (d:Int),.int .i64 n] w fun e w'=>e=.returned (.bool (Ev E n (H d+1) d))∧Below w.heap.size w w':=by
 have cS:=fun W A B C h=>Ym b A B C n K E R u v ys c H hl (H d+1) d W hd (Nat.lt_succ_self _) h
 obtain⟨X,hX⟩:∃X,Ev E n (H d+1) d=X:=⟨_,rfl⟩;rw[hX];simp only[hX]at cS;clear hX;obtain⟨A,hA⟩:∃A,w.heap.size=A:=⟨_,rfl⟩;have HA:=Aa hA;have HT:=Aa h;have s1:(w.alloc (.cells #[Ag b] 55)).heap.size=w.heap.size+1:=by simp
 have s2:((w.alloc (.cells #[Ag b] 55)).alloc (.cells #[.int .i64 n] 3)).heap.size=w.heap.size+1+1:=by simp
 have b1:Below w.heap.size w (((w.alloc (.cells #[Ag b] 55)).alloc (.cells #[.int .i64 n] 3)).alloc (.cells #[.nilFunc] 229)):=(((Ad _ w).alloc (Ae _) _).alloc (by simp) _).alloc (by simp;omega) _;have e0:(((w.alloc (.cells #[Ag b] 55)).alloc (.cells #[.int .i64 n] 3)).alloc (.cells #[.nilFunc] 229)).heap[w.heap.size]?=some (.cells #[Ag b] 55 (0,0)):=by
  rw[Ct _ _ _ (by rw[s2];omega),Ct _ _ _ (by rw[s1];omega)];exact Ai _ _
 have e1:(((w.alloc (.cells #[Ag b] 55)).alloc (.cells #[.int .i64 n] 3)).alloc (.cells #[.nilFunc] 229)).heap[w.heap.size+1]?=some (.cells #[.int .i64 n] 3 (0,0)):=by
  rw[Ct _ _ _ (by rw[s2];omega),←s1];exact Ai _ _
 have e2:(((w.alloc (.cells #[Ag b] 55)).alloc (.cells #[.int .i64 n] 3)).alloc (.cells #[.nilFunc] 229)).heap[w.heap.size+1+1]?=some (.cells #[.nilFunc] 229 (0,0)):=by
  rw[←s2];exact Ai _ _
 have E0:=Aa e0;have E1:=Aa e1;have E2:=Aa e2;have B1:=Aa b1;have hd0:(0:Int)≤(d:Int):=by omega
 clear hl h e0 e1 e2 b1 hA s1 s2;go_enter Tryz.func146,Tryz.ntmps146;go_upto_region 2 with fail;generalize ((w.alloc (.cells #[Ag b] 55)).alloc (.cells #[.int .i64 n] 3)).alloc (.cells #[.nilFunc] 229)=W0 at *;rw[HA.out]at E0 E1 E2 B1
 (try rw[HA.out])
 have q1:W0.cell? ⟨A+1+1,0,none⟩=some .nilFunc:=Ap E2.out 0;have q2:W0.frozen? ⟨A+1+1,0,none⟩=false:=BA E2.out 0;have HX:Hid (tL (W0.setCell ⟨A+1+1,0,none⟩ (.func (.func 172) #[] #[Ag A,Ag (A+1),Ag (A+1+1)])) b A (A+1) (A+1+1) n K E R u v ys c):=Aa (by
  have hb2:Below w.heap.size w (W0.setCell ⟨A+1+1,0,none⟩ (.func (.func 172) #[] #[Ag A,Ag (A+1),Ag (A+1+1)])):=by
   rw[HA.out];exact B1.out.setCell (p:=⟨A+1+1,0,none⟩) (by show A≤A+1+1;omega) _
  refine⟨HT.out.below hb2,?_,?_,?_⟩
  · rw[Bw _ _ _ _ (by show A≠A+1+1;omega)];exact E0.out
  · rw[Bw _ _ _ _ (by show A+1≠A+1+1;omega)];exact E1.out
  · rw[Bn W0 (A+1+1) 0 _ _ _ E2.out];rfl)
 have HB2:Hid (Below A w (W0.setCell ⟨A+1+1,0,none⟩ (.func (.func 172) #[] #[Ag A,Ag (A+1),Ag (A+1+1)]))):=Aa (B1.out.setCell (p:=⟨A+1+1,0,none⟩) (by show A≤A+1+1;omega) _);go_upto_region 3 with fail;generalize (W0.setCell ⟨A+1+1,0,none⟩ (.func (.func 172) #[] #[Ag A,Ag (A+1),Ag (A+1+1)]))=W1 at *;have q3:W1.cell? ⟨A+1+1,0,none⟩=some (.func (.func 172) #[] #[Ag A,Ag (A+1),Ag (A+1+1)]):=Ap HX.out.f 0;have cS1:=cS W1 A (A+1) (A+1+1) HX.out;clear cS q1 q2;go_wp2_with (go_at_call 172;refine cS1.mono ?_;rintro e w2 ⟨rfl,hb2⟩);go_ret;exact⟨rfl,by rw[HA.out];exact HB2.out.trans (hb2.mono (by have:=HB2.out.size;have:=HA.out;omega))⟩
end Go.Proofs.YtdmkhmeaphaapaaGreat
