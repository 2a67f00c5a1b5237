/- Kit. -/
import Derived.Test.YtfioknaadbgjlaaGreatDoorNQI
import Derived.Test.YtfioknaadbgjlaaGreatDoorNQ4
import Derived.Test.YtfioknaadbgjlaaGreatDoorNWkRNode
import Derived.Test.YtfioknaadbgjlaaGreatDoorNWkLawA
set_option maxRecDepth 100000
set_option linter.unusedVariables false
set_option linter.unusedSimpArgs false
namespace Go.Proofs.YtfioknaadbgjlaaGreatDoor
open Go.RowKit Go.Sort
def NodeC (K:World→Prop)(fd:Int→List Ent→List UInt8→Option Ent):Prop:=∀(E:Int) (w:World) (b:Nat) (l:List Itm) (nx:Int) (S:Nat→Prop) (s:ByteArray),0≤E→E≤8→K w→theTree.Is w b l nx S→s.size≤9223372036854775807 →
  Calls Tryz.prog 8 #[.int .i64 E,ptrV b,.string s] w fun e w'=>e=.returned (walkV (nodeI (fd E) l s.data.toList))∧Below w.heap.size w w'
def ParentC (K:World→Prop)(fd:Int→List Ent→List UInt8→Option Ent):Prop:=∀(E:Int) (w:World) (b:Nat) (l:List Itm) (nx:Int) (S:Nat→Prop) (s:ByteArray),0≤E→E≤8→K w→theTree.Is w b l nx S→s.size≤9223372036854775807 →
  Calls Tryz.prog 10 #[.int .i64 E,ptrV b,.string s] w fun e w'=>e=.returned (parV (parentI (fd E) l s.data.toList))∧Below w.heap.size w w'
def RFindC (fd:Int→List Ent→List UInt8→Option Ent)(ok:Ent→Prop):Prop:=∀(E:Int),0≤E→E≤8→∀(v:Value) (l:List Ent) (s:ByteArray) (w:World),EntsIs w v l→l.length≤1000→(∀e∈l,ok e)→Calls Tryz.prog 47 #[.int .i64 E,v,.string s] w fun e w'=>e=.returned (fndV (fd E l s.data.toList))∧Below w.heap.size w w'
set_option maxHeartbeats 8000000 in
theorem nodes_walk {K:World→Prop}{fd:Int→List Ent→List UInt8→Option Ent}{ok:Ent→Prop}(hL:Lasts K)(hP:SplitC K)(hN:NodeC K fd)(hQ:ParentC K fd)(hF:RFindC fd ok)(hO:∀{w b l nx S},theTree.Is w b l nx S→∀x∈l,ok x.e)
    (x:Int) (hx0:0≤x) (hx1:x≤255) (v:Value) (l:List OpT) (s:ByteArray) (w:World) (hw:K w) (hv:OpTs w v l) (hl:l.length≤9223372036854775807) (hs:∀x∈l,x.s.size≤9223372036854775807∧x.ns.size≤9223372036854775807) (hk:∀x∈l,0≤x.k∧x.k≤255) (hsz:s.size≤9223372036854775807) :
    Calls Tryz.prog 3 #[.int .u8 x,v,.string s] w fun e w'=>e=.returned (.bool true)∧Below w.heap.size w w':=by
  have cA:=awake15_c hP w hw
  have HA:Hid (∀w1,Below w.heap.size w w1→Calls Tryz.prog 5 #[] w1 fun e w'=>e=.returned (.bool true)∧Below w1.heap.size w1 w'):=Lib.hid (fun w1 h1=>awake15_c hP w1 (hL _ _ hw h1))
  have HK:Hid (∀w1,Below w.heap.size w w1→K w1):=Lib.hid (fun w1 h1=>hL _ _ hw h1)
  have cF:=fun W (h:OpTs W v l)=>few10_c v l 40 W h hl (by omega) hs
  obtain⟨R,hR⟩:∃R,fewI l 40=R:=⟨_,rfl⟩
  rw[hR]at cF
  have HV:=Lib.hid hv
  obtain⟨a,cap,rfl⟩:=hv.len
  obtain⟨E,hE⟩:∃E,x%9=E:=⟨_,rfl⟩
  have hE0:0≤E:=by omega
  have hE8:E≤8:=by omega
  have hwE:IntKind.i64.wrap E=E:=by rw[IntKind.wrap_i64];omega
  clear hw hP
  cases R with
  | false =>
    clear hs hk hN hQ hF
    go_enter Tryz.func3,Tryz.ntmps3
    go_wp2_with (first
      | (go_at_call 5;with_reducible refine cA.mono ?_;rintro e w1 ⟨rfl,hb1⟩;have HB1:=Lib.hid hb1;clear hb1)
      | (go_at_call 6;refine(cF _ (LstIs.kept HV.out HB1.out)).mono ?_;rintro e w2 ⟨rfl,hw2⟩;subst hw2)
      | (go_at_call 5;refine(HA.out _ HB1.out).mono ?_;rintro e w3 ⟨rfl,hb3⟩))
    go_ret
    exact⟨rfl,HB1.out.trans (hb3.mono HB1.out.size)⟩
  | true =>
    by_cases hbig:300<s.size
    · have hz:(300:Int)<(s.size:Int):=by omega
      clear hs hk hN hQ hF
      go_enter Tryz.func3,Tryz.ntmps3
      go_wp2_with (first
        | (go_at_call 5;with_reducible refine cA.mono ?_;rintro e w1 ⟨rfl,hb1⟩;have HB1:=Lib.hid hb1;clear hb1)
        | (go_at_call 6;refine(cF _ (LstIs.kept HV.out HB1.out)).mono ?_;rintro e w2 ⟨rfl,hw2⟩;subst hw2)
        | (go_at_call 5;refine(HA.out _ HB1.out).mono ?_;rintro e w3 ⟨rfl,hb3⟩))
      go_ret
      exact⟨rfl,HB1.out.trans (hb3.mono HB1.out.size)⟩
    · have hz:¬(300:Int)<(s.size:Int):=by omega
      have hm80:l.length≤80:=by have:=(fewI_spec hR (by omega)).1;omega
      have cM:=fun W (h:OpTs W (.slice a l.length cap) l)=>made_c (.slice a l.length cap) l W h hm80 hs hk
      unfold MadePost treeV at cM
      have HN:=Lib.hid hN
      have HQ:=Lib.hid hQ
      have HF:=Lib.hid (hF E hE0 hE8)
      clear hs hk hl hR hv hN hQ hF
      obtain⟨m,hm⟩:∃m,l.length=m:=⟨_,rfl⟩
      simp only[hm]at cM cF HV hm80 ⊢
      clear hm
      go_enter Tryz.func3,Tryz.ntmps3
      go_wp2_with (first
        | (go_at_call 5;with_reducible refine cA.mono ?_;rintro e w1 ⟨rfl,hb1⟩;have HB1:=Lib.hid hb1;clear hb1)
        | (go_at_call 6;refine(cF _ (LstIs.kept HV.out HB1.out)).mono ?_;rintro e w2 ⟨rfl,hw2⟩;subst hw2)
        | (go_at_call 7;fail))
      refine(cM _ (LstIs.kept HV.out HB1.out)).mono ?_
      rintro e w3 ⟨b,L,nx,S,rv,rfl,hi3,hr3,-,hnx,hb3⟩
      obtain⟨ar,cr,hrv⟩:=hr3.1.len
      subst hrv
      clear cA cF cM HV
      go_wp2_with fail
      obtain⟨nl,hnl⟩:∃nl,L.length=nl:=⟨_,rfl⟩
      have hlen:L.length≤1000:=Nat.le_trans (theTree.len hi3) (by omega)
      have HOK:=Lib.hid (hO hi3)
      simp only[hnl]at hr3 ⊢
      have HB3:Hid (Below w.heap.size w (w3.alloc (.cells #[.slice ar nl cr,.int .i64 nx] 28))):=Lib.hid ((HB1.out.trans (hb3.mono HB1.out.size)).alloc (Nat.le_trans HB1.out.size hb3.size) _)
      have HI3:Hid (theTree.Is (w3.alloc (.cells #[.slice ar nl cr,.int .i64 nx] 28)) b L nx S):=Lib.hid (theTree.below hi3 ((Below.refl _ _).alloc (Nat.le_refl _) _))
      have HR3:Hid (ItmsIs (w3.alloc (.cells #[.slice ar nl cr,.int .i64 nx] 28)) (.slice ar nl cr) L):=Lib.hid (LstIs.kept hr3.1 ((Below.refl _ _).alloc (Nat.le_refl _) _))
      have HX3:Hid ((w3.alloc (.cells #[.slice ar nl cr,.int .i64 nx] 28)).heap[w3.heap.size]?=some (.cells #[.slice ar nl cr,.int .i64 nx] 28 (0,0))):=Lib.hid (heap_alloc_new _ _)
      generalize (w3.alloc (.cells #[.slice ar nl cr,.int .i64 nx] 28))=W3 at *
      generalize w3.heap.size=q at *
      have HLE:=Lib.hid hlen
      clear hi3 hr3 hb3 hlen hnl
      have cRN:=Lib.hid (fun W h=>rnode_c (fd E) ok E HF.out (.slice ar nl cr) L nx s W hsz h HLE.out HOK.out)
      have cRP:=Lib.hid (fun W h=>rparent_c (fd E) ok E HF.out (.slice ar nl cr) L nx s W hsz h HLE.out HOK.out)
      have cPN:=HN.out E W3 b L nx S s hE0 hE8 (HK.out _ HB3.out) HI3.out hsz
      have cPP:=Lib.hid (fun W h1 h2=>HQ.out E W b L nx S s hE0 hE8 h1 h2 hsz)
      unfold treeV at cRN cRP
      generalize nodeI (fd E) L s.data.toList=rN at *
      generalize parentI (fd E) L s.data.toList=rP at *
      obtain⟨n1,n2,n3⟩:=rN
      obtain⟨p1,p2,p3⟩:=rP
      unfold walkV at cRN cPN
      unfold parV at cRP cPP
      simp only at cRN cPN cRP cPP
      refine cPN.mono ?_
      rintro e w4 ⟨rfl,hb4⟩
      have HB4:=Lib.hid (HB3.out.trans (hb4.mono HB3.out.size))
      have HI4:=Lib.hid (theTree.below HI3.out hb4)
      have HR4:=Lib.hid (LstIs.kept HR3.out hb4)
      have HX4:=Lib.hid ((hb4.block q (lt_of_get HX3.out)).trans HX3.out)
      clear hb4 cPN HI3 HR3 HX3 HB3 HN HQ HF
      obtain⟨⟨x0,x1⟩,_⟩:=two_cells HX4.out
      go_wp2_with (first
        | (go_at_call 9;refine(cRN.out _ HR4.out).mono ?_;rintro e w5 ⟨rfl,hb5⟩;have HB5:=Lib.hid (HB4.out.trans (hb5.mono HB4.out.size));have HI5:=Lib.hid (theTree.below HI4.out hb5);have HR5:=Lib.hid (LstIs.kept HR4.out hb5);have HX5:=Lib.hid ((hb5.block q (lt_of_get HX4.out)).trans HX4.out);clear hb5 x0 x1)
        | (go_at_call 10;refine(cPP.out _ (HK.out _ HB5.out) HI5.out).mono ?_;rintro e w6 ⟨rfl,hb6⟩;have HB6:=Lib.hid (HB5.out.trans (hb6.mono HB5.out.size));have HR6:=Lib.hid (LstIs.kept HR5.out hb6);have HX6:=Lib.hid ((hb6.block q (lt_of_get HX5.out)).trans HX5.out);clear hb6;obtain⟨⟨x0,x1⟩,_⟩:=two_cells HX6.out)
        | (go_at_call 11;refine(cRP.out _ HR6.out).mono ?_;rintro e w7 ⟨rfl,hb7⟩;have HB7:=Lib.hid (HB6.out.trans (hb7.mono HB6.out.size));clear hb7))
      go_ret
      exact⟨by first|rfl|simp,HB7.out⟩
end Go.Proofs.YtfioknaadbgjlaaGreatDoor
