/- Kit. -/
import Derived.Test.YtfioknaadbgjlaaGreatDoorNWkWalkM
import Derived.Handy
set_option maxRecDepth 100000
set_option linter.unusedVariables false
set_option linter.unusedSimpArgs false
namespace Go.Proofs.YtfioknaadbgjlaaGreatDoor
open Go.RowKit Go.Sort
def walkV (r:Int×Bool×Int):Value:=.tuple #[.int .i64 r.1,.bool r.2.1,.int .i64 r.2.2]
set_option maxHeartbeats 4000000 in
theorem rwalk_c (fd:List Ent→List UInt8→Option Ent)(ok:Ent→Prop)(enc:Int)
    (hF:∀(v:Value) (l:List Ent) (s:ByteArray) (w:World),EntsIs w v l→l.length≤1000→(∀e∈l,ok e)→Calls Tryz.prog 47 #[.int .i64 enc,v,.string s] w fun e w'=>e=.returned (fndV (fd l s.data.toList))∧Below w.heap.size w w')
    (v:Value) (l:List Itm) (nx:Int) (nv:Value) (ns:List (List UInt8)) (w:World) (hv:ItmsIs w v l) (hl:l.length≤1000) (hok:∀x∈l,ok x.e) (hn:TxtsIs w nv (ns.map mkS)) (hns:ns.length≤1000) :
    Calls Tryz.prog 23 #[.int .i64 enc,treeV v nx,nv] w fun e w'=>e=.returned (walkV (walkI fd l ns))∧Below w.heap.size w w':=by
  have cL:=fun n w hv=>list10_c v l nx n w hv hl
  obtain⟨a,c,hnv⟩:=hn.len
  obtain⟨m,hm⟩:∃m,ns.length=m:=⟨_,rfl⟩
  rw[List.length_map,hm]at hnv
  subst hnv
  have hmk:m≤1000:=by omega
  have HM:=Lib.hid hm
  have HV:=Lib.hid hv
  have HN:=Lib.hid hn
  have HOK:=Lib.hid (listI_ok hok)
  have HLE:Hid (∀n,(listI l n).length≤1000):=Lib.hid (fun n=>Nat.le_trans (listI_le l n) hl)
  have HT:Hid (TreeAt (w.alloc (.cells #[v,.int .i64 nx] 28)) w.heap.size v nx):=Lib.hid (heap_alloc_new _ _)
  have HB:Hid (Below w.heap.size w (w.alloc (.cells #[v,.int .i64 nx] 28))):=Lib.hid ((Below.refl _ _).alloc (Nat.le_refl _) _)
  clear hm hv hn hok hl
  unfold treeV at cL ⊢
  go_enter Tryz.func23,Tryz.ntmps23
  go_wp2
  go_loopw [9,10,11] (fun nd dr iv wr=>∃(i:Nat) (n:Int) (d:Bool),iv=.int .i64 i∧nd=.int .i64 n∧dr=.bool d∧i≤m∧walkI fd l ns=walkGo fd l n d (ns.drop i)∧Below w.heap.size w wr∧TreeAt wr w.heap.size v nx) (fun _ _ iv _=>m-(intOf iv).toNat)
  case atStart=>exact⟨0,0,true,rfl,rfl,rfl,by omega,rfl,HB.out,HT.out⟩
  case round =>
    obtain⟨i,n,d,rfl,rfl,rfl,him,hgo,hbel,htr⟩:=hrel
    have HGO:=Lib.hid hgo
    have hc0:=htr.l.1
    have hc1:=htr.l.2
    have HTR:=Lib.hid htr
    clear htr
    clear hgo
    by_cases hk:i<m
    · have hkz:(i:Int)<(m:Int):=by omega
      have hk0:(0:Int)≤(i:Int):=by omega
      obtain⟨x,hx⟩:∃x,ns[i]?=some x:=⟨_,List.getElem?_eq_getElem (by rw[HM.out];omega)⟩
      have HX:=Lib.hid hx
      have HDR:Hid (ns.drop i=x::ns.drop (i+1)):=Lib.hid (drop_eq_cons hx)
      cases d with
      | false =>
        have HE:Hid (walkI fd l ns=(0,false,8)):=Lib.hid (by rw[HGO.out,HDR.out,walkGo_file])
        go_wp2
        go_ret3
        exact⟨by rw[HE.out];rfl,hbel⟩
      | true =>
        have HVW:=Lib.hid (LstIs.kept HV.out hbel)
        go_wp2_with fail
        refine(cL n _ HVW.out).mono ?_
        rintro e w1 ⟨v1,rfl,hE,hb1⟩
        have HB1:Hid (Below w.heap.size w w1):=Lib.hid (hbel.trans (hb1.mono hbel.size))
        have HE1:=Lib.hid hE
        have HTX:=Lib.hid (LstIs.kept HN.out HB1.out)
        have HTR1:Hid (TreeAt w1 w.heap.size v nx):=Lib.hid (HTR.out.below hb1)
        obtain⟨g,off,rfl,hg,hcell⟩:=txt_at HTX.out (j:=i) (s:=mkS x) (by rw[List.getElem?_map,HX.out];rfl)
        have cF:=hF v1 (listI l n) (mkS x) w1 HE1.out (HLE.out n) (HOK.out n)
        rw[mkS_list]at cF
        have HFD:Hid (∀r,fd (listI l n) x=r→walkI fd l ns=match r with|none=>(0,false,5)|some e=>walkGo fd l e.node e.dir (ns.drop (i+1))):=Lib.hid (fun r hr=>by
          rw[HGO.out,HDR.out]
          cases r with
          | none=>exact walkGo_none _ hr
          | some e=>exact walkGo_some _ hr)
        generalize hr:fd (listI l n) x=r at cF
        have HR:=Lib.hid hr
        generalize mkS x=S at *
        clear hr hc0 hc1 hE hb1
        cases r with
        | none =>
          have HE:Hid (walkI fd l ns=(0,false,5)):=Lib.hid (HFD.out _ HR.out)
          simp only[fndV,entV,noEnt]at cF
          clear HFD HR
          go_wp2_with (go_at_call 47;refine cF.mono ?_;rintro e w2 ⟨rfl,hb2⟩)
          go_ret3
          refine⟨by rw[HE.out];rfl,?_⟩
          exact HB1.out.trans ((hb2.alloc hb2.size _).mono HB1.out.size)
        | some y =>
          have HE:Hid (walkI fd l ns=walkGo fd l y.node y.dir (ns.drop (i+1))):=Lib.hid (HFD.out _ HR.out)
          obtain⟨nm,nd,dr,ck,sh⟩:=y
          simp only[fndV,entV]at cF
          clear HFD HR
          go_wp2_with (go_at_call 47;refine cF.mono ?_;rintro e w2 ⟨rfl,hb2⟩)
          go_roundw
          case rel=>exact⟨i+1,nd,dr,by first|rfl|go_num,rfl,rfl,by omega,HE.out,HB1.out.trans ((hb2.alloc hb2.size _).mono HB1.out.size),HTR1.out.below (hb2.alloc hb2.size _)⟩
          case measure=>simp[intOf]<;>omega
    · have hkz:¬(i:Int)<(m:Int):=by omega
      have HE:Hid (walkI fd l ns=(n,d,0)):=Lib.hid (by rw[HGO.out,List.drop_eq_nil_of_le (by rw[HM.out];omega)];rfl)
      go_wp2
      go_ret3
      exact⟨by rw[HE.out];rfl,hbel⟩
end Go.Proofs.YtfioknaadbgjlaaGreatDoor
