/- Kit. -/
import Derived.Test.YtfioknaadbgjlaaGreatDoorNWkRWalk
import Derived.Test.YtfioknaadbgjlaaGreatDoorNWkRSplit
import Derived.Handy
import Derived.IntWalk
set_option maxRecDepth 100000
set_option linter.unusedVariables false
set_option linter.unusedSimpArgs false
namespace Go.Proofs.YtfioknaadbgjlaaGreatDoor
open Go.RowKit Go.Sort
theorem ball_ne {z:Int}(h:z≠0):(z !=0)=true:=bne_iff_ne.2 h
def parV (r:Int×List UInt8×Int):Value:=.tuple #[.int .i64 r.1,.string (mkS r.2.1),.int .i64 r.2.2]
set_option maxHeartbeats 4000000 in
theorem rnode_c (fd:List Ent→List UInt8→Option Ent)(ok:Ent→Prop)(enc:Int)
    (hF:∀(v:Value) (l:List Ent) (s:ByteArray) (w:World),EntsIs w v l→l.length≤1000→(∀e∈l,ok e)→Calls Tryz.prog 47 #[.int .i64 enc,v,.string s] w fun e w'=>e=.returned (fndV (fd l s.data.toList))∧Below w.heap.size w w')
    (v:Value) (l:List Itm) (nx:Int) (b:ByteArray) (w:World) (hs:b.size≤9223372036854775807) (hv:ItmsIs w v l) (hl:l.length≤1000) (hok:∀x∈l,ok x.e) :
    Calls Tryz.prog 9 #[.int .i64 enc,treeV v nx,.string b] w fun e w'=>e=.returned (walkV (nodeI fd l b.data.toList))∧Below w.heap.size w w':=by
  have cS:=fun w=>rsplit_c b hs w
  have cW:=fun nv ns w hv hn hns=>rwalk_c fd ok enc hF v l nx nv ns w hv hl hok hn hns
  have HLN:=Lib.hid (splitI_len b.data.toList)
  have HV:=Lib.hid hv
  unfold treeV at cW ⊢
  unfold SplitPost at cS
  obtain⟨r,hr⟩:∃r,splitI b.data.toList=r:=⟨_,rfl⟩
  have HN:Hid (nodeI fd l b.data.toList=if r.2≠0 then(0,false,r.2) else walkI fd l r.1):=Lib.hid (by unfold nodeI;rw[hr])
  rw[hr]at cS HLN
  clear hF hr hv hl hok
  obtain⟨ns,z⟩:=r
  simp only at cS
  have HT:Hid (TreeAt (w.alloc (.cells #[v,.int .i64 nx] 28)) w.heap.size v nx):=Lib.hid (heap_alloc_new _ _)
  have HB:Hid (Below w.heap.size w (w.alloc (.cells #[v,.int .i64 nx] 28))):=Lib.hid ((Below.refl _ _).alloc (Nat.le_refl _) _)
  by_cases hz:z=0
  · subst hz
    have HE:Hid (nodeI fd l b.data.toList=walkI fd l ns):=Lib.hid (by rw[HN.out,if_neg (fun h=>h rfl)])
    clear HN
    go_enter Tryz.func9,Tryz.ntmps9
    go_wp2_with fail
    generalize w.alloc (.cells #[v,.int .i64 nx] 28)=W0 at *
    refine(cS W0).mono ?_
    rintro e w1 ⟨sv,rfl,hT,hcap,hb1⟩
    have HB1:Hid (Below w.heap.size w w1):=Lib.hid (HB.out.trans (hb1.mono HB.out.size))
    have HT1:=Lib.hid (HT.out.below hb1)
    have hc0:=HT1.out.l.1
    have hc1:=HT1.out.l.2
    have cW1:=cW sv ns w1 (LstIs.kept HV.out HB1.out) hT (Nat.le_trans HLN.out (by decide))
    clear hT cW cS hb1
    generalize walkI fd l ns=r at cW1 HE
    obtain⟨r1,r2,r3⟩:=r
    unfold walkV at cW1
    simp only at cW1
    go_wp2_with (go_at_call 23;refine cW1.mono ?_;rintro e w2 ⟨rfl,hb2⟩)
    go_ret3
    refine⟨by rw[HE.out];rfl,?_⟩
    exact HB1.out.trans (hb2.mono HB1.out.size)
  · have hzb:=ball_ne hz
    have HE:Hid (nodeI fd l b.data.toList=(0,false,z)):=Lib.hid (by rw[HN.out,if_pos hz])
    clear HN cW
    go_enter Tryz.func9,Tryz.ntmps9
    go_wp2_with fail
    generalize w.alloc (.cells #[v,.int .i64 nx] 28)=W0 at *
    refine(cS W0).mono ?_
    rintro e w1 ⟨sv,rfl,hT,hcap,hb1⟩
    have HB1:Hid (Below w.heap.size w w1):=Lib.hid (HB.out.trans (hb1.mono HB.out.size))
    clear hT cS hb1
    go_wp2
    go_ret3
    exact⟨by rw[HE.out];rfl,HB1.out⟩
theorem duo_step {w0 W W':World}{g:Nat}{x y:Value}(hg:g<w0.heap.size)(h:Below w0.heap.size w0 W∧W.cell? ⟨g,0,none⟩=some x∧W.cell? ⟨g,1,none⟩=some y)(hb:Below W.heap.size W W') :
    Below w0.heap.size w0 W'∧W'.cell? ⟨g,0,none⟩=some x∧W'.cell? ⟨g,1,none⟩=some y:=by
  have hgW:g<W.heap.size:=Nat.lt_of_lt_of_le hg h.1.size
  exact⟨h.1.trans (hb.mono h.1.size),by rw[hb.cell (p:=⟨g,0,none⟩) hgW];exact h.2.1,by rw[hb.cell (p:=⟨g,1,none⟩) hgW];exact h.2.2⟩
theorem duo_drew {w0 W:World}{g:Nat}{x y:Value}(h:Below w0.heap.size w0 W∧W.cell? ⟨g,0,none⟩=some x∧W.cell? ⟨g,1,none⟩=some y) :
    Below w0.heap.size w0 W.drew∧W.drew.cell? ⟨g,0,none⟩=some x∧W.drew.cell? ⟨g,1,none⟩=some y:=⟨h.1.drew,h.2.1,h.2.2⟩
theorem dropLast_take {α:Type}(l:List α):l.dropLast=l.take (l.length-1):=List.dropLast_eq_take
set_option maxHeartbeats 4000000 in
theorem rparent_c (fd:List Ent→List UInt8→Option Ent)(ok:Ent→Prop)(enc:Int)
    (hF:∀(v:Value) (l:List Ent) (s:ByteArray) (w:World),EntsIs w v l→l.length≤1000→(∀e∈l,ok e)→Calls Tryz.prog 47 #[.int .i64 enc,v,.string s] w fun e w'=>e=.returned (fndV (fd l s.data.toList))∧Below w.heap.size w w')
    (v:Value) (l:List Itm) (nx:Int) (b:ByteArray) (w:World) (hs:b.size≤9223372036854775807) (hv:ItmsIs w v l) (hl:l.length≤1000) (hok:∀x∈l,ok x.e) :
    Calls Tryz.prog 11 #[.int .i64 enc,treeV v nx,.string b] w fun e w'=>e=.returned (parV (parentI fd l b.data.toList))∧Below w.heap.size w w':=by
  have cS:=fun w=>rsplit_c b hs w
  have cW:=fun nv ns w hv hn hns=>rwalk_c fd ok enc hF v l nx nv ns w hv hl hok hn hns
  have HLN:=Lib.hid (splitI_len b.data.toList)
  have HV:=Lib.hid hv
  unfold treeV at cW ⊢
  unfold SplitPost at cS
  obtain⟨r,hr⟩:∃r,splitI b.data.toList=r:=⟨_,rfl⟩
  have HN:Hid (parentI fd l b.data.toList=if r.2≠0 then(0,[],r.2) else if r.1=[] then(0,[],1) else if(walkI fd l r.1.dropLast).2.2≠0 then(0,[],(walkI fd l r.1.dropLast).2.2) else if(walkI fd l r.1.dropLast).2.1=false then(0,[],8) else((walkI fd l r.1.dropLast).1,(r.1.getLast?).getD [],0)):=Lib.hid (by unfold parentI;rw[hr])
  rw[hr]at cS HLN
  clear hF hr hv hl hok
  obtain⟨ns,z⟩:=r
  simp only at cS
  have HT:Hid (TreeAt (w.alloc (.cells #[v,.int .i64 nx] 28)) w.heap.size v nx):=Lib.hid (heap_alloc_new _ _)
  have HB:Hid (Below w.heap.size w (w.alloc (.cells #[v,.int .i64 nx] 28))):=Lib.hid ((Below.refl _ _).alloc (Nat.le_refl _) _)
  by_cases hz:z=0
  · subst hz
    have HE:Hid (parentI fd l b.data.toList=if ns=[] then(0,[],1) else if(walkI fd l ns.dropLast).2.2≠0 then(0,[],(walkI fd l ns.dropLast).2.2) else if(walkI fd l ns.dropLast).2.1=false then(0,[],8) else((walkI fd l ns.dropLast).1,(ns.getLast?).getD [],0)):=Lib.hid (by rw[HN.out,if_neg (fun h=>h rfl)])
    clear HN
    obtain⟨m,hm⟩:∃m,ns.length=m:=⟨_,rfl⟩
    have HM:=Lib.hid hm
    have hm16:m≤16:=by have:=HLN.out;simp only at this;omega
    clear hm
    go_enter Tryz.func11,Tryz.ntmps11
    go_wp2_with fail
    generalize w.alloc (.cells #[v,.int .i64 nx] 28)=W0 at *
    refine(cS W0).mono ?_
    rintro e w1 ⟨sv,rfl,hT,hcap,hb1⟩
    have HB1:Hid (Below w.heap.size w w1):=Lib.hid (HB.out.trans (hb1.mono HB.out.size))
    have HT1:=Lib.hid (HT.out.below hb1)
    have hc0:=HT1.out.l.1
    have hc1:=HT1.out.l.2
    have HTX:=Lib.hid hT
    obtain⟨a,c,hsv⟩:=hT.len
    rw[List.length_map,HM.out]at hsv
    subst hsv
    clear hT cS hb1
    by_cases h0:m=0
    · subst h0
      have HR:Hid (parentI fd l b.data.toList=(0,[],1)):=Lib.hid (by rw[HE.out,if_pos (List.eq_nil_of_length_eq_zero HM.out)])
      clear HE cW
      go_wp2
      go_ret3
      exact⟨by rw[HR.out];rfl,HB1.out⟩
    · have hmz:((m:Int)==0)=false:=beq_eq_false_iff_ne.2 (by omega)
      have hm1:(0:Int)≤(m:Int)-1:=by omega
      have hm1b:(1:Int)≤(m:Int):=by omega
      have hm2:(m:Int)-1≤(m:Int):=by omega
      have hm3:(m:Int)-1<(m:Int):=by omega
      have hmc:m≤c:=hcap.le
      have hmc2:(m:Int)-1≤(c:Int):=by omega
      have HTP:=Lib.hid (by have h:=HTX.out.pre (k:=m-1) (by rw[List.length_map,HM.out];omega) c;rw[←List.map_take]at h;exact h)
      have cW1:=fun ww hv hn=>cW (.slice a (m-1) c) (ns.take (m-1)) ww hv hn (by rw[List.length_take];omega)
      have hk1:((m:Int)-1).toNat=m-1:=by omega
      have HD:Hid (ns.dropLast=ns.take (m-1)):=Lib.hid (by rw[dropLast_take,HM.out])
      have HV1:=Lib.hid (LstIs.kept HV.out HB1.out)
      have cW2:∀W,Below w1.heap.size w1 W→_:=fun W hW=>cW1 W (LstIs.kept HV1.out hW) (LstIs.kept HTP.out hW)
      rw[←HD.out]at cW2
      clear cW cW1
      generalize walkI fd l ns.dropLast=r at cW2 HE
      obtain⟨r1,r2,r3⟩:=r
      unfold walkV at cW2
      simp only at cW2
      go_upto_region 6 with fail
      have hgS:w.heap.size<w1.heap.size:=lt_of_get HT1.out
      have hS0:Below w1.heap.size w1 w1∧w1.cell? ⟨w.heap.size,0,none⟩=some v∧w1.cell? ⟨w.heap.size,1,none⟩=some (.int .i64 nx):=⟨Below.refl _ _,hc0,hc1⟩
      have hwr:IntKind.i64.wrap ((m:Int)-1)=(m:Int)-1:=IntWalk.i64_in _ (by omega)
      go_region_held3 (fun W=>Below w1.heap.size w1 W∧W.cell? ⟨w.heap.size,0,none⟩=some v∧W.cell? ⟨w.heap.size,1,none⟩=some (.int .i64 nx)) (first|assumption|exact duo_drew ‹_›|exact duo_step hgS ‹_› ‹_›) (first|(go_at_call 23;refine(cW2 _ (by first|assumption|exact Below.drew ‹_›|exact And.left ‹_›)).mono ?_;rintro e w' ⟨rfl,hb⟩))
      rename_i hHeld
      obtain⟨hH,-,-⟩:=hHeld
      have HH:Hid (Below w.heap.size w w'):=Lib.hid (HB1.out.trans (hH.mono (Nat.le_of_lt hgS)))
      have HTX2:=Lib.hid (LstIs.kept HTX.out hH)
      have HNE:Hid (¬ns=[]):=Lib.hid (fun h=>h0 (by rw[←HM.out,h];rfl))
      clear hH hS0 hc0 hc1 cW2 hb hwr
      by_cases hr3:r3=0
      · subst hr3
        cases r2 with
        | false =>
          have HR:Hid (parentI fd l b.data.toList=(0,[],8)):=Lib.hid (by rw[HE.out,if_neg HNE.out,if_neg (fun h=>h rfl),if_pos rfl])
          clear HE
          go_wp2
          go_ret3
          exact⟨by rw[HR.out];rfl,HH.out⟩
        | true =>
          obtain⟨x,hx⟩:∃x,ns[m-1]?=some x:=⟨_,List.getElem?_eq_getElem (by rw[HM.out];omega)⟩
          have HR:Hid (parentI fd l b.data.toList=(r1,x,0)):=Lib.hid (by
            rw[HE.out,if_neg HNE.out,if_neg (fun h=>h rfl),if_neg (by decide),List.getLast?_eq_getElem?,HM.out,hx]
            rfl)
          obtain⟨g,off,rfl,hg,hcell⟩:=txt_at HTX2.out (j:=m-1) (s:=mkS x) (by rw[List.getElem?_map,hx];rfl)
          clear HE hx
          have hm5:(0:Int)≤(m:Int)-1∧(m:Int)-1<(m:Int):=by omega
          have hwr:IntKind.i64.wrap ((m:Int)-1)=(m:Int)-1:=IntWalk.i64_in _ (by omega)
          go_wp2
          go_quiet (fail)
          go_wp2
          go_ret3
          exact⟨by rw[HR.out];rfl,below_draws HH.out _⟩
      · have hzb:=ball_ne hr3
        have HR:Hid (parentI fd l b.data.toList=(0,[],r3)):=Lib.hid (by rw[HE.out,if_neg HNE.out,if_pos hr3])
        clear HE
        go_wp2
        go_ret3
        exact⟨by rw[HR.out];rfl,HH.out⟩
  · have hzb:=ball_ne hz
    have HE:Hid (parentI fd l b.data.toList=(0,[],z)):=Lib.hid (by rw[HN.out,if_pos hz])
    clear HN cW
    go_enter Tryz.func11,Tryz.ntmps11
    go_wp2_with fail
    generalize w.alloc (.cells #[v,.int .i64 nx] 28)=W0 at *
    refine(cS W0).mono ?_
    rintro e w1 ⟨sv,rfl,hT,hcap,hb1⟩
    have HB1:Hid (Below w.heap.size w w1):=Lib.hid (HB.out.trans (hb1.mono HB.out.size))
    clear hT cS hb1
    go_wp2
    go_ret3
    exact⟨by rw[HE.out];rfl,HB1.out⟩
end Go.Proofs.YtfioknaadbgjlaaGreatDoor
