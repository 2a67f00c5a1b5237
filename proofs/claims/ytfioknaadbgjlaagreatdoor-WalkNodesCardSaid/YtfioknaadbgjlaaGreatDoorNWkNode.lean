/- Kit. -/
import Derived.Test.YtfioknaadbgjlaaGreatDoorNWkFollow
import Derived.Test.YtfioknaadbgjlaaGreatDoorNWkSplit
import Derived.Test.YtfioknaadbgjlaaGreatDoorNWkRNode
import Derived.IntWalk
set_option maxRecDepth 100000
set_option linter.unusedVariables false
set_option linter.unusedSimpArgs false
namespace Go.Proofs.YtfioknaadbgjlaaGreatDoor
open Go.RowKit Go.Sort
abbrev zEn:Obj:=.cells #[.string ⟨#[]⟩,.int .i64 0,.bool false,.int .i64 0,.int .i64 0] 47
structure KindsOk (fd:List Ent→List UInt8→Option Ent)(l:List Itm):Prop where
  kind:∀d,∀e∈listI l d,kindI l e.node=if e.dir=true then 2 else 1
  mem:∀L x e,fd L x=some e→e∈L
theorem follow_walk {fd:List Ent→List UInt8→Option Ent}{l:List Itm}(hK:KindsOk fd l):∀(ns:List (List UInt8)) (c:Ent),kindI l c.node=(if c.dir=true then 2 else 1)→walkGo fd l c.node c.dir ns=((followGo fd l c ns).1.node,(followGo fd l c ns).1.dir,(followGo fd l c ns).2)
  | [],c,_=>rfl
  | x::r,c,hc=>by
    obtain⟨nm,nd,dr,ck,sh⟩:=c
    simp only at hc
    cases dr with
    | false =>
      have hl:listE l nd=8:=by unfold listE;rw[hc];rfl
      have hs:stepI fd l nd x=(noEnt,8):=by unfold stepI;rw[hl,if_pos (by decide)]
      rw[walkGo_file,follow_err r hs (by decide)]
      rfl
    | true =>
      have hl:listE l nd=0:=by unfold listE;rw[hc];rfl
      cases hf:fd (listI l nd) x with
      | none =>
        have hs:stepI fd l nd x=(noEnt,5):=by unfold stepI;rw[hl,if_neg (fun h=>h rfl),hf]
        rw[walkGo_none r hf,follow_err r hs (by decide)]
        rfl
      | some e =>
        have hs:stepI fd l nd x=(e,0):=by unfold stepI;rw[hl,if_neg (fun h=>h rfl),hf]
        rw[walkGo_some r hf,follow_ok r hs]
        exact follow_walk hK r e (hK.kind nd e (hK.mem _ _ _ hf))
theorem walk_follow {fd:List Ent→List UInt8→Option Ent}{l:List Itm}(hK:KindsOk fd l)(ns:List (List UInt8)):walkI fd l ns=((followGo fd l rootE ns).1.node,(followGo fd l rootE ns).1.dir,(followGo fd l rootE ns).2):=
  follow_walk hK ns rootE rfl
set_option maxHeartbeats 4000000 in
theorem pnode_c {K:World→Prop}{fd:List Ent→List UInt8→Option Ent}{l:List Itm}{E:Int}{b:Nat}{w0:World}(hS:SplitC K)(hw:K w0)(LC:ListW w0 b l)(FC:FindW w0 E fd l)(hK:KindsOk fd l)(s:ByteArray)(hs:s.size≤9223372036854775807) :
    Calls Tryz.prog 8 #[.int .i64 E,poV b,.string s] w0 fun e w'=>e=.returned (walkV (nodeI fd l s.data.toList))∧Below w0.heap.size w0 w':=by
  have cS:=hS s w0 hs hw
  have hln:=splitI_len s.data.toList
  obtain⟨r,hr⟩:∃r,splitI s.data.toList=r:=⟨_,rfl⟩
  have HN:Hid (nodeI fd l s.data.toList=if r.2≠0 then(0,false,r.2) else walkI fd l r.1):=Lib.hid (by unfold nodeI;rw[hr])
  rw[hr]at cS hln
  have HL:=Lib.hid hln
  clear hr hln hS hw
  obtain⟨ns,z⟩:=r
  simp only at cS
  by_cases hz:z=0
  · subst hz
    have HW:=Lib.hid (walk_follow hK ns)
    have HC:=Lib.hid (fun p q nv W hb hp hq hn=>follow_c (p:=p) (q:=q) LC FC nv ns W hb hp hq hn (Nat.le_trans HL.out (by decide)))
    obtain⟨R,hR⟩:∃R,followGo fd l rootE ns=R:=⟨_,rfl⟩
    rw[hR]at HW HC
    obtain⟨⟨nm,nd,dr,ck,sh⟩,z⟩:=R
    have HE:Hid (nodeI fd l s.data.toList=(nd,dr,z)):=Lib.hid (by rw[HN.out,if_neg (fun h=>h rfl),HW.out])
    unfold wstV entV at HC
    simp only at HC
    clear HN HW hR LC FC hK
    go_enter Tryz.func8,Tryz.ntmps8
    go_wp2_with fail
    refine cS.mono ?_
    rintro e w1 ⟨sv,rfl,hT,hb1⟩
    obtain⟨a,c,hsv⟩:=hT.len
    obtain⟨m,hm⟩:∃m,ns.length=m:=⟨_,rfl⟩
    rw[List.length_map,hm]at hsv
    subst hsv
    have HB1:=Lib.hid hb1
    have HT:=Lib.hid hT
    clear hT hb1 cS hm
    have cB:=byFaces_c E b w1
    go_upto_region 5 with(first
      | (go_at_call 20;refine cB.mono ?_;rintro e w2 ⟨p,q,rfl,hp,hq,hb2⟩;have HP:=Lib.hid hp;have HQ:=Lib.hid hq;have HB2:=Lib.hid (HB1.out.trans (hb2.mono HB1.out.size));have HT2:=Lib.hid (LstIs.kept HT.out hb2);clear hp hq hb2)
      | (go_at_call 21;refine(HC.out p q _ _ HB2.out HP.out HQ.out HT2.out).mono ?_;rintro e w3 ⟨rfl,hb3⟩;have HB3:=Lib.hid (HB2.out.trans (hb3.mono HB2.out.size));clear hb3))
    have HB4:Hid (Below w0.heap.size w0 (w3.alloc (.cells #[.string nm,.int .i64 nd,.bool dr,.int .i64 ck,.int .i64 sh] 47))):=Lib.hid (HB3.out.alloc HB3.out.size _)
    obtain⟨⟨r0,r1,r2,r3,r4⟩,-⟩:=five_cells (heap_alloc_new w3 (.cells #[.string nm,.int .i64 nd,.bool dr,.int .i64 ck,.int .i64 sh] 47))
    generalize (w3.alloc (.cells #[.string nm,.int .i64 nd,.bool dr,.int .i64 ck,.int .i64 sh] 47))=W4 at *
    generalize w3.heap.size=k3 at *
    go_quiet (fail)
    go_wp2
    go_ret3
    exact⟨by rw[HE.out];rfl,below_draws HB4.out _⟩
  · have hzb:=ball_ne hz
    have HE:Hid (nodeI fd l s.data.toList=(0,false,z)):=Lib.hid (by rw[HN.out,if_pos hz])
    clear HN LC FC hK
    go_enter Tryz.func8,Tryz.ntmps8
    go_wp2_with fail
    refine cS.mono ?_
    rintro e w1 ⟨sv,rfl,hT,hb1⟩
    clear hT cS
    go_wp2
    go_ret3
    exact⟨by rw[HE.out];rfl,hb1⟩
set_option maxHeartbeats 4000000 in
theorem pparent_c {fd:List Ent→List UInt8→Option Ent}{l:List Itm}{E:Int}{b:Nat}{w0:World}(hS:SplitD)(LC:ListW w0 b l)(FC:FindW w0 E fd l)(hK:KindsOk fd l)(s:ByteArray)(hs:s.size≤9223372036854775807) :
    Calls Tryz.prog 10 #[.int .i64 E,poV b,.string s] w0 fun e w'=>e=.returned (parV (parentI fd l s.data.toList))∧Below w0.heap.size w0 w':=by
  have cS:=hS s w0 hs
  have hln:=splitI_len s.data.toList
  obtain⟨r,hr⟩:∃r,splitI s.data.toList=r:=⟨_,rfl⟩
  have HN:Hid (parentI fd l s.data.toList=if r.2≠0 then(0,[],r.2) else if r.1=[] then(0,[],1) else if(walkI fd l r.1.dropLast).2.2≠0 then(0,[],(walkI fd l r.1.dropLast).2.2) else if(walkI fd l r.1.dropLast).2.1=false then(0,[],8) else((walkI fd l r.1.dropLast).1,(r.1.getLast?).getD [],0)):=Lib.hid (by unfold parentI;rw[hr])
  rw[hr]at cS hln
  have HL:=Lib.hid hln
  clear hr hln hS
  obtain⟨ns,z⟩:=r
  simp only at cS
  by_cases hz:z=0
  · subst hz
    have HE:Hid (parentI fd l s.data.toList=if ns=[] then(0,[],1) else if(walkI fd l ns.dropLast).2.2≠0 then(0,[],(walkI fd l ns.dropLast).2.2) else if(walkI fd l ns.dropLast).2.1=false then(0,[],8) else((walkI fd l ns.dropLast).1,(ns.getLast?).getD [],0)):=Lib.hid (by rw[HN.out,if_neg (fun h=>h rfl)])
    clear HN
    obtain⟨m,hm⟩:∃m,ns.length=m:=⟨_,rfl⟩
    have HM:=Lib.hid hm
    have hm16:m≤16:=by have:=HL.out;simp only at this;omega
    have HW:=Lib.hid (walk_follow hK ns.dropLast)
    have HC:=Lib.hid (fun p q nv W hb hp hq hn=>follow_c (p:=p) (q:=q) LC FC nv ns.dropLast W hb hp hq hn (by rw[List.length_dropLast];omega))
    obtain⟨R,hR⟩:∃R,followGo fd l rootE ns.dropLast=R:=⟨_,rfl⟩
    rw[hR]at HW HC
    obtain⟨⟨nm,nd,dr,ck,sh⟩,z⟩:=R
    rw[HW.out]at HE
    unfold wstV entV at HC
    simp only at HC HE
    clear hm hR LC FC hK HW
    go_enter Tryz.func10,Tryz.ntmps10
    go_wp2_with fail
    refine cS.mono ?_
    rintro e w1 ⟨sv,rfl,hT,hcap,hb1⟩
    obtain⟨a,c,hsv⟩:=hT.len
    rw[List.length_map,HM.out]at hsv
    subst hsv
    have hmc:m≤c:=hcap.le
    have HB1:=Lib.hid hb1
    have HT:=Lib.hid hT
    clear hT hb1 cS
    by_cases h0:m=0
    · subst h0
      have HR:Hid (parentI fd l s.data.toList=(0,[],1)):=Lib.hid (by rw[HE.out,if_pos (List.eq_nil_of_length_eq_zero HM.out)])
      clear HE HC
      go_wp2
      go_ret3
      exact⟨by rw[HR.out];rfl,HB1.out⟩
    · have hmz:((m:Int)==0)=false:=beq_eq_false_iff_ne.2 (by omega)
      have hm1:(0:Int)≤(m:Int)-1:=by omega
      have hm1b:(1:Int)≤(m:Int):=by omega
      have hm2:(m:Int)-1≤(m:Int):=by omega
      have hm3:(m:Int)-1<(m:Int):=by omega
      have hmc2:(m:Int)-1≤(c:Int):=by omega
      have hk1:((m:Int)-1).toNat=m-1:=by omega
      have hwr:IntKind.i64.wrap ((m:Int)-1)=(m:Int)-1:=IntWalk.i64_in _ (by omega)
      have HTP:Hid (TxtsIs w1 (.slice a (m-1) c) (ns.dropLast.map mkS)):=Lib.hid (by
        have h:=HT.out.pre (k:=m-1) (by rw[List.length_map,HM.out];omega) c
        rw[←List.map_take]at h
        rw[dropLast_take,HM.out]
        exact h)
      have HNE:Hid (¬ns=[]):=Lib.hid (fun h=>h0 (by rw[←HM.out,h];rfl))
      go_upto_region 7 with fail
      go_cut [10,12] from 27 to 36 (fun zv av wx=>zv=.int .i64 z∧(∃g,av=poV g∧wx.heap[g]?=some (.cells #[.string nm,.int .i64 nd,.bool dr,.int .i64 ck,.int .i64 sh] 47 (0,0)))∧Below w1.heap.size w1 wx)
      case first =>
        go_region_with (first
          | (go_at_call 20;(with_reducible refine(byFaces_c E b w1.drew).mono ?_);rintro e w2 ⟨p,q,rfl,hp,hq,hb2⟩;have HP:=Lib.hid hp;have HQ:=Lib.hid hq;have HB2:Hid (Below w1.heap.size w1 w2):=Lib.hid ((Below.refl _ _).drew.trans hb2);clear hp hq hb2)
          | (go_at_call 20;(with_reducible refine(byFaces_c E b (w1.alloc zEn).drew).mono ?_);rintro e w2 ⟨p,q,rfl,hp,hq,hb2⟩;have HP:=Lib.hid hp;have HQ:=Lib.hid hq;have HZ2:=Lib.hid ((hb2.block _ (lt_of_get (heap_alloc_new w1 zEn))).trans (heap_alloc_new w1 zEn));have HB2:Hid (Below w1.heap.size w1 w2):=Lib.hid (((Below.refl _ _).alloc (Nat.le_refl _) _).drew.trans (hb2.mono (by show w1.heap.size≤(w1.heap.push _).size;simp)));clear hp hq hb2)
          | (go_at_call 21;have hz2:=HZ2.out;have h1:=HC.out p q (.slice a (m-1) c) w2 (HB1.out.trans (HB2.out.mono HB1.out.size)) HP.out HQ.out (LstIs.kept HTP.out HB2.out);refine h1.mono ?_;rintro e w3 ⟨rfl,hb3⟩;have HB3:=Lib.hid (HB2.out.trans (hb3.mono HB2.out.size));have HZ3:=Lib.hid ((hb3.block _ (lt_of_get hz2)).trans hz2);obtain⟨⟨p0,p1,p2,p3,p4⟩,⟨f0,f1,f2,f3,f4⟩⟩:=five_cells HZ3.out;clear hb3 h1)
          | (go_at_call 21;have h1:=HC.out p q (.slice a (m-1) c) w2 (HB1.out.trans (HB2.out.mono HB1.out.size)) HP.out HQ.out (LstIs.kept HTP.out HB2.out);refine h1.mono ?_;rintro e w3 ⟨rfl,hb3⟩;have HB3:=Lib.hid (HB2.out.trans (hb3.mono HB2.out.size));clear hb3 h1)
          | (go_at_call 21;have h1:=HC.out p q (.slice a (m-1) c) (w2.alloc zEn) (HB1.out.trans ((HB2.out.alloc HB2.out.size _).mono HB1.out.size)) (by rw[Below.heap_alloc _ _ _ (lt_of_get HP.out)];exact HP.out) (by rw[Below.heap_alloc _ _ _ (lt_of_get HQ.out)];exact HQ.out) (LstIs.kept HTP.out (HB2.out.alloc HB2.out.size _));refine h1.mono ?_;rintro e w3 ⟨rfl,hb3⟩;have HB3:=Lib.hid ((HB2.out.alloc HB2.out.size _).trans (hb3.mono (Nat.le_trans HB2.out.size (by simp))));have HZ3:=Lib.hid ((hb3.block _ (lt_of_get (heap_alloc_new w2 zEn))).trans (heap_alloc_new w2 zEn));obtain⟨⟨p0,p1,p2,p3,p4⟩,⟨f0,f1,f2,f3,f4⟩⟩:=five_cells HZ3.out;clear hb3 h1)
          | fail)
        all_goals
          go_wp2
          go_meet
          refine⟨rfl,⟨_,rfl,?_⟩,?_⟩
          · first
              | (with_reducible exact heap_alloc_new _ _)
              | (with_reducible exact wk_put HZ3.out _ _ _ _ _)
              | fail
          · first
              | (with_reducible exact Below.alloc HB3.out HB3.out.size _)
              | (with_reducible exact wk_five HB3.out (Nat.le_refl _))
              | (with_reducible exact wk_five HB3.out HB2.out.size)
              | fail
      case rest =>
        obtain⟨W2,hW2⟩:∃W,W=wc:=⟨_,rfl⟩
        subst hW2
        obtain⟨h1,⟨g,h2,h3⟩,hb2⟩:=hcut
        subst h1 h2
        obtain⟨⟨r0,r1,r2,r3,r4⟩,-⟩:=five_cells h3
        have HH:Hid (Below w0.heap.size w0 W2):=Lib.hid (HB1.out.trans (hb2.mono HB1.out.size))
        have HTX2:=Lib.hid (LstIs.kept HT.out hb2)
        clear h3 hb2 HC
        by_cases hr3:z=0
        · subst hr3
          cases dr with
          | false =>
            have HR:Hid (parentI fd l s.data.toList=(0,[],8)):=Lib.hid (by rw[HE.out,if_neg HNE.out,if_neg (fun h=>h rfl),if_pos rfl])
            clear HE
            go_wp2
            go_ret3
            exact⟨by rw[HR.out];rfl,HH.out⟩
          | true =>
            obtain⟨x,hx⟩:∃x,ns[m-1]?=some x:=⟨_,List.getElem?_eq_getElem (by rw[HM.out];omega)⟩
            have HR:Hid (parentI fd l s.data.toList=(nd,x,0)):=Lib.hid (by
              rw[HE.out,if_neg HNE.out,if_neg (fun h=>h rfl),if_neg (by decide),List.getLast?_eq_getElem?,HM.out,hx]
              rfl)
            obtain⟨g,off,rfl,hg,hcell⟩:=txt_at HTX2.out (j:=m-1) (s:=mkS x) (by rw[List.getElem?_map,hx];rfl)
            clear HE hx
            have hm5:(0:Int)≤(m:Int)-1∧(m:Int)-1<(m:Int):=by omega
            go_wp2
            go_quiet (fail)
            go_wp2
            go_ret3
            exact⟨by rw[HR.out];rfl,below_draws HH.out _⟩
        · have hzb:=ball_ne hr3
          have HR:Hid (parentI fd l s.data.toList=(0,[],z)):=Lib.hid (by rw[HE.out,if_neg HNE.out,if_pos hr3])
          clear HE
          go_wp2
          go_ret3
          exact⟨by rw[HR.out];rfl,HH.out⟩
  · have hzb:=ball_ne hz
    have HE:Hid (parentI fd l s.data.toList=(0,[],z)):=Lib.hid (by rw[HN.out,if_pos hz])
    clear HN LC FC hK
    go_enter Tryz.func10,Tryz.ntmps10
    go_wp2_with fail
    refine cS.mono ?_
    rintro e w1 ⟨sv,rfl,hT,hcap,hb1⟩
    clear hT cS
    go_wp2
    go_ret3
    exact⟨by rw[HE.out];rfl,hb1⟩
end Go.Proofs.YtfioknaadbgjlaaGreatDoor
