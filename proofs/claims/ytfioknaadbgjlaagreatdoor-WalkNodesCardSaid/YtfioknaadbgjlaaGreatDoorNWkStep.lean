/- Kit. -/
import Derived.Test.YtfioknaadbgjlaaGreatDoorNWkWalkM
import Derived.Test.YtfioknaadbgjlaaGreatDoorNWkStr
import Derived.Handy
import Derived.Laws.EntriesVeiled
set_option maxRecDepth 100000
set_option linter.unusedVariables false
set_option linter.unusedSimpArgs false
namespace Go.Proofs.YtfioknaadbgjlaaGreatDoor
open Go.RowKit Go.Sort
abbrev poV (b:Nat):Value:=.pointer (some ⟨b,0,none⟩)
def stepI (fd:List Ent→List UInt8→Option Ent)(l:List Itm)(n:Int)(s:List UInt8):Ent×Int:=
  if listE l n≠0 then(noEnt,listE l n) else match fd (listI l n) s with
    | none=>(noEnt,5)
    | some x=>(x,0)
def wstV (r:Ent×Int):Value:=.tuple #[entV r.1,.int .i64 r.2]
def ListW (w0:World)(b:Nat)(l:List Itm):Prop:=∀(d:Int) (W:World),Below w0.heap.size w0 W→Calls Tryz.prog 12 #[poV b,.int .i64 d] W fun e w'=>∃v,e=.returned (.tuple #[v,.int .i64 (listE l d)])∧EntsIs w' v (listI l d)∧Below W.heap.size W w'
def FindW (w0:World)(E:Int)(fd:List Ent→List UInt8→Option Ent)(l:List Itm):Prop:=∀(d:Int) (v:Value) (s:ByteArray) (W:World),Below w0.heap.size w0 W→EntsIs W v (listI l d)→Calls Tryz.prog 45 #[.int .i64 E,v,.string s] W fun e w'=>e=.returned (fndV (fd (listI l d) s.data.toList))∧Below W.heap.size W w'
theorem wk_five {B q:Nat}{W0 W:World}{x0 x1 x2 x3 x4:Value}(h:Below B W0 W)(hq:B≤q):Below B W0 (((((W.setCell ⟨q,0,none⟩ x0).setCell ⟨q,1,none⟩ x1).setCell ⟨q,2,none⟩ x2).setCell ⟨q,3,none⟩ x3).setCell ⟨q,4,none⟩ x4):=
  ((((h.setCell (p:=⟨q,0,none⟩) hq _).setCell (p:=⟨q,1,none⟩) hq _).setCell (p:=⟨q,2,none⟩) hq _).setCell (p:=⟨q,3,none⟩) hq _).setCell (p:=⟨q,4,none⟩) hq _
theorem wk_put {W:World}{q:Nat}{y0 y1 y2 y3 y4:Value}(h:W.heap[q]?=some (.cells #[y0,y1,y2,y3,y4] 47 (0,0)))(x0 x1 x2 x3 x4:Value):(((((W.setCell ⟨q,0,none⟩ x0).setCell ⟨q,1,none⟩ x1).setCell ⟨q,2,none⟩ x2).setCell ⟨q,3,none⟩ x3).setCell ⟨q,4,none⟩ x4).heap[q]?=some (.cells #[x0,x1,x2,x3,x4] 47 (0,0)):=by
  rw[heap_setCell_same _ q 4 _ _ _ (heap_setCell_same _ q 3 _ _ _ (heap_setCell_same _ q 2 _ _ _ (heap_setCell_same _ q 1 _ _ _ (heap_setCell_same _ q 0 _ _ _ h))))]
  rfl
theorem wk_off {W:World}{q k:Nat}(h:k≠q)(x0 x1 x2 x3 x4:Value):(((((W.setCell ⟨q,0,none⟩ x0).setCell ⟨q,1,none⟩ x1).setCell ⟨q,2,none⟩ x2).setCell ⟨q,3,none⟩ x3).setCell ⟨q,4,none⟩ x4).heap[k]?=W.heap[k]?:=by
  rw[Below.heap_setCell _ _ _ _ h,Below.heap_setCell _ _ _ _ h,Below.heap_setCell _ _ _ _ h,Below.heap_setCell _ _ _ _ h,Below.heap_setCell _ _ _ _ h]
set_option maxHeartbeats 4000000 in
theorem wstep_c {fd:List Ent→List UInt8→Option Ent}{l:List Itm}{E:Int}{b p q:Nat}{w0:World}(LC:ListW w0 b l)(FC:FindW w0 E fd l)(e:Ent)(s:ByteArray)(w:World)(hb:Below w0.heap.size w0 w)
    (hp:w.heap[p]?=some (.cells #[poV b] 25 (0,0))) (hq:w.heap[q]?=some (.cells #[.int .i64 E] 3 (0,0))) :
    Calls Tryz.prog 44 #[entV e,.string s,poV p,poV q] w fun r w'=>r=.returned (wstV (stepI fd l e.node s.data.toList))∧Below w.heap.size w w':=by
  obtain⟨nm,nd,dr,ck,sh⟩:=e
  unfold entV
  simp only
  have HB:Hid (Below w.heap.size w ((w.alloc (.cells #[.string nm,.int .i64 nd,.bool dr,.int .i64 ck,.int .i64 sh] 47)).alloc (.cells #[.string ⟨#[]⟩,.int .i64 0,.bool false,.int .i64 0,.int .i64 0] 47))):=Lib.hid (((Below.refl _ _).alloc (Nat.le_refl _) _).alloc (by simp) _)
  have HQ:Hid (((w.alloc (.cells #[.string nm,.int .i64 nd,.bool dr,.int .i64 ck,.int .i64 sh] 47)).alloc (.cells #[.string ⟨#[]⟩,.int .i64 0,.bool false,.int .i64 0,.int .i64 0] 47)).heap[w.heap.size]?=some (.cells #[.string nm,.int .i64 nd,.bool dr,.int .i64 ck,.int .i64 sh] 47 (0,0))):=Lib.hid (heap_alloc2_old _ _ _)
  have HZ:Hid (((w.alloc (.cells #[.string nm,.int .i64 nd,.bool dr,.int .i64 ck,.int .i64 sh] 47)).alloc (.cells #[.string ⟨#[]⟩,.int .i64 0,.bool false,.int .i64 0,.int .i64 0] 47)).heap[w.heap.size+1]?=some (.cells #[.string ⟨#[]⟩,.int .i64 0,.bool false,.int .i64 0,.int .i64 0] 47 (0,0))):=Lib.hid (heap_alloc2_new _ _ _)
  have HP:=Lib.hid ((HB.out.block p (lt_of_get hp)).trans hp)
  have HE:=Lib.hid ((HB.out.block q (lt_of_get hq)).trans hq)
  obtain⟨A,hA⟩:∃A,w.heap.size=A:=⟨_,rfl⟩
  have HB0:=Lib.hid (hb.trans (HB.out.mono hb.size))
  obtain⟨R,hR⟩:∃R,stepI fd l nd s.data.toList=R:=⟨_,rfl⟩
  have HR:Hid ((if listE l nd≠0 then(noEnt,listE l nd) else match fd (listI l nd) s.data.toList with|none=>(noEnt,5)|some x=>(x,0))=R):=Lib.hid hR
  rw[hR]
  clear hR hp hq hb
  go_enter Tryz.func44,Tryz.ntmps44
  go_upto_region 1 with fail
  generalize ((w.alloc (.cells #[.string nm,.int .i64 nd,.bool dr,.int .i64 ck,.int .i64 sh] 47)).alloc (.cells #[.string ⟨#[]⟩,.int .i64 0,.bool false,.int .i64 0,.int .i64 0] 47))=W0 at *
  rw[hA]at HB HQ HZ
  (try rw[hA])
  have HA:=Lib.hid hA
  clear hA
  have e0:W0.cell? ⟨p,0,none⟩=some (poV b):=Lib.cell_of_heap HP.out 0
  have e1:W0.cell? ⟨A,1,none⟩=some (.int .i64 nd):=Lib.cell_of_heap HQ.out 1
  have cL:=LC nd W0 HB0.out
  go_upto_region 2 with(go_at_call 12;refine cL.mono ?_;rintro r w1 ⟨v,rfl,hE,hb1⟩;have HE1:=Lib.hid hE;have HB1:=Lib.hid hb1;clear hE hb1)
  have HZ1:=Lib.hid ((HB1.out.block _ (lt_of_get HZ.out)).trans HZ.out)
  have HQ1:=Lib.hid ((HB1.out.block _ (lt_of_get HE.out)).trans HE.out)
  have HS:Hid (A≤W0.heap.size):=Lib.hid (HB.out.size |> fun h=>by have:=HA.out;omega)
  have HW1:Hid (Below A w w1):=Lib.hid (HB.out.trans (HB1.out.mono HS.out))
  have HX1:=Lib.hid (HB0.out.trans (HB1.out.mono HB0.out.size))
  clear e0 e1 cL LC
  by_cases hz:listE l nd=0
  · have hz2:¬listE l nd≠0:=fun h=>h hz
    have HRF:=HR.out
    rw[if_neg hz2]at HRF
    rw[hz]
    have e1:w1.cell? ⟨q,0,none⟩=some (.int .i64 E):=Lib.cell_of_heap HQ1.out 0
    have cF:=FC nd v s w1 HX1.out HE1.out
    obtain⟨av,cv,hv⟩:=HE1.out.len
    subst hv
    clear hz hz2 HR
    cases hf:fd (listI l nd) s.data.toList with
    | none =>
      rw[hf]at cF HRF
      simp only at HRF
      have HRR:=Lib.hid HRF
      simp only[fndV,entV,noEnt]at cF
      clear HRF hf
      go_upto_region 5 with(go_at_call 45;refine cF.mono ?_;rintro r w2 ⟨rfl,hb2⟩;have HB2:=Lib.hid hb2;clear hb2)
      have hal:Below w2.heap.size w2 (w2.alloc (.cells #[.string ⟨#[]⟩,.int .i64 0,.bool false,.int .i64 0,.int .i64 0] 47)):=(Below.refl _ _).alloc (Nat.le_refl _) _
      have HW2:Hid (Below A w (w2.alloc (.cells #[.string ⟨#[]⟩,.int .i64 0,.bool false,.int .i64 0,.int .i64 0] 47))):=Lib.hid ((HW1.out.trans (HB2.out.mono (Nat.le_trans HS.out HB1.out.size))).trans (hal.mono (Nat.le_trans HS.out (Nat.le_trans HB1.out.size HB2.out.size))))
      have hz2:=(HB2.out.block _ (lt_of_get HZ1.out)).trans HZ1.out
      have hz3:=(hal.block _ (lt_of_get hz2)).trans hz2
      obtain⟨⟨p0,p1,p2,p3,p4⟩,⟨f0,f1,f2,f3,f4⟩⟩:=five_cells hz3
      clear hal hz2 hz3 e1 cF FC
      generalize (w2.alloc (.cells #[.string ⟨#[]⟩,.int .i64 0,.bool false,.int .i64 0,.int .i64 0] 47))=W2 at *
      go_wp2
      (try simp only[Exit.inBlock,Exit.then])
      refine bodyPost_ret (v:=.tuple #[entV noEnt,.int .i64 5]) ?_ rfl ⟨by rw[←HRR.out];rfl,by first|exact wk_five HW2.out (Nat.le_succ _)|(rw[HA.out];exact wk_five HW2.out (Nat.le_succ _))⟩
      rw[results_cell_tmp rfl]
      unfold entV noEnt
      go_simp
    | some x =>
      rw[hf]at cF HRF
      simp only at HRF
      obtain⟨nm2,nd2,dr2,ck2,sh2⟩:=x
      have HRR:=Lib.hid HRF
      simp only[fndV,entV]at cF
      clear HRF hf
      go_upto_region 5 with(go_at_call 45;refine cF.mono ?_;rintro r w2 ⟨rfl,hb2⟩;have HB2:=Lib.hid hb2;clear hb2)
      have hal:Below w2.heap.size w2 (w2.alloc (.cells #[.string nm2,.int .i64 nd2,.bool dr2,.int .i64 ck2,.int .i64 sh2] 47)):=(Below.refl _ _).alloc (Nat.le_refl _) _
      have HW2:Hid (Below A w (w2.alloc (.cells #[.string nm2,.int .i64 nd2,.bool dr2,.int .i64 ck2,.int .i64 sh2] 47))):=Lib.hid ((HW1.out.trans (HB2.out.mono (Nat.le_trans HS.out HB1.out.size))).trans (hal.mono (Nat.le_trans HS.out (Nat.le_trans HB1.out.size HB2.out.size))))
      have hz2:=(HB2.out.block _ (lt_of_get HZ1.out)).trans HZ1.out
      have hz3:=(hal.block _ (lt_of_get hz2)).trans hz2
      have hn:=heap_alloc_new w2 (.cells #[.string nm2,.int .i64 nd2,.bool dr2,.int .i64 ck2,.int .i64 sh2] 47)
      obtain⟨⟨p0,p1,p2,p3,p4⟩,⟨f0,f1,f2,f3,f4⟩⟩:=five_cells hz3
      obtain⟨⟨r0,r1,r2,r3,r4⟩,-⟩:=five_cells hn
      clear hal hz2 hz3 hn e1 cF FC
      generalize (w2.alloc (.cells #[.string nm2,.int .i64 nd2,.bool dr2,.int .i64 ck2,.int .i64 sh2] 47))=W2 at *
      generalize w2.heap.size=k2 at *
      go_wp2
      (try simp only[Exit.inBlock,Exit.then])
      refine bodyPost_ret (v:=.tuple #[entV ⟨nm2,nd2,dr2,ck2,sh2⟩,.int .i64 0]) ?_ rfl ⟨by rw[←HRR.out];rfl,by first|exact wk_five HW2.out (Nat.le_succ _)|(rw[HA.out];exact wk_five HW2.out (Nat.le_succ _))⟩
      rw[results_cell_tmp rfl]
      unfold entV
      go_simp
  · have HRF:=HR.out
    rw[if_pos hz]at HRF
    have HRR:=Lib.hid HRF
    have hzb:(listE l nd !=0)=true:=bne_iff_ne.2 hz
    obtain⟨⟨p0,p1,p2,p3,p4⟩,⟨f0,f1,f2,f3,f4⟩⟩:=five_cells HZ1.out
    clear HR HRF FC hz
    generalize listE l nd=z at *
    go_wp2
    (try simp only[Exit.inBlock,Exit.then])
    refine bodyPost_ret (v:=.tuple #[entV noEnt,.int .i64 z]) ?_ rfl ⟨by rw[←HRR.out];rfl,by first|exact wk_five HW1.out (Nat.le_succ _)|(rw[HA.out];exact wk_five HW1.out (Nat.le_succ _))⟩
    rw[results_cell_tmp rfl]
    unfold entV noEnt
    go_simp
def walkerV (p q:Nat):Value:=.agg #[.func (.func 44) #[] #[poV p,poV q]]
theorem walkerSize:(Tryz.prog.info? 62).map (·.size)=some 1:=by kernel_rfl
set_option maxHeartbeats 4000000 in
theorem byFaces_c (E:Int)(b:Nat)(w:World):Calls Tryz.prog 20 #[.int .i64 E,poV b] w fun r w'=>∃p q,r=.returned (walkerV p q)∧w'.heap[p]?=some (.cells #[poV b] 25 (0,0))∧w'.heap[q]?=some (.cells #[.int .i64 E] 3 (0,0))∧Below w.heap.size w w':=by
  obtain⟨A,hA⟩:∃A,w.heap.size=A:=⟨_,rfl⟩
  have s1:(w.alloc (.cells #[.int .i64 E] 3)).heap.size=w.heap.size+1:=by simp
  have s2:((w.alloc (.cells #[.int .i64 E] 3)).alloc (.cells #[poV b] 25)).heap.size=w.heap.size+1+1:=by simp
  have b1:Below w.heap.size w (((w.alloc (.cells #[.int .i64 E] 3)).alloc (.cells #[poV b] 25)).alloc (.cells #[.nilFunc] 62)):=(((Below.refl _ w).alloc (Nat.le_refl _) _).alloc (by simp) _).alloc (by simp;omega) _
  have e0:(((w.alloc (.cells #[.int .i64 E] 3)).alloc (.cells #[poV b] 25)).alloc (.cells #[.nilFunc] 62)).heap[w.heap.size]?=some (.cells #[.int .i64 E] 3 (0,0)):=by
    rw[Below.heap_alloc _ _ _ (by rw[s2];omega),Below.heap_alloc _ _ _ (by rw[s1];omega)]
    exact heap_alloc_new _ _
  have e1:(((w.alloc (.cells #[.int .i64 E] 3)).alloc (.cells #[poV b] 25)).alloc (.cells #[.nilFunc] 62)).heap[w.heap.size+1]?=some (.cells #[poV b] 25 (0,0)):=by
    rw[Below.heap_alloc _ _ _ (by rw[s2];omega),←s1]
    exact heap_alloc_new _ _
  have e2:(((w.alloc (.cells #[.int .i64 E] 3)).alloc (.cells #[poV b] 25)).alloc (.cells #[.nilFunc] 62)).heap[w.heap.size+1+1]?=some (.cells #[.nilFunc] 62 (0,0)):=by
    rw[←s2]
    exact heap_alloc_new _ _
  have E0:=Lib.hid e0
  have E1:=Lib.hid e1
  have E2:=Lib.hid e2
  have B1:=Lib.hid b1
  have HA:=Lib.hid hA
  clear e0 e1 e2 b1 s1 s2
  go_enter Tryz.func20,Tryz.ntmps20
  go_upto_region 1 with fail
  generalize ((w.alloc (.cells #[.int .i64 E] 3)).alloc (.cells #[poV b] 25)).alloc (.cells #[.nilFunc] 62)=W0 at *
  rw[hA]at E0 E1 E2 B1
  (try rw[hA])
  have q1:W0.cell? ⟨A+1+1,0,none⟩=some .nilFunc:=Lib.cell_of_heap E2.out 0
  have q2:W0.frozen? ⟨A+1+1,0,none⟩=false:=Lib.frozen_of_heap E2.out 0
  clear hA
  go_wp2
  (try simp only[Exit.inBlock,Exit.then])
  have hset:(W0.setCell ⟨A+1+1,0,none⟩ (.func (.func 44) #[] #[poV (A+1),poV A])).heap[A+1+1]?=some (.cells #[.func (.func 44) #[] #[poV (A+1),poV A]] 62 (0,0)):=by
    rw[heap_setCell_same W0 (A+1+1) 0 _ _ _ E2.out]
    rfl
  refine bodyPost_ret (results_cell_row Tryz.results20 _ _ _ _ _ _ _ rfl hset Tryz.underlying62 rfl walkerSize) rfl ⟨A+1,A,rfl,?_,?_,?_⟩
  · rw[Below.heap_setCell _ _ _ _ (by show A+1≠A+1+1;omega)]
    exact E1.out
  · rw[Below.heap_setCell _ _ _ _ (by show A≠A+1+1;omega)]
    exact E0.out
  · rw[HA.out]
    exact B1.out.setCell (p:=⟨A+1+1,0,none⟩) (by show A≤A+1+1;omega) _
end Go.Proofs.YtfioknaadbgjlaaGreatDoor
