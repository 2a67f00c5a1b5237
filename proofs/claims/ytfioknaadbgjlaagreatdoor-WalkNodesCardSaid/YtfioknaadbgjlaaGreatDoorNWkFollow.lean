/- Kit. -/
import Derived.Test.YtfioknaadbgjlaaGreatDoorNWkStep
set_option maxRecDepth 100000
set_option linter.unusedVariables false
set_option linter.unusedSimpArgs false
namespace Go.Proofs.YtfioknaadbgjlaaGreatDoor
open Go.RowKit Go.Sort
def followGo (fd:List Ent→List UInt8→Option Ent)(l:List Itm):Ent→List (List UInt8)→Ent×Int
  | c,[]=>(c,0)
  | c,x::r=>if(stepI fd l c.node x).2≠0 then(noEnt,(stepI fd l c.node x).2) else followGo fd l (stepI fd l c.node x).1 r
def rootE:Ent:=⟨⟨#[]⟩,0,true,0,0⟩
theorem follow_err {fd:List Ent→List UInt8→Option Ent}{l:List Itm}{c:Ent}{x:List UInt8}(r:List (List UInt8)){e:Ent}{z:Int}(h:stepI fd l c.node x=(e,z))(hz:z≠0):followGo fd l c (x::r)=(noEnt,z):=by
  rw[followGo,h,if_pos hz]
theorem follow_ok {fd:List Ent→List UInt8→Option Ent}{l:List Itm}{c:Ent}{x:List UInt8}(r:List (List UInt8)){e:Ent}(h:stepI fd l c.node x=(e,0)):followGo fd l c (x::r)=followGo fd l e r:=by
  rw[followGo,h,if_neg (fun h=>h rfl)]
set_option maxHeartbeats 4000000 in
theorem follow_c {fd:List Ent→List UInt8→Option Ent}{l:List Itm}{E:Int}{b p q:Nat}{w0:World}(LC:ListW w0 b l)(FC:FindW w0 E fd l)(nv:Value)(ns:List (List UInt8))(w:World)(hb:Below w0.heap.size w0 w)
    (hp:w.heap[p]?=some (.cells #[poV b] 25 (0,0))) (hq:w.heap[q]?=some (.cells #[.int .i64 E] 3 (0,0))) (hn:TxtsIs w nv (ns.map mkS)) (hns:ns.length≤1000) :
    Calls Tryz.prog 21 #[walkerV p q,nv] w fun r w'=>r=.returned (wstV (followGo fd l rootE ns))∧Below w.heap.size w w':=by
  obtain⟨a,c,hnv⟩:=hn.len
  obtain⟨m,hm⟩:∃m,ns.length=m:=⟨_,rfl⟩
  rw[List.length_map,hm]at hnv
  subst hnv
  have hmk:m≤1000:=by omega
  have HM:=Lib.hid hm
  have HN:=Lib.hid hn
  have HC:Hid (∀(W:World),Below w.heap.size w W→∀(e:Ent) (s:ByteArray),Calls Tryz.prog 44 #[entV e,.string s,poV p,poV q] W fun r w'=>r=.returned (wstV (stepI fd l e.node s.data.toList))∧Below W.heap.size W w'):=
    Lib.hid (fun W hW e s=>wstep_c LC FC e s W (hb.trans (hW.mono hb.size)) ((hW.block p (lt_of_get hp)).trans hp) ((hW.block q (lt_of_get hq)).trans hq))
  obtain⟨A,hA⟩:∃A,w.heap.size=A:=⟨_,rfl⟩
  unfold walkerV
  have s1:(w.alloc (.cells #[.func (.func 44) #[] #[poV p,poV q]] 62)).heap.size=w.heap.size+1:=by simp
  have s2:((w.alloc (.cells #[.func (.func 44) #[] #[poV p,poV q]] 62)).alloc (.cells #[.string ⟨#[]⟩,.int .i64 0,.bool false,.int .i64 0,.int .i64 0] 47)).heap.size=w.heap.size+1+1:=by simp
  have b1:Below w.heap.size w (((w.alloc (.cells #[.func (.func 44) #[] #[poV p,poV q]] 62)).alloc (.cells #[.string ⟨#[]⟩,.int .i64 0,.bool false,.int .i64 0,.int .i64 0] 47)).alloc (.cells #[.string ⟨#[]⟩,.int .i64 0,.bool true,.int .i64 0,.int .i64 0] 47)):=(((Below.refl _ w).alloc (Nat.le_refl _) _).alloc (by simp) _).alloc (by simp;omega) _
  have e0:(((w.alloc (.cells #[.func (.func 44) #[] #[poV p,poV q]] 62)).alloc (.cells #[.string ⟨#[]⟩,.int .i64 0,.bool false,.int .i64 0,.int .i64 0] 47)).alloc (.cells #[.string ⟨#[]⟩,.int .i64 0,.bool true,.int .i64 0,.int .i64 0] 47)).heap[w.heap.size]?=some (.cells #[.func (.func 44) #[] #[poV p,poV q]] 62 (0,0)):=by
    rw[Below.heap_alloc _ _ _ (by rw[s2];omega),Below.heap_alloc _ _ _ (by rw[s1];omega)]
    exact heap_alloc_new _ _
  have e1:(((w.alloc (.cells #[.func (.func 44) #[] #[poV p,poV q]] 62)).alloc (.cells #[.string ⟨#[]⟩,.int .i64 0,.bool false,.int .i64 0,.int .i64 0] 47)).alloc (.cells #[.string ⟨#[]⟩,.int .i64 0,.bool true,.int .i64 0,.int .i64 0] 47)).heap[w.heap.size+1]?=some (.cells #[.string ⟨#[]⟩,.int .i64 0,.bool false,.int .i64 0,.int .i64 0] 47 (0,0)):=by
    rw[Below.heap_alloc _ _ _ (by rw[s2];omega),←s1]
    exact heap_alloc_new _ _
  have e2:(((w.alloc (.cells #[.func (.func 44) #[] #[poV p,poV q]] 62)).alloc (.cells #[.string ⟨#[]⟩,.int .i64 0,.bool false,.int .i64 0,.int .i64 0] 47)).alloc (.cells #[.string ⟨#[]⟩,.int .i64 0,.bool true,.int .i64 0,.int .i64 0] 47)).heap[w.heap.size+1+1]?=some (.cells #[.string ⟨#[]⟩,.int .i64 0,.bool true,.int .i64 0,.int .i64 0] 47 (0,0)):=by
    rw[←s2]
    exact heap_alloc_new _ _
  have E0:=Lib.hid e0
  have E1:=Lib.hid e1
  have E2:=Lib.hid e2
  have B1:=Lib.hid b1
  have HA:=Lib.hid hA
  clear e0 e1 e2 b1 s1 s2 hm hn hp hq hb LC FC hns
  go_enter Tryz.func21,Tryz.ntmps21
  go_upto_region 2 with fail
  generalize (((w.alloc (.cells #[.func (.func 44) #[] #[poV p,poV q]] 62)).alloc (.cells #[.string ⟨#[]⟩,.int .i64 0,.bool false,.int .i64 0,.int .i64 0] 47)).alloc (.cells #[.string ⟨#[]⟩,.int .i64 0,.bool true,.int .i64 0,.int .i64 0] 47))=W0 at *
  rw[hA]at E0 E1 E2 B1
  (try rw[hA])
  clear hA
  go_wp2
  go_loopw [14] (fun iv wr=>∃(i:Nat) (e:Ent),iv=.int .i64 i∧i≤m∧followGo fd l rootE ns=followGo fd l e (ns.drop i)∧Below A w wr∧wr.heap[A]?=some (.cells #[.func (.func 44) #[] #[poV p,poV q]] 62 (0,0))∧wr.heap[A+1]?=some (.cells #[.string ⟨#[]⟩,.int .i64 0,.bool false,.int .i64 0,.int .i64 0] 47 (0,0))∧wr.heap[A+1+1]?=some (.cells #[.string e.name,.int .i64 e.node,.bool e.dir,.int .i64 e.cookie,.int .i64 e.short] 47 (0,0))) (fun iv _=>m-(intOf iv).toNat)
  case atStart=>exact⟨0,rootE,rfl,by omega,rfl,B1.out,E0.out,E1.out,E2.out⟩
  case round =>
    obtain⟨i,e,rfl,him,hgo,hbel,h0,h1,h2⟩:=hrel
    obtain⟨nm,nd,dr,ck,sh⟩:=e
    simp only at h2
    have HGO:=Lib.hid hgo
    have HB:=Lib.hid hbel
    have H0:=Lib.hid h0
    have H1:=Lib.hid h1
    have H2:=Lib.hid h2
    have HBW:Hid (Below w.heap.size w wr):=Lib.hid (by rw[HA.out];exact hbel)
    have hc0:wr.cell? ⟨A,0,none⟩=some (.func (.func 44) #[] #[poV p,poV q]):=Lib.cell_of_heap h0 0
    obtain⟨⟨r0,r1,r2,r3,r4⟩,-⟩:=five_cells h2
    clear hgo hbel h0 h1 h2 E0 E1 E2 B1
    by_cases hk:i<m
    · have hkz:(i:Int)<(m:Int):=by omega
      have hk0:(0:Int)≤(i:Int):=by omega
      obtain⟨x,hx⟩:∃x,ns[i]?=some x:=⟨_,List.getElem?_eq_getElem (by rw[HM.out];omega)⟩
      have HX:=Lib.hid hx
      have HDR:Hid (ns.drop i=x::ns.drop (i+1)):=Lib.hid (drop_eq_cons hx)
      have HTX:=Lib.hid (LstIs.kept HN.out HBW.out)
      obtain⟨g,off,rfl,hg,hcell⟩:=txt_at HTX.out (j:=i) (s:=mkS x) (by rw[List.getElem?_map,HX.out];rfl)
      have cS:=HC.out wr HBW.out ⟨nm,nd,dr,ck,sh⟩ (mkS x)
      rw[mkS_list]at cS
      obtain⟨S,hS⟩:∃S,stepI fd l nd x=S:=⟨_,rfl⟩
      have HS:=Lib.hid hS
      simp only[hS]at cS
      obtain⟨⟨nm2,nd2,dr2,ck2,sh2⟩,z⟩:=S
      unfold wstV entV at cS
      simp only at cS
      generalize mkS x=T at *
      clear hS hx
      go_upto_region 6 with(go_at_call 44;refine cS.mono ?_;rintro r w1 ⟨rfl,hb1⟩;have HB1:=Lib.hid hb1;clear hb1)
      clear cS r0 r1 r2 r3 r4 hc0 hcell hg
      have hal:Below w1.heap.size w1 (w1.alloc (.cells #[.string nm2,.int .i64 nd2,.bool dr2,.int .i64 ck2,.int .i64 sh2] 47)):=(Below.refl _ _).alloc (Nat.le_refl _) _
      have hab:Below wr.heap.size wr (w1.alloc (.cells #[.string nm2,.int .i64 nd2,.bool dr2,.int .i64 ck2,.int .i64 sh2] 47)):=HB1.out.trans (hal.mono HB1.out.size)
      have hsz:=lt_of_get H2.out
      have HW2:Hid (Below A w (w1.alloc (.cells #[.string nm2,.int .i64 nd2,.bool dr2,.int .i64 ck2,.int .i64 sh2] 47))):=Lib.hid (HB.out.trans (hab.mono (by omega)))
      have HN2:=Lib.hid (heap_alloc_new w1 (.cells #[.string nm2,.int .i64 nd2,.bool dr2,.int .i64 ck2,.int .i64 sh2] 47))
      have J0:=Lib.hid ((hab.block _ (lt_of_get H0.out)).trans H0.out)
      have J1:=Lib.hid ((hab.block _ (lt_of_get H1.out)).trans H1.out)
      have J2:=Lib.hid ((hab.block _ (lt_of_get H2.out)).trans H2.out)
      have HLT:Hid (A+1+1<w1.heap.size):=Lib.hid (Nat.lt_of_lt_of_le hsz HB1.out.size)
      clear hal hab hsz HB1
      generalize (w1.alloc (.cells #[.string nm2,.int .i64 nd2,.bool dr2,.int .i64 ck2,.int .i64 sh2] 47))=W2 at *
      generalize w1.heap.size=k2 at *
      by_cases hz:z=0
      · subst hz
        have HG:Hid (followGo fd l rootE ns=followGo fd l ⟨nm2,nd2,dr2,ck2,sh2⟩ (ns.drop (i+1))):=Lib.hid (by rw[HGO.out,HDR.out];exact follow_ok _ HS.out)
        obtain⟨⟨r0,r1,r2,r3,r4⟩,-⟩:=five_cells HN2.out
        obtain⟨⟨p0,p1,p2,p3,p4⟩,⟨f0,f1,f2,f3,f4⟩⟩:=five_cells J2.out
        clear HGO
        go_wp2
        go_roundw
        case rel=>exact⟨i+1,⟨nm2,nd2,dr2,ck2,sh2⟩,by first|rfl|go_num,by omega,HG.out,wk_five HW2.out (by omega),by rw[wk_off (by omega)];exact J0.out,by rw[wk_off (by omega)];exact J1.out,wk_put J2.out _ _ _ _ _⟩
        case measure=>simp[intOf]<;>omega
      · have HG:Hid (followGo fd l rootE ns=(noEnt,z)):=Lib.hid (by rw[HGO.out,HDR.out];exact follow_err _ HS.out hz)
        have hzb:(z !=0)=true:=bne_iff_ne.2 hz
        obtain⟨⟨p0,p1,p2,p3,p4⟩,⟨f0,f1,f2,f3,f4⟩⟩:=five_cells J1.out
        clear HGO
        go_wp2
        (try simp only[Exit.inBlock,Exit.then])
        refine bodyPost_ret (v:=.tuple #[entV noEnt,.int .i64 z]) ?_ rfl ⟨by rw[HG.out];rfl,by rw[HA.out];exact wk_five HW2.out (Nat.le_succ _)⟩
        rw[results_cell_tmp rfl]
        unfold entV noEnt
        go_simp
    · have hkz:¬(i:Int)<(m:Int):=by omega
      have HG:Hid (followGo fd l rootE ns=(⟨nm,nd,dr,ck,sh⟩,0)):=Lib.hid (by rw[HGO.out,List.drop_eq_nil_of_le (by rw[HM.out];omega)];rfl)
      obtain⟨⟨p0,p1,p2,p3,p4⟩,⟨f0,f1,f2,f3,f4⟩⟩:=five_cells H1.out
      clear HGO
      go_wp2
      (try simp only[Exit.inBlock,Exit.then])
      refine bodyPost_ret (v:=.tuple #[entV ⟨nm,nd,dr,ck,sh⟩,.int .i64 0]) ?_ rfl ⟨by rw[HG.out];rfl,by rw[HA.out];exact wk_five HB.out (Nat.le_succ _)⟩
      rw[results_cell_tmp rfl]
      unfold entV
      go_simp
end Go.Proofs.YtfioknaadbgjlaaGreatDoor
