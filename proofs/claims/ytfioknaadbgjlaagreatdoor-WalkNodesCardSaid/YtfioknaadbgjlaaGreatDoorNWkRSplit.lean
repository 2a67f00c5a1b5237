/- Kit. -/
import Derived.Test.YtfioknaadbgjlaaGreatDoorNWkStr
import Derived.PlainAid
import Derived.Handy
import Derived.Laws.IdiomStrings
set_option maxRecDepth 100000
set_option linter.unusedVariables false
set_option linter.unusedSimpArgs false
namespace Go.Proofs.YtfioknaadbgjlaaGreatDoor
open Go.RowKit Go.Sort
def SplitPost (p:List UInt8)(w:World)(e:Ending)(w':World):Prop:=
  ∃v,e=.returned (.tuple #[v,.int .i64 (splitI p).2])∧TxtsIs w' v ((splitI p).1.map mkS)∧CapOk v∧Below w.heap.size w w'
def PartTo (P:List UInt8)(f i:Nat)(done:List (List UInt8)):Prop:=splitB (P.drop 1)=done++frontB ((P.drop f).take (i-f)) (splitB (P.drop i))∧f≤i
theorem part_take {P:List UInt8}{f i:Nat}{c:UInt8}(hf:f≤i)(hc:P[i]?=some c):(P.drop f).take (i+1-f)=(P.drop f).take (i-f)++[c]:=by
  have e:i+1-f=(i-f)+1:=by omega
  rw[e,List.take_add_one,List.getElem?_drop,show f+(i-f)=i by omega,hc]
  rfl
theorem PartTo.char {P:List UInt8}{f i:Nat}{done:List (List UInt8)}{c:UInt8}(h:PartTo P f i done)(hc:P[i]?=some c)(hne:c≠47):PartTo P f (i+1) done:=by
  obtain⟨h1,h2⟩:=h
  refine⟨?_,by omega⟩
  rw[h1,drop_eq_cons hc,splitB_char hne,frontB_front,part_take h2 hc]
theorem PartTo.sl {P:List UInt8}{f i:Nat}{done:List (List UInt8)}(h:PartTo P f i done)(hc:P[i]?=some 47):PartTo P (i+1) (i+1) (done++[(P.drop f).take (i-f)]):=by
  obtain⟨h1,h2⟩:=h
  refine⟨?_,Nat.le_refl _⟩
  rw[h1,drop_eq_cons hc,splitB_sl,Nat.sub_self,List.take_zero,frontB_nil _ (splitB_ne _),List.append_assoc]
  simp[frontB]
theorem PartTo.all {P:List UInt8}{f:Nat}{done:List (List UInt8)}(h:PartTo P f P.length done):splitB (P.drop 1)=done++[(P.drop f).take (P.length-f)]:=by
  rw[h.1,List.drop_length]
  simp[splitB,frontB]
theorem bt_at (b:ByteArray){i:Nat}(h:i<b.size):∃c:UInt8,b.data.toList[i]?=some c∧Go.PlainAid.bt b i=(c.toNat:Int):=by
  refine⟨b[i],?_,by unfold Go.PlainAid.bt;rw[dif_pos h]⟩
  have hl:i<b.data.toList.length:=by simpa using h
  rw[List.getElem?_eq_getElem hl]
  rfl
theorem u8_47 {c:UInt8}:c=47↔(c.toNat:Int)=47:=by
  constructor
  · intro h;subst h;rfl
  · intro h
    apply UInt8.toNat_inj.1
    show c.toNat=47
    omega
theorem splitI_go {p t:List UInt8}(hp:p=47::t)(hl:¬1024<p.length)(ht:t≠[]):splitI p=if(splitB t).any badN=true then([],3) else if 16<(splitB t).length then([],4) else(splitB t,0):=by
  subst hp
  unfold splitI
  rw[if_neg hl]
  simp only
  rw[if_neg (by simp),if_neg ht]
set_option maxHeartbeats 4000000 in
theorem rsplit_c (b:ByteArray)(hs:b.size≤9223372036854775807)(w:World):Calls Tryz.prog 22 #[.string b] w (SplitPost b.data.toList w):=by
  unfold SplitPost
  have hbl:b.data.toList.length=b.size:=by simp
  have htl:b.toList=b.data.toList:=ByteArray.toList_eq b
  by_cases hbig:1024<b.size
  · have hz:(1024:Int)<(b.size:Int):=by omega
    rw[show splitI b.data.toList=([],4) by unfold splitI;rw[if_pos (by omega)]]
    clear hbig hbl htl
    go_enter Tryz.func22,Tryz.ntmps22
    go_wp2
    go_ret2
    exact⟨_,rfl,LstIs.nil _ _ _,CapOk.none,Below.refl _ _⟩
  · have hz:¬(1024:Int)<(b.size:Int):=by omega
    by_cases h0:b.toList=[]
    · have h00:b.data.toList=[]:=by rw[←htl];exact h0
      rw[h00,show splitI []=([],3) from rfl]
      clear hbig hbl htl h00
      go_enter Tryz.func22,Tryz.ntmps22
      go_wp2
      go_ret2
      exact⟨_,rfl,LstIs.nil _ _ _,CapOk.none,Below.refl _ _⟩
    · have hpos:0<b.size:=by
        rcases Nat.eq_zero_or_pos b.size with h|h
        · exact absurd (List.eq_nil_of_length_eq_zero (by rw[htl,hbl];exact h)) h0
        · exact h
      have hposz:(0:Int)<(b.size:Int):=by omega
      obtain⟨c,hc,hbt⟩:=bt_at b hpos
      have hB:=Go.PlainAid.get_bt b
      have hP:b.data.toList=c::b.data.toList.drop 1:=by
        have:=drop_eq_cons hc
        rwa[List.drop_zero]at this
      obtain⟨A,hA⟩:∃A:Int,Go.PlainAid.bt b 0=A:=⟨_,rfl⟩
      by_cases h47:A=47
      · have hc47:c=47:=u8_47.2 (by rw[←hbt,hA,h47])
        subst hc47
        subst h47
        by_cases h1:b.toList=[47]
        · have h11:b.data.toList=[47]:=by rw[←htl];exact h1
          rw[h11,show splitI [47]=([],0) from rfl]
          clear hbig hbl htl h11 hP hc hbt
          go_enter Tryz.func22,Tryz.ntmps22
          go_wp2
          go_ret2
          exact⟨_,rfl,LstIs.nil _ _ _,CapOk.none,Below.refl _ _⟩
        · have hd1:b.data.toList.drop 1≠[]:=fun h=>h1 (by rw[htl,hP,h])
          have hsp:=splitI_go hP (by omega) hd1
          obtain⟨P,hPP⟩:∃P,b.data.toList=P:=⟨_,rfl⟩
          obtain⟨N,hN⟩:∃N,b.size=N:=⟨_,rfl⟩
          have HX:Hid (∀f i,b.extract f i=mkS ((P.drop f).take (i-f))):=Lib.hid (fun f i=>by rw[←hPP];exact ext_part b f i)
          have HBT:Hid (∀i,i<N→∃c:UInt8,P[i]?=some c∧Go.PlainAid.bt b i=(c.toNat:Int)):=Lib.hid (fun i hi=>by rw[←hPP];exact bt_at b (by omega))
          have HLN:Hid (P.length=N):=Lib.hid (by rw[←hPP,hbl,hN])
          have HNN:=Lib.hid hN
          rw[hPP]at hsp ⊢
          have HSP:=Lib.hid hsp
          obtain⟨i0,hi0,hz0,hz1,hz2⟩:=info_parts infoStrW
          have hN1:N≤1024:=by omega
          have he0:b.toList.isEmpty=false:=by
            cases hq:b.toList with
            | nil=>exact absurd hq h0
            | cons x y=>rfl
          have he1:(b.toList==[47])=false:=beq_eq_false_iff_ne.2 h1
          clear hbig hbl htl hP hc hbt hd1 hsp hPP h0 h1
          go_enter Tryz.func22,Tryz.ntmps22
          go_wp2
          (try rw[hN])
          go_loopw [4,5,6] (fun lv fv iv wr=>∃(f i:Nat) (done:List (List UInt8)),iv=.int .i64 i∧fv=.int .i64 f∧1≤f∧f≤i∧i≤N+1∧done.length≤i∧(i≤N→PartTo P f i done)∧(i=N+1→splitB (P.drop 1)=done)∧(∃o,o=lv∧OwnW w.heap.size wr o (done.map mkS))∧Below w.heap.size w wr) (fun _ _ iv _=>N+1-(intOf iv).toNat)
          case atStart=>exact⟨1,1,[],rfl,rfl,by omega,by omega,by omega,by simp,fun _=>⟨by rw[Nat.sub_self,List.take_zero,frontB_nil _ (splitB_ne _)];rfl,by omega⟩,fun h=>by omega,⟨_,rfl,OwnW.nil _ _⟩,Below.refl _ _⟩
          case round =>
            obtain⟨f,i,done,rfl,rfl,hf1,hfi,hiN,hdl,hpt,hfin,⟨lv,rfl,hown⟩,hbel⟩:=hrel
            have HPT:=Lib.hid hpt
            have HFN:=Lib.hid hfin
            have HO:=Lib.hid hown
            have HBE:=Lib.hid hbel
            clear hpt hfin hown
            by_cases hin:i<N
            · have hiz:(i:Int)≤(N:Int):=by omega
              have hiz2:(i:Int)<(N:Int):=by omega
              have hin0:(0:Int)≤(i:Int):=by omega
              have hine:((i:Int)==(N:Int))=false:=beq_eq_false_iff_ne.2 (by omega)
              obtain⟨c,hc,hbc⟩:=HBT.out i hin
              obtain⟨Z,hZ⟩:∃Z:Int,Go.PlainAid.bt b i=Z:=⟨_,rfl⟩
              by_cases hz47:Z=47
              · have hc47:c=47:=u8_47.2 (by rw[←hbc,hZ,hz47])
                subst hc47
                subst hz47
                have HP2:Hid (PartTo P (i+1) (i+1) (done++[(P.drop f).take (i-f)])):=Lib.hid ((HPT.out (by omega)).sl hc)
                have hx:=HX.out f i
                have hfz:(f:Int)≤(i:Int):=by omega
                have hf0:(0:Int)≤(f:Int):=by omega
                generalize (P.drop f).take (i-f)=T at *
                have HO2:Hid (OwnW w.heap.size (wr.alloc (.cells #[.string (mkS T)] 9)) lv (done.map mkS)):=Lib.hid (HO.out.al _)
                have HBA:Hid (Below w.heap.size w (wr.alloc (.cells #[.string (mkS T)] 9))):=Lib.hid (hbel.alloc hbel.size _)
                obtain⟨m,hm⟩:∃m,done.length=m:=⟨_,rfl⟩
                have HM:Hid ((done.map mkS).length=m):=Lib.hid (by rw[List.length_map,hm])
                obtain⟨a2,c2,hv2⟩:=HO.out.txts.len
                rw[HM.out]at hv2
                subst hv2
                go_wp2_with (at_builtin;refine wpList_append_own _ rfl _ _ 40 rfl w.heap.size 9 i0 (.string ⟨#[]⟩) 1 16 Tryz.underlying40 hi0 hz0 hz1 hz2 rfl (by decide) _ _ _ rfl HO2.out ⟨wr.heap.size,0,none⟩ 1 1 (txC (mkS T)) rfl rfl ?c1 (txC_one _) ?c3 ?c4 ?c5 ?_)
                case c1 =>
                  intro j u hj
                  rw[Addr.add_mid,cell_of_row _ _ _ _ _ _ (heap_alloc_new _ _),Nat.zero_add,List.getElem?_toArray]
                  exact hj
                case c3=>rw[HM.out];unfold maxLen;omega
                case c4=>rw[HM.out];omega
                case c5=>have h1:=hbel.size;simp;omega
                intro v' w2 hown' hgrow _
                have HB2:Hid (Below w.heap.size w w2):=Lib.hid (HBA.out.grown hgrow (by have h1:=hbel.size;simp;omega) (fun j hj=>(HO2.out.lt j hj).1))
                have HO3:Hid (OwnW w.heap.size w2 v' ((done++[T]).map mkS)):=Lib.hid (by
                  unfold OwnW
                  rw[List.map_append,List.length_append,List.flatMap_append,HM.out]
                  exact hown')
                clear hown' hgrow
                go_wp2
                go_roundw
                case rel=>exact⟨i+1,i+1,done++[T],by first|rfl|go_num,by first|rfl|go_num,by omega,by omega,by omega,by simp;omega,fun _=>HP2.out,fun h=>by omega,⟨_,rfl,HO3.out⟩,HB2.out⟩
                case measure=>simp[intOf]<;>omega
              · have e1:(Z==47)=false:=beq_eq_false_iff_ne.2 hz47
                have HP2:Hid (PartTo P f (i+1) done):=Lib.hid ((HPT.out (by omega)).char hc (fun h=>hz47 (by rw[←hZ,hbc];exact u8_47.1 h)))
                go_wp2
                go_roundw
                case rel=>exact⟨f,i+1,done,by first|rfl|go_num,by first|rfl|go_num,by omega,by omega,by omega,by omega,fun _=>HP2.out,fun h=>by omega,⟨_,rfl,HO.out⟩,HBE.out⟩
                case measure=>simp[intOf]<;>omega
            · by_cases hiN2:i=N
              · subst hiN2
                have hiz:(i:Int)≤(i:Int):=Int.le_refl _
                have hin0:(0:Int)≤(i:Int):=by omega
                have hALL:Hid (splitB (P.drop 1)=done++[(P.drop f).take (i-f)]):=Lib.hid (by
                  have h:=HPT.out (Nat.le_refl _)
                  have h2:=HLN.out
                  rw[←h2]at h ⊢
                  exact h.all)
                have hx:=HX.out f i
                have hfz:(f:Int)≤(i:Int):=by omega
                have hf0:(0:Int)≤(f:Int):=by omega
                generalize (P.drop f).take (i-f)=T at *
                have HO2:Hid (OwnW w.heap.size (wr.alloc (.cells #[.string (mkS T)] 9)) lv (done.map mkS)):=Lib.hid (HO.out.al _)
                have HBA:Hid (Below w.heap.size w (wr.alloc (.cells #[.string (mkS T)] 9))):=Lib.hid (hbel.alloc hbel.size _)
                obtain⟨m,hm⟩:∃m,done.length=m:=⟨_,rfl⟩
                have HM:Hid ((done.map mkS).length=m):=Lib.hid (by rw[List.length_map,hm])
                obtain⟨a2,c2,hv2⟩:=HO.out.txts.len
                rw[HM.out]at hv2
                subst hv2
                go_wp2_with (at_builtin;refine wpList_append_own _ rfl _ _ 40 rfl w.heap.size 9 i0 (.string ⟨#[]⟩) 1 16 Tryz.underlying40 hi0 hz0 hz1 hz2 rfl (by decide) _ _ _ rfl HO2.out ⟨wr.heap.size,0,none⟩ 1 1 (txC (mkS T)) rfl rfl ?c1 (txC_one _) ?c3 ?c4 ?c5 ?_)
                case c1 =>
                  intro j u hj
                  rw[Addr.add_mid,cell_of_row _ _ _ _ _ _ (heap_alloc_new _ _),Nat.zero_add,List.getElem?_toArray]
                  exact hj
                case c3=>rw[HM.out];unfold maxLen;omega
                case c4=>rw[HM.out];omega
                case c5=>have h1:=hbel.size;simp;omega
                intro v' w2 hown' hgrow _
                have HB2:Hid (Below w.heap.size w w2):=Lib.hid (HBA.out.grown hgrow (by have h1:=hbel.size;simp;omega) (fun j hj=>(HO2.out.lt j hj).1))
                have HO3:Hid (OwnW w.heap.size w2 v' ((done++[T]).map mkS)):=Lib.hid (by
                  unfold OwnW
                  rw[List.map_append,List.length_append,List.flatMap_append,HM.out]
                  exact hown')
                clear hown' hgrow
                go_wp2
                go_roundw
                case rel=>exact⟨i+1,i+1,done++[T],by first|rfl|go_num,by first|rfl|go_num,by omega,by omega,by omega,by rw[List.length_append,List.length_singleton];omega,fun h=>by omega,fun _=>hALL.out,⟨_,rfl,HO3.out⟩,HB2.out⟩
                case measure=>simp[intOf]<;>omega
              · have hiz:¬(i:Int)≤(N:Int):=by omega
                have HF:Hid (splitB (P.drop 1)=done):=Lib.hid (HFN.out (by omega))
                have HSQ:Hid (splitI P=if done.any badN=true then([],3) else if 16<done.length then([],4) else(done,0)):=Lib.hid (by rw[HSP.out,HF.out])
                obtain⟨m,hm⟩:∃m,done.length=m:=⟨_,rfl⟩
                have HML:Hid (done.length=m):=Lib.hid hm
                have HM:Hid ((done.map mkS).length=m):=Lib.hid (by rw[List.length_map,hm])
                obtain⟨a2,c2,hv2⟩:=HO.out.txts.len
                rw[HM.out]at hv2
                subst hv2
                have HCP:=Lib.hid HO.out.cap
                go_wp2
                go_loopw [7] (fun iv wr2=>∃k:Nat,iv=.int .i64 k∧k≤m∧(done.take k).any badN=false∧Below wr.heap.size wr wr2) (fun iv _=>m-(intOf iv).toNat)
                case atStart=>exact⟨0,rfl,by omega,rfl,Below.refl _ _⟩
                case round =>
                  obtain⟨k,rfl,hkm,hany,hbel2⟩:=hrel
                  have HAN:=Lib.hid hany
                  clear hany
                  have HTX:=Lib.hid (LstIs.kept HO.out.txts hbel2)
                  have HB3:Hid (Below w.heap.size w _):=Lib.hid (HBE.out.trans (hbel2.mono hbel.size))
                  by_cases hk:k<m
                  · have hkz:(k:Int)<(m:Int):=by omega
                    have hk0:(0:Int)≤(k:Int):=by omega
                    obtain⟨x,hx⟩:∃x,done[k]?=some x:=⟨_,List.getElem?_eq_getElem (by rw[HML.out];omega)⟩
                    obtain⟨g,off,rfl,hg,hcell⟩:=txt_at HTX.out (j:=k) (s:=mkS x) (by rw[List.getElem?_map,hx];rfl)
                    have HXX:=Lib.hid hx
                    have HBN:Hid (badN x=false→(done.take (k+1)).any badN=false):=Lib.hid (fun h=>by rw[take_snoc HXX.out,List.any_append,HAN.out];simp[h])
                    have HBT2:Hid (badN x=true→splitI P=([],3)):=Lib.hid (fun h=>by
                      have h2:done.any badN=true:=List.any_eq_true.2 ⟨x,List.mem_of_getElem? HXX.out,h⟩
                      rw[HSQ.out,if_pos h2])
                    have hs0:(mkS x).toList.isEmpty=decide (x=[]):=by rw[ByteArray.toList_eq,mkS_list];cases x<;>simp
                    have hs1:((mkS x).toList==[46])=decide (x=[46]):=by rw[ByteArray.toList_eq,mkS_list,Bool.eq_iff_iff,beq_iff_eq,decide_eq_true_iff]
                    have hs2:((mkS x).toList==[46,46])=decide (x=[46,46]):=by rw[ByteArray.toList_eq,mkS_list,Bool.eq_iff_iff,beq_iff_eq,decide_eq_true_iff]
                    have HBX:Hid (badN x=(decide (x=[])||decide (x=[46])||decide (x=[46,46]))):=Lib.hid rfl
                    generalize decide (x=[])=t0 at *
                    generalize decide (x=[46])=t1 at *
                    generalize decide (x=[46,46])=t2 at *
                    generalize mkS x=S at *
                    cases t0 with
                    | true =>
                      have HE:Hid (splitI P=([],3)):=Lib.hid (HBT2.out (by rw[HBX.out];rfl))
                      go_wp2
                      go_ret2
                      exact⟨_,by rw[HE.out];rfl,by rw[HE.out];exact LstIs.nil _ _ _,CapOk.none,HB3.out⟩
                    | false =>
                      cases t1 with
                      | true =>
                        have HE:Hid (splitI P=([],3)):=Lib.hid (HBT2.out (by rw[HBX.out];rfl))
                        go_wp2
                        go_ret2
                        exact⟨_,by rw[HE.out];rfl,by rw[HE.out];exact LstIs.nil _ _ _,CapOk.none,HB3.out⟩
                      | false =>
                        cases t2 with
                        | true =>
                          have HE:Hid (splitI P=([],3)):=Lib.hid (HBT2.out (by rw[HBX.out];rfl))
                          go_wp2
                          go_ret2
                          exact⟨_,by rw[HE.out];rfl,by rw[HE.out];exact LstIs.nil _ _ _,CapOk.none,HB3.out⟩
                        | false =>
                          have HG:Hid ((done.take (k+1)).any badN=false):=Lib.hid (HBN.out (by rw[HBX.out];rfl))
                          go_wp2
                          go_roundw
                          case rel=>exact⟨k+1,by first|rfl|go_num,by omega,HG.out,hbel2⟩
                          case measure=>simp[intOf]<;>omega
                  · have hkz:¬(k:Int)<(m:Int):=by omega
                    have HNB:Hid (done.any badN=false):=Lib.hid (by
                      have h:=HAN.out
                      rwa[List.take_of_length_le (by rw[HML.out];omega)]at h)
                    by_cases h16:16<m
                    · have h16z:(16:Int)<(m:Int):=by omega
                      have HE:Hid (splitI P=([],4)):=Lib.hid (by rw[HSQ.out,HNB.out,if_neg (by decide),if_pos (by rw[HML.out];exact h16)])
                      go_wp2
                      go_ret2
                      exact⟨_,by rw[HE.out];rfl,by rw[HE.out];exact LstIs.nil _ _ _,CapOk.none,HB3.out⟩
                    · have h16z:¬(16:Int)<(m:Int):=by omega
                      have HE:Hid (splitI P=(done,0)):=Lib.hid (by rw[HSQ.out,HNB.out,if_neg (by decide),if_neg (by rw[HML.out];exact h16)])
                      go_wp2
                      go_ret2
                      exact⟨_,by rw[HE.out];rfl,by rw[HE.out];exact HTX.out,⟨_,_,_,rfl,HCP.out⟩,HB3.out⟩
      · have hA0:(A !=47)=true:=bne_iff_ne.2 h47
        rw[show splitI b.data.toList=([],3) by
          rw[hP]
          unfold splitI
          rw[←hP,if_neg (by omega),hP]
          simp only
          rw[if_pos (fun h=>h47 (by rw[←hA,hbt,u8_47.1 h]))]]
        clear hbig hbl htl hP hc hbt
        go_enter Tryz.func22,Tryz.ntmps22
        go_wp2
        go_ret2
        exact⟨_,rfl,LstIs.nil _ _ _,CapOk.none,Below.refl _ _⟩
end Go.Proofs.YtfioknaadbgjlaaGreatDoor
