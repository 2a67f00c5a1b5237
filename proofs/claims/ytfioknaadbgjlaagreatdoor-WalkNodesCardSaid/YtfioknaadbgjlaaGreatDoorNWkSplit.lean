/- Kit. -/
import Derived.Test.YtfioknaadbgjlaaGreatDoorNWkLawA
import Derived.Test.YtfioknaadbgjlaaGreatDoorNShelf
import Derived.Lib.SplitLaws
set_option maxRecDepth 100000
set_option linter.unusedVariables false
set_option linter.unusedSimpArgs false
namespace Go.Proofs.YtfioknaadbgjlaaGreatDoor
open Go.RowKit Go.Sort
theorem splitK_char {c:UInt8}(h:c≠47)(t:List UInt8)(k:Nat):Lib.splitK [47] 0 k (c::t)=frontB [c] (Lib.splitK [47] 0 k t):=by
  cases k with
  | zero=>rfl
  | succ k =>
    have hp:([47]:List UInt8).isPrefixOf (c::t)=false:=by simp[List.isPrefixOf,Ne.symm h]
    have hix:Lib.index (c::t) [47]=if Lib.index t [47]==-1 then -1 else Lib.index t [47]+1:=by rw[Lib.index,hp];simp
    unfold Lib.splitK
    by_cases hm:Lib.index t [47]=-1
    · have h2:Lib.index (c::t) [47]=-1:=by rw[hix,if_pos (beq_iff_eq.2 hm)]
      rw[if_pos (beq_iff_eq.2 h2),if_pos (beq_iff_eq.2 hm)]
      rfl
    · have hge:=Lib.index_ge t [47]
      obtain⟨j,hj⟩:∃j:Nat,Lib.index t [47]=j:=⟨(Lib.index t [47]).toNat,by omega⟩
      have hix':Lib.index (c::t) [47]=((j+1:Nat):Int):=by rw[hix,if_neg (fun e=>hm (beq_iff_eq.1 e)),hj];omega
      rw[if_neg (fun e=>hm (beq_iff_eq.1 e)),if_neg (fun e=>by have:=beq_iff_eq.1 e;omega),hix',hj]
      simp only[Int.toNat_natCast,Nat.add_zero,List.length_cons,List.length_nil,List.take_succ_cons]
      rw[show j+1+(0+1)=(j+(0+1))+1 by omega,List.drop_succ_cons]
      rfl
theorem splitK_all:∀t:List UInt8,Lib.splitK [47] 0 (t.count 47) t=splitB t
  | []=>rfl
  | c::t=>by
    by_cases h:c=47
    · subst h
      rw[List.count_cons_self,splitB_sl]
      have hix:Lib.index ((47:UInt8)::t) [47]=((0:Nat):Int):=by rw[Lib.index];simp[List.isPrefixOf]
      unfold Lib.splitK
      rw[if_neg (fun e=>by have:=beq_iff_eq.1 e;omega),hix]
      simp only[Int.toNat_natCast,Nat.add_zero,List.length_cons,List.length_nil,List.take_zero,Nat.zero_add,List.drop_succ_cons,List.drop_zero]
      rw[splitK_all t]
    · rw[List.count_cons_of_ne (by simpa using h),splitK_char h,splitK_all t,splitB_char h]
theorem countB_47 (s:ByteArray):Lib.countB s ⟨#[47]⟩=s.data.toList.count 47:=Lib.count_one 47 s.data.toList
theorem splitB_47 (s:ByteArray):Lib.splitB ⟨#[47]⟩ 0 (s.data.toList.count 47) s=(splitB s.data.toList).map mkS:=by
  have h:=Lib.splitB_data ⟨#[47]⟩ 0 (s.data.toList.count 47) s
  rw[show(⟨#[47]⟩:ByteArray).data.toList=[47] from rfl,splitK_all]at h
  rw[←h,List.map_map]
  conv=>lhs;rw[←List.map_id (Lib.splitB _ _ _ _)]
  rfl
theorem splitB_len (t:List UInt8):(splitB t).length=t.count 47+1:=by
  have h:=Lib.splitB_all ⟨#[47]⟩ (by decide) 0 (t.count 47) (mkS t) (countB_47 (mkS t))
  have h2:=splitB_47 (mkS t)
  rw[mkS_list]at h2
  rw[h2,List.length_map]at h
  exact h
theorem gen_c (s:ByteArray)(hs:s.size<4294967281)(w:World):Calls Tryz.prog 62 #[.string s,.string ⟨#[47]⟩,.int .i64 0,.int .i64 (-1)] w fun e w' =>
    e=.returned (.slice (some ⟨w.heap.size,0,none⟩) (splitB s.data.toList).length (splitB s.data.toList).length)∧w'=w.alloc (.cells (((splitB s.data.toList).map mkS).map Value.string).toArray 9):=by
  have hN:(((splitB s.data.toList).length:Nat):Int)=min (if(-1:Int)<0 then(Lib.countB s ⟨#[47]⟩:Int)+1 else -1) ((s.size:Int)+1):=by
    rw[if_pos (by decide),countB_47,splitB_len]
    have hle:s.data.toList.count 47≤s.size:=by
      have:=List.count_le_length (a:=(47:UInt8)) (l:=s.data.toList)
      rw[Array.length_toList]at this
      exact this
    omega
  have c:=Any.strings_genSplit_core Tryz.lays221 (by kernel_rfl) s ⟨#[47]⟩ 0 (-1) (splitB s.data.toList).length w hs (by decide) (by decide)
    (fun x c _=>by
      have h:=Tryz.strings_Index_one x 47 (w.alloc (.cells c 9))
      rw[←Lib.index_one]at h
      exact h)
    (by
      have h:=Tryz.strings_Count_one s 47 w
      rw[show Lib.countByte s.data.toList 47=Lib.countB s ⟨#[47]⟩ from(countB_47 s).symm]at h
      exact h)
    (by decide) (by decide) hN
  rw[splitB_len,Nat.add_sub_cancel,splitB_47]at c
  rw[splitB_len]
  refine c.mono ?_
  rintro e w' ⟨rfl,rfl⟩
  refine⟨?_,?_⟩
  · rw[List.length_map,splitB_len]
  · rw[show Lib.cellsOf ((splitB s.data.toList).map mkS) (s.data.toList.count 47+1)=(((splitB s.data.toList).map mkS).map Value.string).toArray by
      have h:=Lib.cellsOf_full ((splitB s.data.toList).map mkS)
      rw[List.length_map,splitB_len]at h
      exact h]
    rfl
set_option maxHeartbeats 1000000 in
theorem wkCut_c (s:ByteArray)(hs:s.size<4294967281)(w:World):Calls Tryz.prog 34 #[.string s,.string ⟨#[47]⟩] w fun e w' =>
    ∃m:Nat,e=.returned (.slice (some ⟨w.heap.size,0,none⟩) m m)∧m=(splitB s.data.toList).length∧TxtsIs w' (.slice (some ⟨w.heap.size,0,none⟩) m m) ((splitB s.data.toList).map mkS)∧Below w.heap.size w w':=by
  have c:=gen_c s hs w
  go_enter Tryz.func34,Tryz.ntmps34
  go_wp2_with fail
  refine c.mono ?_
  rintro e w1 ⟨rfl,rfl⟩
  go_wp2
  go_ret
  refine⟨_,rfl,rfl,?_,(Below.refl _ _).alloc (Nat.le_refl _) _⟩
  refine Or.inr ⟨w.heap.size,0,_,by simp,by rw[List.length_map],fun j x hj k u hu=>?_⟩
  have hk:k=0:=by
    have h:=(List.getElem?_eq_some_iff.1 hu).1
    simpa[txC]using h
  subst hk
  have hux:Value.string x=u:=by simpa[txC]using hu
  rw[cell_of_row _ _ _ _ _ _ (heap_alloc_new _ _),List.getElem?_toArray,←hux,Nat.zero_add,Nat.mul_one,Nat.add_zero]
  have h2:=congrArg (Option.map Value.string) hj
  rw[List.getElem?_map,Option.map_map]at h2
  rw[List.getElem?_map]
  exact h2
set_option maxHeartbeats 1000000 in
theorem wkClone_c (s:ByteArray)(hs:s.size≤281474976710656)(w:World):Calls Tryz.prog 35 #[.string s] w fun e w'=>e=.returned (.string s)∧Below w.heap.size w w':=by
  by_cases h0:s.toList=[]
  · have hz:s=⟨#[]⟩:=by
      have h1:s.data.toList=[]:=by rw[←ByteArray.toList_eq];exact h0
      rw[←mkS_of s,h1];rfl
    subst hz
    clear h0
    go_enter Tryz.func35,Tryz.ntmps35
    go_wp2
    go_ret
    exact⟨rfl,Below.refl _ _⟩
  · have c:=Tryz.stringslite_Clone s w hs
    have hp:s.size≠0:=fun h=>h0 (List.eq_nil_of_length_eq_zero (by rw[ByteArray.toList_eq,Array.length_toList];exact h))
    have he:((s.size:Int)==0)=false:=beq_eq_false_iff_ne.2 (by omega)
    clear h0 hp
    go_enter Tryz.func35,Tryz.ntmps35
    go_wp2_with fail
    refine c.mono ?_
    rintro e w1 ⟨rfl,hb⟩
    go_wp2
    go_ret
    exact⟨rfl,hb⟩
theorem cut_47 (s:ByteArray)(w:World):Calls Tryz.prog 33 #[.string s,.string ⟨#[47]⟩] w fun e w'=>e=.returned (.tuple #[.string ⟨(Lib.trimPrefix s.data.toList [47]).toArray⟩,.bool (Lib.hasPrefix s.data.toList [47])])∧w'=w:=Tryz.strings_CutPrefix s ⟨#[47]⟩ w
theorem has_47 (c:UInt8)(t:List UInt8):Lib.hasPrefix (c::t) [47]=decide (c=47):=by
  by_cases h:c=47
  · subst h;simp[Lib.hasPrefix,List.isPrefixOf]
  · rw[decide_eq_false h];simp[Lib.hasPrefix,List.isPrefixOf,Ne.symm h]
set_option maxHeartbeats 1000000 in
theorem mayBe_c (x:List UInt8)(w:World):Calls Tryz.prog 36 #[.string (mkS x)] w fun e w'=>e=.returned (.bool (!badN x))∧w'=w:=by
  have hs0:(mkS x).toList.isEmpty=decide (x=[]):=by rw[ByteArray.toList_eq,mkS_list];cases x<;>simp
  have hs1:((mkS x).toList==[46])=decide (x=[46]):=by rw[ByteArray.toList_eq,mkS_list,Bool.eq_iff_iff,beq_iff_eq,decide_eq_true_iff]
  have hs2:((mkS x).toList==[46,46])=decide (x=[46,46]):=by rw[ByteArray.toList_eq,mkS_list,Bool.eq_iff_iff,beq_iff_eq,decide_eq_true_iff]
  have hr:badN x=(decide (x=[])||decide (x=[46])||decide (x=[46,46])):=rfl
  rw[hr]
  clear hr
  generalize decide (x=[])=t0 at *
  generalize decide (x=[46])=t1 at *
  generalize decide (x=[46,46])=t2 at *
  generalize mkS x=S at *
  cases t0<;>cases t1<;>cases t2
  all_goals
    go_enter Tryz.func36,Tryz.ntmps36
    go_wp2
    go_ret
    exact⟨by first|rfl|simp_all,rfl⟩
def SplitD:Prop:=∀(b:ByteArray) (w:World),b.size≤9223372036854775807→Calls Tryz.prog 15 #[.string b] w fun e w'=>∃v,e=.returned (.tuple #[v,.int .i64 (splitI b.data.toList).2])∧TxtsIs w' v ((splitI b.data.toList).1.map mkS)∧CapOk v∧Below w.heap.size w w'
set_option maxHeartbeats 4000000 in
theorem split_d:SplitD:=by
  intro b w hs
  have hbl:b.data.toList.length=b.size:=by simp
  have htl:b.toList=b.data.toList:=ByteArray.toList_eq b
  by_cases hbig:1024<b.size
  · have hz:(1024:Int)<(b.size:Int):=by omega
    rw[show splitI b.data.toList=([],4) by unfold splitI;rw[if_pos (by omega)]]
    clear hbig hbl htl
    go_enter Tryz.func15,Tryz.ntmps15
    go_wp2
    go_ret2
    exact⟨_,rfl,LstIs.nil _ _ _,CapOk.none,Below.refl _ _⟩
  · have hz:¬(1024:Int)<(b.size:Int):=by omega
    by_cases h1:b.toList=[47]
    · have h11:b.data.toList=[47]:=by rw[←htl];exact h1
      rw[h11,show splitI [47]=([],0) from rfl]
      have he1:(b.toList==[47])=true:=beq_iff_eq.2 h1
      clear hbig hbl htl h11 h1
      go_enter Tryz.func15,Tryz.ntmps15
      go_wp2
      go_ret2
      exact⟨_,rfl,LstIs.nil _ _ _,CapOk.none,Below.refl _ _⟩
    · have he1:(b.toList==[47])=false:=beq_eq_false_iff_ne.2 h1
      have cC:=cut_47 b w
      by_cases hh:∃t,b.data.toList=47::t
      · obtain⟨t,ht⟩:=hh
        have htr:(⟨(Lib.trimPrefix b.data.toList [47]).toArray⟩:ByteArray)=mkS t:=by
          rw[ht];unfold Lib.trimPrefix;rw[if_pos (by rw[has_47];rfl)];rfl
        have hhp:Lib.hasPrefix b.data.toList [47]=true:=by rw[ht,has_47];rfl
        rw[htr,hhp]at cC
        have htne:t≠[]:=fun h=>h1 (by rw[htl,ht,h])
        have hlt:t.length≤1024:=by
          rw[ht,List.length_cons]at hbl
          omega
        have hms:(mkS t).size=t.length:=by show t.toArray.size=_;rw[List.size_toArray]
        have HSP:=Lib.hid (splitI_go ht (by omega) htne)
        obtain⟨names,hnm⟩:∃l,splitB t=l:=⟨_,rfl⟩
        rw[hnm]at HSP
        obtain⟨P,hP⟩:∃P,b.data.toList=P:=⟨_,rfl⟩
        rw[hP]at HSP ⊢
        have hcl:names.length≤1025:=by
          have h:=splitB_len t
          have h2:=List.count_le_length (a:=(47:UInt8)) (l:=t)
          rw[hnm]at h
          omega
        have HK:=Lib.hid (fun w1=>wkClone_c (mkS t) (by omega) w1)
        have HG:=Lib.hid (fun w1=>wkCut_c (mkS t) (by omega) w1)
        rw[mkS_list,hnm]at HG
        clear hbig hbl htl h1 ht htr hhp htne hlt hms hnm hP
        go_enter Tryz.func15,Tryz.ntmps15
        go_wp2_with fail
        refine cC.mono ?_
        rintro e w1 ⟨rfl,rfl⟩
        clear cC
        go_wp2_with fail
        refine(HK.out w1).mono ?_
        rintro e w2 ⟨rfl,hb2⟩
        go_wp2_with fail
        refine(HG.out w2).mono ?_
        rintro e w3 ⟨m,rfl,hm,hT,hb3⟩
        have HB3:Hid (Below w1.heap.size w1 w3):=Lib.hid (hb2.trans (hb3.mono hb2.size))
        have HM:=Lib.hid hm
        have HT:=Lib.hid hT
        rw[←hm]at hcl
        generalize (⟨w2.heap.size,0,none⟩:Addr)=ad at *
        clear hm hT hb2 hb3
        go_wp2
        go_loopw [26] (fun iv wr=>∃i:Nat,iv=.int .i64 i∧i≤m∧(names.take i).any badN=false∧wr=w3) (fun iv _=>m-(intOf iv).toNat)
        case atStart=>exact⟨0,rfl,by omega,rfl,rfl⟩
        case round =>
          obtain⟨i,rfl,him,hany,rfl⟩:=hrel
          have HAN:=Lib.hid hany
          clear hany
          by_cases hk:i<m
          · have hkz:(i:Int)<(m:Int):=by omega
            have hk0:(0:Int)≤(i:Int):=by omega
            obtain⟨x,hx⟩:∃x,names[i]?=some x:=⟨_,List.getElem?_eq_getElem (by rw[←HM.out];omega)⟩
            have HX:=Lib.hid hx
            obtain⟨g,off,hga,hg,hcell⟩:=txt_at HT.out (j:=i) (s:=mkS x) (by rw[List.getElem?_map,hx];rfl)
            injection hga with hga
            subst hga
            have cB:=mayBe_c x wr
            clear hx
            go_wp2_with fail
            refine cB.mono ?_
            rintro e w4 ⟨rfl,rfl⟩
            clear cB
            cases hbx:badN x with
            | true =>
              have HE:Hid (splitI P=([],3)):=Lib.hid (by
                have h2:names.any badN=true:=List.any_eq_true.2 ⟨x,List.mem_of_getElem? HX.out,hbx⟩
                rw[HSP.out,if_pos h2])
              go_wp2
              go_ret2
              exact⟨_,by rw[HE.out];rfl,by rw[HE.out];exact LstIs.nil _ _ _,CapOk.none,HB3.out⟩
            | false =>
              have HN:Hid ((names.take (i+1)).any badN=false):=Lib.hid (by rw[take_snoc HX.out,List.any_append,HAN.out];simp[hbx])
              go_wp2
              go_roundw
              case rel=>exact⟨i+1,by first|rfl|go_num,by omega,HN.out,by first|trivial|rfl⟩
              case measure=>simp[intOf]<;>omega
          · have hkz:¬(i:Int)<(m:Int):=by omega
            have HNB:Hid (names.any badN=false):=Lib.hid (by
              have h:=HAN.out
              rwa[List.take_of_length_le (by rw[←HM.out];omega)]at h)
            by_cases h16:16<m
            · have h16z:(16:Int)<(m:Int):=by omega
              have HE:Hid (splitI P=([],4)):=Lib.hid (by rw[HSP.out,HNB.out,if_neg (by decide),if_pos (by rw[←HM.out];exact h16)])
              go_wp2
              go_ret2
              exact⟨_,by rw[HE.out];rfl,by rw[HE.out];exact LstIs.nil _ _ _,CapOk.none,HB3.out⟩
            · have h16z:¬(16:Int)<(m:Int):=by omega
              have HE:Hid (splitI P=(names,0)):=Lib.hid (by rw[HSP.out,HNB.out,if_neg (by decide),if_neg (by rw[←HM.out];exact h16)])
              go_wp2
              go_ret2
              exact⟨_,by rw[HE.out];rfl,by rw[HE.out];exact HT.out,⟨_,_,_,rfl,Nat.le_refl _⟩,HB3.out⟩
      · have hhp:Lib.hasPrefix b.data.toList [47]=false:=by
          cases hq:b.data.toList with
          | nil=>rfl
          | cons c t =>
            rw[has_47]
            exact decide_eq_false (fun h=>hh ⟨t,by rw[hq,h]⟩)
        rw[hhp]at cC
        have hE:splitI b.data.toList=([],3):=by
          unfold splitI
          rw[if_neg (by omega)]
          cases hq:b.data.toList with
          | nil=>rfl
          | cons c t =>
            simp only
            rw[if_pos (fun h=>hh ⟨t,by rw[hq,h]⟩)]
        rw[hE]
        clear hbig hbl htl h1 hh hhp hE
        go_enter Tryz.func15,Tryz.ntmps15
        go_wp2_with fail
        refine cC.mono ?_
        rintro e w1 ⟨rfl,rfl⟩
        go_wp2
        go_ret2
        exact⟨_,rfl,LstIs.nil _ _ _,CapOk.none,Below.refl _ _⟩
theorem split_c:SplitC fun _=>True:=fun b w hs _=>(split_d b w hs).mono fun e w' ⟨v,h1,h2,_,h4⟩=>⟨v,h1,h2,h4⟩
end Go.Proofs.YtfioknaadbgjlaaGreatDoor
