/- Kit. -/
import Derived.Test.YtfioknaadbgjlaaGreatDoorNK9
import Derived.Test.YtfioknaadbgjlaaGreatDoorNK5
import Derived.Test.YtfioknaadbgjlaaGreatDoorNK8
import Derived.Test.YtfioknaadbgjlaaGreatDoorNK7
import Derived.Deep.LoopGhost
import Derived.Deep.CutRange
import Derived.Deep.RegionHeld3
set_option maxRecDepth 100000
set_option linter.unusedVariables false
set_option linter.unusedSimpArgs false
namespace Go.Proofs.YtfioknaadbgjlaaGreatDoor.F
open Go.RowKit Go.Sort
theorem keepS_drew {wc w':World}{v:Value}{op:List Int}(h:Below wc.heap.size wc w'∧SliceIs w' v op):Below wc.heap.size wc w'.drew∧SliceIs w'.drew v op:=⟨h.1.drew,h.2.kept ((Below.refl _ _).drew)⟩
theorem keepS_step {wc w' w'':World}{v:Value}{op:List Int}(h:Below wc.heap.size wc w'∧SliceIs w' v op)(hb:Below w'.heap.size w' w''):Below wc.heap.size wc w''∧SliceIs w'' v op:=⟨below_step h.1 hb,h.2.kept hb⟩
def PresRel (enc:Int)(good:Bool)(b:ByteArray)(w0:World)(total:List UInt8)(gk:Nat)(sv ov kv:Value)(wr:World):Prop:=
  ∃(k:Nat) (op:List Int) (s:ByteArray),k+gk=b.size∧sv=.string s∧kv=.int .i64 k∧op.length≤k∧(∀x∈op,0≤x∧x≤1114111)∧s.data.toList++presN enc good (b.data.toList.drop k) op=total∧OwnI w0.heap.size wr ov op∧Below w0.heap.size w0 wr
set_option maxHeartbeats 4000000 in
theorem refPres_plain (enc:Int)(h0:0≤enc)(h7:enc≤7)(b:ByteArray)(hs:b.size≤300)(w:World) :
    Calls Tryz.prog 123 #[.int .i64 enc,.string b] w fun e w'=>(∃s:ByteArray,e=.returned (.string s)∧s.data.toList=presL enc b.data.toList)∧Below w.heap.size w w':=by
  obtain⟨i0,hi0,hz0,hz1,hz2⟩:=info_parts infoInt32
  have hsz:b.data.toList.length=b.size:=by simp
  have HZ:=Lib.hid hsz
  have he8:(enc==8)=false:=by rw[beq_eq_false_iff_ne];omega
  have he8':(enc !=8)=true:=by rw[bne_iff_ne];omega
  have HPL:Hid (presL enc b.data.toList=presN enc true (b.data.toList.drop 0) []):=Lib.hid (by
    rw[presL_N,show(decide (enc≠8)||regL b.data.toList)=true by rw[decide_eq_true (by omega)];rfl,List.drop_zero])
  have HTL:Hid ((presL enc b.data.toList).length≤1200):=Lib.hid (by have:=presL_len h0 b.data.toList;omega)
  have HD8:Hid (decide (enc=8)=false):=Lib.hid (decide_eq_false (by omega))
  clear hsz
  generalize presL enc b.data.toList=total at *
  go_enter Tryz.func123,Tryz.ntmps123
  go_wp2
  go_loopg [6,7,8] b.size (fun gk sv ov kv wr=>PresRel enc true b w total gk sv ov kv wr)
  case atStart=>exact⟨0,[],⟨#[]⟩,by omega,rfl,rfl,by simp,(fun x hx=>by cases hx),(by rw[HPL.out];rfl),OwnI.nil _ _,Below.refl _ _⟩
  case round =>
    obtain⟨k,op,s,hkg,rfl,rfl,hol,hof,htot,hown,hbel⟩:=hrel
    have HT:=Lib.hid htot
    have HO:=Lib.hid hown
    have HF:=Lib.hid hof
    have hsl:s.size≤1200:=by
      have h1:=congrArg List.length htot
      have h2:=HTL.out
      have h3:=len_list s
      rw[List.length_append]at h1
      omega
    obtain⟨a,cap,hva⟩:=(SliceIs.own hown).len
    subst hva
    clear htot hown hof
    by_cases hlt:k<b.size
    · have hltz:(k:Int)<(b.size:Int):=by omega
      have hne:b.data.toList.drop k≠[]:=by
        intro h
        have:=congrArg List.length h
        rw[List.length_drop,HZ.out,List.length_nil]at this
        omega
      have hst:=presN_step h0 true hne op
      have hrg:=pieceL_range h0 hne
      rw[List.length_drop,HZ.out]at hrg hst
      have cN:=r2next_c enc h0 (by omega) b k hlt (by omega) wr
      rw[pieceI_L hlt]at cN
      have hex:=ext_list b k (pieceL enc (b.data.toList.drop k)).2
      generalize (pieceL enc (b.data.toList.drop k)).1=R at *
      generalize (pieceL enc (b.data.toList.drop k)).2=K at *
      rw[HD8.out,hide_plain]at hst
      have hw0:IntKind.i64.wrap ((k:Int)+(K:Int))=(k:Int)+(K:Int):=by rw[IntKind.wrap_i64];omega
      have hwR:IntKind.i32.wrap R=R:=by rw[IntKind.wrap_i32];omega
      have z0:(0:Int)≤(k:Int):=by omega
      have z1:(0:Int)≤(k:Int)+(K:Int):=by omega
      have z2:(k:Int)≤(k:Int)+(K:Int):=by omega
      have z3:(k:Int)+(K:Int)≤(b.size:Int):=by omega
      have z4:((k:Int)+(K:Int)).toNat=k+K:=by omega
      have z5:((k:Int)).toNat=k:=by omega
      obtain⟨LAST,hLAST⟩:∃L:Bool,decide (b.size-k=K)=L:=⟨_,rfl⟩
      have hlast:(((k:Int)+(K:Int))==(b.size:Int))=LAST:=by
        rw[←hLAST]
        by_cases e:b.size-k=K
        · rw[decide_eq_true e,beq_iff_eq];omega
        · rw[decide_eq_false e,beq_eq_false_iff_ne];omega
      rw[hLAST]at hst
      obtain⟨H,hH⟩:∃H,hidI R LAST=H:=⟨_,rfl⟩
      rw[hH]at hst
      have HST:=Lib.hid hst
      have HR0:Hid (H=false→0≤R):=Lib.hid (fun h=>by
        rw[←hH]at h
        unfold hidI at h
        by_cases h9:R<0
        · rw[decide_eq_true h9,Bool.true_or,Bool.or_true]at h;cases h
        · omega)
      have cRes:=refRes_c R
      have HRG:Hid (-1≤R∧R≤1114111∧1≤K):=Lib.hid ⟨hrg.1,hrg.2.1,hrg.2.2.1⟩
      have HEX:=Lib.hid hex
      have hKK:K≤300:=by omega
      clear hst hrg hLAST hne hex
      have HH:Hid (hidI R LAST=H):=Lib.hid hH
      clear hH
      go_upto_region 8 with(first|(go_at_call 159;refine cN.mono ?_;rintro e w1 ⟨rfl,hb1⟩))
      go_cut [12] from 19 to 103 (fun c wx=>c=.bool H∧wx=w1)
      case first =>
        clear hlast
        by_cases hR0:R<0
        · have hh:H=true:=by rw[←HH.out];unfold hidI;rw[decide_eq_true hR0,Bool.true_or,Bool.or_true]
          go_wp2_with (first|(go_at_call 160;refine(cRes _).mono ?_;rintro e w' ⟨rfl,hw'⟩;rw[hw']))
          go_meet
          exact⟨by rw[hh],rfl⟩
        · cases hres:reservedI R with
          | true =>
            have hh:H=true:=by rw[←HH.out];unfold hidI;rw[hres,Bool.or_true,Bool.or_true]
            rw[hres]at cRes
            clear hres
            go_wp2_with (first|(go_at_call 160;refine(cRes _).mono ?_;rintro e w' ⟨rfl,hw'⟩;rw[hw']))
            go_meet
            exact⟨by rw[hh],rfl⟩
          | false =>
            have hH1:hidI R LAST=(LAST&&decide (R=46∨R=32)):=by unfold hidI;rw[hres,decide_eq_false hR0,Bool.or_false,Bool.or_false]
            rw[hres]at cRes
            have HH1:Hid ((LAST&&decide (R=46∨R=32))=H):=Lib.hid (hH1.symm.trans HH.out)
            clear hres hH1 HH HST
            cases LAST with
            | false =>
              have hh:H=false:=HH1.out.symm
              clear HH1
              go_wp2_with (first|(go_at_call 160;refine(cRes _).mono ?_;rintro e w' ⟨rfl,hw'⟩;rw[hw']))
              go_meet
              exact⟨by rw[hh],rfl⟩
            | true =>
              by_cases h46:R=46
              · have hh:H=true:=by rw[←HH1.out,decide_eq_true (Or.inl h46)];rfl
                have e46:(R==46)=true:=by rw[beq_iff_eq];exact h46
                clear HH1 h46
                go_wp2_with (first|(go_at_call 160;refine(cRes _).mono ?_;rintro e w' ⟨rfl,hw'⟩;rw[hw']))
                go_meet
                exact⟨by rw[hh],rfl⟩
              · have e46:(R==46)=false:=by rw[beq_eq_false_iff_ne];exact h46
                by_cases h32:R=32
                · have hh:H=true:=by rw[←HH1.out,decide_eq_true (Or.inr h32)];rfl
                  have e32:(R==32)=true:=by rw[beq_iff_eq];exact h32
                  clear HH1 h46 h32
                  go_wp2_with (first|(go_at_call 160;refine(cRes _).mono ?_;rintro e w' ⟨rfl,hw'⟩;rw[hw']))
                  go_meet
                  exact⟨by rw[hh],rfl⟩
                · have hh:H=false:=by rw[←HH1.out,decide_eq_false (by rintro(h|h);exact h46 h;exact h32 h)];rfl
                  have e32:(R==32)=false:=by rw[beq_eq_false_iff_ne];exact h32
                  clear HH1 h46 h32
                  go_wp2_with (first|(go_at_call 160;refine(cRes _).mono ?_;rintro e w' ⟨rfl,hw'⟩;rw[hw']))
                  go_meet
                  exact⟨by rw[hh],rfl⟩
      case rest =>
        obtain⟨hc1,hc2⟩:=hcut
        subst hc1
        subst hc2
        have hown1:=HO.out.below hb1
        have hbw:=hbel.trans (hb1.mono hbel.size)
        have HBW:=Lib.hid hbw
        have HOW:=Lib.hid hown1
        have HBS:=hbw.size
        clear hbel hlast cRes HH
        cases H with
        | true =>
          have hsl0:=SliceIs.own hown1
          have hfit:Fits op:=fun x hx=>by have:=HF.out x hx;omega
          have cJ:∀w',(Below wc.heap.size wc w'∧SliceIs w' (.slice a op.length cap) op)→Calls Tryz.prog 162 #[.int .i64 enc,.bool true,.slice a op.length cap] w' fun e w''=>e=.returned (.string ⟨(joinL op).toArray⟩)∧Below w'.heap.size w' w'':=fun w' h=>by
            have:=joined_c enc true op _ w' h.2 (by omega) hfit
            rw[HD8.out,show joinedI (false&&true) op=op from rfl]at this
            exact this
          have hjl:=joinL_length op
          have hJL:Hid ((⟨(joinL op).toArray⟩:ByteArray).data.toList=joinL op):=Lib.hid rfl
          have hJs:(⟨(joinL op).toArray⟩:ByteArray).size≤1200:=by rw[←len_list];show(joinL op).length≤1200;omega
          generalize (⟨(joinL op).toArray⟩:ByteArray)=J at *
          have hes:(b.extract k (k+K)).size=K:=by rw[←len_list,HEX.out,List.length_take,List.length_drop,HZ.out];omega
          have cE:∀w',Calls Tryz.prog 163 #[.string (b.extract k (k+K))] w' fun e w''=>e=.returned (.string ⟨(escL ((b.data.toList.drop k).take K)).toArray⟩)∧Below w'.heap.size w' w'':=fun w'=>by
            refine(refEsc_c (b.extract k (k+K)) (by omega) w').mono ?_
            rintro e w'' ⟨⟨s9,rfl,h9⟩,hb9⟩
            refine⟨?_,hb9⟩
            rw[HEX.out]at h9
            rw[←h9]
          have hel:=escL_length ((b.data.toList.drop k).take K)
          have hEL:Hid ((⟨(escL ((b.data.toList.drop k).take K)).toArray⟩:ByteArray).data.toList=escL ((b.data.toList.drop k).take K)):=Lib.hid rfl
          have hEs:(⟨(escL ((b.data.toList.drop k).take K)).toArray⟩:ByteArray).size≤900:=by rw[←len_list];show(escL _).length≤900;rw[hel,List.length_take];omega
          generalize (⟨(escL ((b.data.toList.drop k).take K)).toArray⟩:ByteArray)=E at *
          have hn1:¬(9223372036854775807<J.size+E.size):=by omega
          have hn2:¬(9223372036854775807<s.size+(J++E).size):=by rw[ByteArray.size_append];omega
          have hn3:¬(9223372036854775807<s.size+(J.size+E.size)):=by omega
          have hS0:Below wc.heap.size wc wc∧SliceIs wc (.slice a op.length cap) op:=⟨Below.refl _ _,hsl0⟩
          have HX:Hid ((s++(J++E)).data.toList++presN enc true (b.data.toList.drop (k+K)) []=total):=Lib.hid (by
            have h1:=HST.out
            rw[if_pos rfl,List.drop_drop]at h1
            rw[←HT.out,h1]
            simp only[ByteArray.data_append,Array.toList_append,hJL.out,hEL.out,escs_same]
            have h2:joinT false true op=op:=rfl
            rw[h2]
            simp)
          clear hjl hel hes hsl0 hown1 hbw hb1
          go_wp2_with fail
          go_region_held3 (fun w'=>Below wc.heap.size wc w'∧SliceIs w' (.slice a op.length cap) op) (first|assumption|exact keepS_drew ‹_›|exact keepS_step ‹_› ‹_›) (first|(go_at_call 162;refine(cJ _ (by assumption)).mono ?_;rintro e w' ⟨rfl,hb⟩)|(go_at_call 163;refine(cE _).mono ?_;rintro e w' ⟨rfl,hb⟩))
          all_goals
            have hbf:Below wc.heap.size wc _:=(‹Below wc.heap.size wc _∧SliceIs _ _ _›).1
            have hfull:Hid (Below w.heap.size w _):=Lib.hid (HBW.out.trans (hbf.mono HBS))
            clear hS0 hbf
            go_wp2
            go_roundg (b.size-(k+K))
            case measure=>have:=HRG.out;omega
            case rel=>exact⟨k+K,[],s++(J++E),by have:=HRG.out;omega,rfl,by first|rfl|go_num,by simp,(fun x hx=>by cases hx),HX.out,OwnI.nil _ _,hfull.out⟩
        | false =>
          have HRR:Hid (∀x∈op++[R],0≤x∧x≤1114111):=Lib.hid (fun x hx=>by
            rcases List.mem_append.1 hx with h|h
            · exact HF.out x h
            · have e:x=R:=by simpa using h
              rw[e]
              exact⟨HR0.out rfl,HRG.out.2.1⟩)
          have HX:Hid (s.data.toList++presN enc true (b.data.toList.drop (k+K)) (op++[R])=total):=Lib.hid (by
            have h1:=HST.out
            rw[if_neg (by decide),List.drop_drop]at h1
            rw[←HT.out,h1])
          clear hbw
          have jc:(wc.alloc (.cells #[.int .i32 R] 21)).cell? ⟨wc.heap.size,0,none⟩=some (.int .i32 R):=World.cell?_alloc_at _ _ _ _ rfl
          go_wp2_with (at_builtin;refine wpList_append_own _ rfl _ _ 113 rfl w.heap.size 21 i0 (.int .i32 0) 1 4 Tryz.underlying113 hi0 hz0 hz1 hz2 rfl (by decide) _ _ _ rfl (hown1.alloc _) ⟨wc.heap.size,0,none⟩ 1 1 [.int .i32 R] rfl rfl (by intro j u hj;rcases j with _|j;(simp at hj;subst hj;exact jc);(simp at hj)) (by intro u hu;simp at hu;subst hu;rfl) (by unfold maxLen;omega) (by omega) (by simp;omega) ?_;intro v' w2 hown' hgrow _)
          have HO2:Hid (OwnI w.heap.size w2 v' (op++[R])):=Lib.hid (OwnI.more (ys:=[R]) hown' (by simp) (by simp))
          have HB2:Hid (Below w.heap.size w w2):=Lib.hid ((HBW.out.alloc HBS (.cells #[.int .i32 R] 21)).grown hgrow (by simp;omega) (fun j hj=>(hown1.lt j hj).1))
          clear hown' hgrow hown1
          go_wp2
          go_roundg (b.size-(k+K))
          case measure=>have:=HRG.out;omega
          case rel=>exact⟨k+K,op++[R],s,by have:=HRG.out;omega,rfl,by first|rfl|go_num,by have:=HRG.out;simp;omega,HRR.out,HX.out,HO2.out,HB2.out⟩
    · have hke:k=b.size:=by omega
      have hbs:=hbel.size
      have hlo:=hol
      have hsl0:=SliceIs.own HO.out
      have hfit:Fits op:=fun x hx=>by have:=HF.out x hx;omega
      have cJ:Calls Tryz.prog 162 #[.int .i64 enc,.bool true,.slice a op.length cap] wr fun e w''=>e=.returned (.string ⟨(joinL op).toArray⟩)∧Below wr.heap.size wr w'':=by
        have:=joined_c enc true op _ wr hsl0 (by omega) hfit
        rw[HD8.out,show joinedI (false&&true) op=op from rfl]at this
        exact this
      have hjl:=joinL_length op
      have hJL:Hid ((⟨(joinL op).toArray⟩:ByteArray).data.toList=joinL op):=Lib.hid rfl
      have hJs:(⟨(joinL op).toArray⟩:ByteArray).size≤1200:=by rw[←len_list];show(joinL op).length≤1200;omega
      generalize (⟨(joinL op).toArray⟩:ByteArray)=J at *
      have hn1:¬(9223372036854775807<s.size+J.size):=by omega
      have HX:Hid ((s++J).data.toList=total):=Lib.hid (by
        have h1:=HT.out
        rw[hke,show b.data.toList.drop b.size=[] from List.drop_eq_nil_of_le (by rw[HZ.out];exact Nat.le_refl _),presN_nil,HD8.out]at h1
        rw[←h1]
        simp only[ByteArray.data_append,Array.toList_append,hJL.out]
        rfl)
      have hge:¬((k:Int)<(b.size:Int)):=by omega
      clear hke hlt hkg hsl0 hjl
      go_wp2_with fail
      refine cJ.mono ?_
      rintro e w2 ⟨rfl,hb2⟩
      go_wp2
      go_ret
      exact⟨⟨_,rfl,HX.out⟩,hbel.trans (hb2.mono hbs)⟩
end Go.Proofs.YtfioknaadbgjlaaGreatDoor.F
namespace Go.Proofs.YtfioknaadbgjlaaGreatDoor.F
open Go.RowKit Go.Sort
theorem hide_irr' (last e:Bool)(r:Int):hideB true false last e r=((decide (r<0)||decide (128≤r))||hidI r last):=by
  unfold hideB hidI
  rw[res_same]
  generalize decide (r<0)=a
  generalize decide (128≤r)=p
  generalize reservedI r=c
  generalize decide (r=46∨r=32)=d
  generalize decide (0≤r∧0<classI r)=f
  cases a<;>cases p<;>cases c<;>cases d<;>cases last<;>cases e<;>rfl
set_option maxHeartbeats 4000000 in
theorem refPres_irr (b:ByteArray)(hg:regL b.data.toList=false)(hs:b.size≤300)(w:World) :
    Calls Tryz.prog 123 #[.int .i64 8,.string b] w fun e w'=>(∃s:ByteArray,e=.returned (.string s)∧s.data.toList=presL 8 b.data.toList)∧Below w.heap.size w w':=by
  obtain⟨i0,hi0,hz0,hz1,hz2⟩:=info_parts infoInt32
  have hsz:b.data.toList.length=b.size:=by simp
  have HZ:=Lib.hid hsz
  have h0:(0:Int)≤8:=by decide
  have cG:=regular_c b hs w
  rw[show regularB b.data.toList=false from hg]at cG
  have HPL:Hid (presL 8 b.data.toList=presN 8 false (b.data.toList.drop 0) []):=Lib.hid (by
    rw[presL_N,show(decide ((8:Int)≠8)||regL b.data.toList)=false by rw[hg];rfl,List.drop_zero])
  have HTL:Hid ((presL 8 b.data.toList).length≤1200):=Lib.hid (by have:=presL_len h0 b.data.toList;omega)
  clear hsz hg
  generalize presL 8 b.data.toList=total at *
  go_enter Tryz.func123,Tryz.ntmps123
  go_wp2_with (first|(go_at_call 158;refine cG.mono ?_;rintro e w0 ⟨rfl,hb0⟩))
  go_loopg [6,7,8] b.size (fun gk sv ov kv wr=>PresRel 8 false b w total gk sv ov kv wr)
  case atStart=>exact⟨0,[],⟨#[]⟩,by omega,rfl,rfl,by simp,(fun x hx=>by cases hx),(by rw[HPL.out];rfl),OwnI.nil _ _,hb0⟩
  case round =>
    obtain⟨k,op,s,hkg,rfl,rfl,hol,hof,htot,hown,hbel⟩:=hrel
    have HT:=Lib.hid htot
    have HO:=Lib.hid hown
    have HF:=Lib.hid hof
    have hsl:s.size≤1200:=by
      have h1:=congrArg List.length htot
      have h2:=HTL.out
      have h3:=len_list s
      rw[List.length_append]at h1
      omega
    obtain⟨a,cap,hva⟩:=(SliceIs.own hown).len
    subst hva
    clear htot hown hof
    by_cases hlt:k<b.size
    · have hltz:(k:Int)<(b.size:Int):=by omega
      have hne:b.data.toList.drop k≠[]:=by
        intro h
        have:=congrArg List.length h
        rw[List.length_drop,HZ.out,List.length_nil]at this
        omega
      have hst:=presN_step h0 false hne op
      have hrg:=pieceL_range h0 hne
      rw[List.length_drop,HZ.out]at hrg hst
      have cN:=r2next_c 8 h0 (by omega) b k hlt (by omega) wr
      rw[pieceI_L hlt]at cN
      have hex:=ext_list b k (pieceL 8 (b.data.toList.drop k)).2
      generalize (pieceL 8 (b.data.toList.drop k)).1=R at *
      generalize (pieceL 8 (b.data.toList.drop k)).2=K at *
      rw[show decide ((8:Int)=8)=true from rfl,hide_irr']at hst
      have hw0:IntKind.i64.wrap ((k:Int)+(K:Int))=(k:Int)+(K:Int):=by rw[IntKind.wrap_i64];omega
      have hwR:IntKind.i32.wrap R=R:=by rw[IntKind.wrap_i32];omega
      have z0:(0:Int)≤(k:Int):=by omega
      have z1:(0:Int)≤(k:Int)+(K:Int):=by omega
      have z2:(k:Int)≤(k:Int)+(K:Int):=by omega
      have z3:(k:Int)+(K:Int)≤(b.size:Int):=by omega
      have z4:((k:Int)+(K:Int)).toNat=k+K:=by omega
      have z5:((k:Int)).toNat=k:=by omega
      obtain⟨LAST,hLAST⟩:∃L:Bool,decide (b.size-k=K)=L:=⟨_,rfl⟩
      have hlast:(((k:Int)+(K:Int))==(b.size:Int))=LAST:=by
        rw[←hLAST]
        by_cases e:b.size-k=K
        · rw[decide_eq_true e,beq_iff_eq];omega
        · rw[decide_eq_false e,beq_eq_false_iff_ne];omega
      rw[hLAST]at hst
      obtain⟨H,hH⟩:∃H,((decide (R<0)||decide (128≤R))||hidI R LAST)=H:=⟨_,rfl⟩
      rw[hH]at hst
      have HST:=Lib.hid hst
      have HR0:Hid (H=false→0≤R):=Lib.hid (fun h=>by
        rw[←hH]at h
        by_cases h9:R<0
        · rw[decide_eq_true h9,Bool.true_or,Bool.true_or]at h;cases h
        · omega)
      have cRes:=refRes_c R
      have HRG:Hid (-1≤R∧R≤1114111∧1≤K):=Lib.hid ⟨hrg.1,hrg.2.1,hrg.2.2.1⟩
      have HEX:=Lib.hid hex
      have hKK:K≤300:=by omega
      clear hst hrg hLAST hne hex
      have HH:Hid (((decide (R<0)||decide (128≤R))||hidI R LAST)=H):=Lib.hid hH
      clear hH
      go_upto_region 8 with(first|(go_at_call 159;refine cN.mono ?_;rintro e w1 ⟨rfl,hb1⟩))
      go_cut [12] from 19 to 103 (fun c wx=>c=.bool H∧wx=w1)
      case first =>
        clear hlast
        by_cases hR0:R<0
        · have hh:H=true:=by rw[←HH.out,decide_eq_true hR0,Bool.true_or,Bool.true_or]
          go_wp2_with (first|(go_at_call 160;refine(cRes _).mono ?_;rintro e w' ⟨rfl,hw'⟩;rw[hw']))
          go_meet
          exact⟨by rw[hh],rfl⟩
        · cases hres:reservedI R with
          | true =>
            have hh:H=true:=by rw[←HH.out];unfold hidI;rw[hres,Bool.or_true,Bool.or_true,Bool.or_true]
            rw[hres]at cRes
            clear hres
            go_wp2_with (first|(go_at_call 160;refine(cRes _).mono ?_;rintro e w' ⟨rfl,hw'⟩;rw[hw']))
            go_meet
            exact⟨by rw[hh],rfl⟩
          | false =>
            have hH1:((decide (R<0)||decide (128≤R))||hidI R LAST)=(decide (128≤R)||(LAST&&decide (R=46∨R=32))):=by unfold hidI;rw[hres,decide_eq_false hR0,Bool.or_false,Bool.or_false,Bool.false_or]
            rw[hres]at cRes
            have HH1:Hid ((decide (128≤R)||(LAST&&decide (R=46∨R=32)))=H):=Lib.hid (hH1.symm.trans HH.out)
            clear hres hH1 HH HST
            cases LAST with
            | false =>
              have hh:H=decide (128≤R):=by rw[←HH1.out,Bool.false_and,Bool.or_false]
              clear HH1
              go_wp2_with (first|(go_at_call 160;refine(cRes _).mono ?_;rintro e w' ⟨rfl,hw'⟩;rw[hw']))
              go_meet
              exact⟨by rw[hh],rfl⟩
            | true =>
              by_cases h46:R=46
              · have hh:H=true:=by rw[←HH1.out,decide_eq_true (Or.inl h46),Bool.true_and,Bool.or_true]
                have e46:(R==46)=true:=by rw[beq_iff_eq];exact h46
                clear HH1 h46
                go_wp2_with (first|(go_at_call 160;refine(cRes _).mono ?_;rintro e w' ⟨rfl,hw'⟩;rw[hw']))
                go_meet
                exact⟨by rw[hh],rfl⟩
              · have e46:(R==46)=false:=by rw[beq_eq_false_iff_ne];exact h46
                by_cases h32:R=32
                · have hh:H=true:=by rw[←HH1.out,decide_eq_true (Or.inr h32),Bool.true_and,Bool.or_true]
                  have e32:(R==32)=true:=by rw[beq_iff_eq];exact h32
                  clear HH1 h46 h32
                  go_wp2_with (first|(go_at_call 160;refine(cRes _).mono ?_;rintro e w' ⟨rfl,hw'⟩;rw[hw']))
                  go_meet
                  exact⟨by rw[hh],rfl⟩
                · have hh:H=decide (128≤R):=by rw[←HH1.out,decide_eq_false (p:=R=46∨R=32) (by rintro(h|h);exact h46 h;exact h32 h),Bool.true_and,Bool.or_false]
                  have e32:(R==32)=false:=by rw[beq_eq_false_iff_ne];exact h32
                  clear HH1 h46 h32
                  go_wp2_with (first|(go_at_call 160;refine(cRes _).mono ?_;rintro e w' ⟨rfl,hw'⟩;rw[hw']))
                  go_meet
                  exact⟨by rw[hh],rfl⟩
      case rest =>
        obtain⟨hc1,hc2⟩:=hcut
        subst hc1
        subst hc2
        have hown1:=HO.out.below hb1
        have hbw:=hbel.trans (hb1.mono hbel.size)
        have HBW:=Lib.hid hbw
        have HOW:=Lib.hid hown1
        have HBS:=hbw.size
        clear hbel hlast cRes HH
        cases H with
        | true =>
          have hsl0:=SliceIs.own hown1
          have hfit:Fits op:=fun x hx=>by have:=HF.out x hx;omega
          have cJ:∀w',(Below wc.heap.size wc w'∧SliceIs w' (.slice a op.length cap) op)→Calls Tryz.prog 162 #[.int .i64 8,.bool false,.slice a op.length cap] w' fun e w''=>e=.returned (.string ⟨(joinL op).toArray⟩)∧Below w'.heap.size w' w'':=fun w' h=>by
            have:=joined_c 8 false op _ w' h.2 (by omega) hfit
            rw[show joinedI (decide ((8:Int)=8)&&false) op=op from rfl]at this
            exact this
          have hjl:=joinL_length op
          have hJL:Hid ((⟨(joinL op).toArray⟩:ByteArray).data.toList=joinL op):=Lib.hid rfl
          have hJs:(⟨(joinL op).toArray⟩:ByteArray).size≤1200:=by rw[←len_list];show(joinL op).length≤1200;omega
          generalize (⟨(joinL op).toArray⟩:ByteArray)=J at *
          have hes:(b.extract k (k+K)).size=K:=by rw[←len_list,HEX.out,List.length_take,List.length_drop,HZ.out];omega
          have cE:∀w',Calls Tryz.prog 163 #[.string (b.extract k (k+K))] w' fun e w''=>e=.returned (.string ⟨(escL ((b.data.toList.drop k).take K)).toArray⟩)∧Below w'.heap.size w' w'':=fun w'=>by
            refine(refEsc_c (b.extract k (k+K)) (by omega) w').mono ?_
            rintro e w'' ⟨⟨s9,rfl,h9⟩,hb9⟩
            refine⟨?_,hb9⟩
            rw[HEX.out]at h9
            rw[←h9]
          have hel:=escL_length ((b.data.toList.drop k).take K)
          have hEL:Hid ((⟨(escL ((b.data.toList.drop k).take K)).toArray⟩:ByteArray).data.toList=escL ((b.data.toList.drop k).take K)):=Lib.hid rfl
          have hEs:(⟨(escL ((b.data.toList.drop k).take K)).toArray⟩:ByteArray).size≤900:=by rw[←len_list];show(escL _).length≤900;rw[hel,List.length_take];omega
          generalize (⟨(escL ((b.data.toList.drop k).take K)).toArray⟩:ByteArray)=E at *
          have hn1:¬(9223372036854775807<J.size+E.size):=by omega
          have hn2:¬(9223372036854775807<s.size+(J++E).size):=by rw[ByteArray.size_append];omega
          have hn3:¬(9223372036854775807<s.size+(J.size+E.size)):=by omega
          have hS0:Below wc.heap.size wc wc∧SliceIs wc (.slice a op.length cap) op:=⟨Below.refl _ _,hsl0⟩
          have HX:Hid ((s++(J++E)).data.toList++presN 8 false (b.data.toList.drop (k+K)) []=total):=Lib.hid (by
            have h1:=HST.out
            rw[if_pos rfl,List.drop_drop]at h1
            rw[←HT.out,h1]
            simp only[ByteArray.data_append,Array.toList_append,hJL.out,hEL.out,escs_same]
            have h2:joinT true false op=op:=rfl
            rw[h2]
            simp)
          clear hjl hel hes hsl0 hown1 hbw hb1
          go_wp2_with fail
          go_region_held3 (fun w'=>Below wc.heap.size wc w'∧SliceIs w' (.slice a op.length cap) op) (first|assumption|exact keepS_drew ‹_›|exact keepS_step ‹_› ‹_›) (first|(go_at_call 162;refine(cJ _ (by assumption)).mono ?_;rintro e w' ⟨rfl,hb⟩)|(go_at_call 163;refine(cE _).mono ?_;rintro e w' ⟨rfl,hb⟩))
          all_goals
            have hbf:Below wc.heap.size wc _:=(‹Below wc.heap.size wc _∧SliceIs _ _ _›).1
            have hfull:Hid (Below w.heap.size w _):=Lib.hid (HBW.out.trans (hbf.mono HBS))
            clear hS0 hbf
            go_wp2
            go_roundg (b.size-(k+K))
            case measure=>have:=HRG.out;omega
            case rel=>exact⟨k+K,[],s++(J++E),by have:=HRG.out;omega,rfl,by first|rfl|go_num,by simp,(fun x hx=>by cases hx),HX.out,OwnI.nil _ _,hfull.out⟩
        | false =>
          have HRR:Hid (∀x∈op++[R],0≤x∧x≤1114111):=Lib.hid (fun x hx=>by
            rcases List.mem_append.1 hx with h|h
            · exact HF.out x h
            · have e:x=R:=by simpa using h
              rw[e]
              exact⟨HR0.out rfl,HRG.out.2.1⟩)
          have HX:Hid (s.data.toList++presN 8 false (b.data.toList.drop (k+K)) (op++[R])=total):=Lib.hid (by
            have h1:=HST.out
            rw[if_neg (by decide),List.drop_drop]at h1
            rw[←HT.out,h1])
          clear hbw
          have jc:(wc.alloc (.cells #[.int .i32 R] 21)).cell? ⟨wc.heap.size,0,none⟩=some (.int .i32 R):=World.cell?_alloc_at _ _ _ _ rfl
          go_wp2_with (at_builtin;refine wpList_append_own _ rfl _ _ 113 rfl w.heap.size 21 i0 (.int .i32 0) 1 4 Tryz.underlying113 hi0 hz0 hz1 hz2 rfl (by decide) _ _ _ rfl (hown1.alloc _) ⟨wc.heap.size,0,none⟩ 1 1 [.int .i32 R] rfl rfl (by intro j u hj;rcases j with _|j;(simp at hj;subst hj;exact jc);(simp at hj)) (by intro u hu;simp at hu;subst hu;rfl) (by unfold maxLen;omega) (by omega) (by simp;omega) ?_;intro v' w2 hown' hgrow _)
          have HO2:Hid (OwnI w.heap.size w2 v' (op++[R])):=Lib.hid (OwnI.more (ys:=[R]) hown' (by simp) (by simp))
          have HB2:Hid (Below w.heap.size w w2):=Lib.hid ((HBW.out.alloc HBS (.cells #[.int .i32 R] 21)).grown hgrow (by simp;omega) (fun j hj=>(hown1.lt j hj).1))
          clear hown' hgrow hown1
          go_wp2
          go_roundg (b.size-(k+K))
          case measure=>have:=HRG.out;omega
          case rel=>exact⟨k+K,op++[R],s,by have:=HRG.out;omega,rfl,by first|rfl|go_num,by have:=HRG.out;simp;omega,HRR.out,HX.out,HO2.out,HB2.out⟩
    · have hke:k=b.size:=by omega
      have hbs:=hbel.size
      have hlo:=hol
      have hsl0:=SliceIs.own HO.out
      have hfit:Fits op:=fun x hx=>by have:=HF.out x hx;omega
      have cJ:Calls Tryz.prog 162 #[.int .i64 8,.bool false,.slice a op.length cap] wr fun e w''=>e=.returned (.string ⟨(joinL op).toArray⟩)∧Below wr.heap.size wr w'':=by
        have:=joined_c 8 false op _ wr hsl0 (by omega) hfit
        rw[show joinedI (decide ((8:Int)=8)&&false) op=op from rfl]at this
        exact this
      have hjl:=joinL_length op
      have hJL:Hid ((⟨(joinL op).toArray⟩:ByteArray).data.toList=joinL op):=Lib.hid rfl
      have hJs:(⟨(joinL op).toArray⟩:ByteArray).size≤1200:=by rw[←len_list];show(joinL op).length≤1200;omega
      generalize (⟨(joinL op).toArray⟩:ByteArray)=J at *
      have hn1:¬(9223372036854775807<s.size+J.size):=by omega
      have HX:Hid ((s++J).data.toList=total):=Lib.hid (by
        have h1:=HT.out
        rw[hke,show b.data.toList.drop b.size=[] from List.drop_eq_nil_of_le (by rw[HZ.out];exact Nat.le_refl _),presN_nil]at h1
        rw[←h1]
        simp only[ByteArray.data_append,Array.toList_append,hJL.out]
        rfl)
      have hge:¬((k:Int)<(b.size:Int)):=by omega
      clear hke hlt hkg hsl0 hjl
      go_wp2_with fail
      refine cJ.mono ?_
      rintro e w2 ⟨rfl,hb2⟩
      go_wp2
      go_ret
      exact⟨⟨_,rfl,HX.out⟩,hbel.trans (hb2.mono hbs)⟩
set_option maxHeartbeats 4000000 in
theorem refPres_reg (b:ByteArray)(hg:regL b.data.toList=true)(hs:b.size≤300)(w:World) :
    Calls Tryz.prog 123 #[.int .i64 8,.string b] w fun e w'=>(∃s:ByteArray,e=.returned (.string s)∧s.data.toList=presL 8 b.data.toList)∧Below w.heap.size w w':=by
  obtain⟨i0,hi0,hz0,hz1,hz2⟩:=info_parts infoInt32
  have hsz:b.data.toList.length=b.size:=by simp
  have HZ:=Lib.hid hsz
  have h0:(0:Int)≤8:=by decide
  have cG:=regular_c b hs w
  rw[show regularB b.data.toList=true from hg]at cG
  have HPL:Hid (presL 8 b.data.toList=presN 8 true (b.data.toList.drop 0) []):=Lib.hid (by
    rw[presL_N,show(decide ((8:Int)≠8)||regL b.data.toList)=true by rw[hg];rfl,List.drop_zero])
  have HTL:Hid ((presL 8 b.data.toList).length≤1200):=Lib.hid (by have:=presL_len h0 b.data.toList;omega)
  clear hsz hg
  generalize presL 8 b.data.toList=total at *
  go_enter Tryz.func123,Tryz.ntmps123
  go_wp2_with (first|(go_at_call 158;refine cG.mono ?_;rintro e w0 ⟨rfl,hb0⟩))
  go_loopg [6,7,8] b.size (fun gk sv ov kv wr=>PresRel 8 true b w total gk sv ov kv wr)
  case atStart=>exact⟨0,[],⟨#[]⟩,by omega,rfl,rfl,by simp,(fun x hx=>by cases hx),(by rw[HPL.out];rfl),OwnI.nil _ _,hb0⟩
  case round =>
    obtain⟨k,op,s,hkg,rfl,rfl,hol,hof,htot,hown,hbel⟩:=hrel
    have HT:=Lib.hid htot
    have HO:=Lib.hid hown
    have HF:=Lib.hid hof
    have hsl:s.size≤1200:=by
      have h1:=congrArg List.length htot
      have h2:=HTL.out
      have h3:=len_list s
      rw[List.length_append]at h1
      omega
    obtain⟨a,cap,hva⟩:=(SliceIs.own hown).len
    subst hva
    clear htot hown hof
    by_cases hlt:k<b.size
    · have hltz:(k:Int)<(b.size:Int):=by omega
      have hne:b.data.toList.drop k≠[]:=by
        intro h
        have:=congrArg List.length h
        rw[List.length_drop,HZ.out,List.length_nil]at this
        omega
      have hst:=presN_step h0 true hne op
      have hrg:=pieceL_range h0 hne
      rw[List.length_drop,HZ.out]at hrg hst
      have cN:=r2next_c 8 h0 (by omega) b k hlt (by omega) wr
      rw[pieceI_L hlt]at cN
      have hex:=ext_list b k (pieceL 8 (b.data.toList.drop k)).2
      generalize (pieceL 8 (b.data.toList.drop k)).1=R at *
      generalize (pieceL 8 (b.data.toList.drop k)).2=K at *
      rw[show decide ((8:Int)=8)=true from rfl,hide_reg]at hst
      have hw0:IntKind.i64.wrap ((k:Int)+(K:Int))=(k:Int)+(K:Int):=by rw[IntKind.wrap_i64];omega
      have hwR:IntKind.i32.wrap R=R:=by rw[IntKind.wrap_i32];omega
      have z0:(0:Int)≤(k:Int):=by omega
      have z1:(0:Int)≤(k:Int)+(K:Int):=by omega
      have z2:(k:Int)≤(k:Int)+(K:Int):=by omega
      have z3:(k:Int)+(K:Int)≤(b.size:Int):=by omega
      have z4:((k:Int)+(K:Int)).toNat=k+K:=by omega
      have z5:((k:Int)).toNat=k:=by omega
      obtain⟨LAST,hLAST⟩:∃L:Bool,decide (b.size-k=K)=L:=⟨_,rfl⟩
      have hlast:(((k:Int)+(K:Int))==(b.size:Int))=LAST:=by
        rw[←hLAST]
        by_cases e:b.size-k=K
        · rw[decide_eq_true e,beq_iff_eq];omega
        · rw[decide_eq_false e,beq_eq_false_iff_ne];omega
      rw[hLAST]at hst
      obtain⟨H,hH⟩:∃H,regHide op R LAST=H:=⟨_,rfl⟩
      obtain⟨H8,hH8⟩:∃H8,hidI R LAST=H8:=⟨_,rfl⟩
      rw[hH]at hst
      have HST:=Lib.hid hst
      have HR0:Hid (H=false→0≤R):=Lib.hid (fun h=>by
        rw[←hH]at h
        unfold regHide hidI at h
        by_cases h9:R<0
        · rw[decide_eq_true h9,Bool.true_or,Bool.or_true,Bool.or_true]at h;cases h
        · omega)
      have HRG2:Hid (((decide (op=[])&&decide (classI R≠0))||H8)=H):=Lib.hid (by rw[←hH,←hH8];rfl)
      have HRN:Hid (R<0→H8=true):=Lib.hid (fun h9=>by rw[←hH8];unfold hidI;rw[decide_eq_true h9,Bool.true_or,Bool.or_true])
      have cRes:=refRes_c R
      have HRG:Hid (-1≤R∧R≤1114111∧1≤K):=Lib.hid ⟨hrg.1,hrg.2.1,hrg.2.2.1⟩
      have HEX:=Lib.hid hex
      have hKK:K≤300:=by omega
      clear hst hrg hLAST hne hex
      have HH:Hid (hidI R LAST=H8):=Lib.hid hH8
      clear hH hH8
      go_upto_region 8 with(first|(go_at_call 159;refine cN.mono ?_;rintro e w1 ⟨rfl,hb1⟩))
      go_cut [12] from 19 to 103 (fun c wx=>c=.bool H8∧wx=w1)
      case first =>
        clear hlast
        by_cases hR0:R<0
        · have hh:H8=true:=by rw[←HH.out];unfold hidI;rw[decide_eq_true hR0,Bool.true_or,Bool.or_true]
          go_wp2_with (first|(go_at_call 160;refine(cRes _).mono ?_;rintro e w' ⟨rfl,hw'⟩;rw[hw']))
          go_meet
          exact⟨by rw[hh],rfl⟩
        · cases hres:reservedI R with
          | true =>
            have hh:H8=true:=by rw[←HH.out];unfold hidI;rw[hres,Bool.or_true,Bool.or_true]
            rw[hres]at cRes
            clear hres
            go_wp2_with (first|(go_at_call 160;refine(cRes _).mono ?_;rintro e w' ⟨rfl,hw'⟩;rw[hw']))
            go_meet
            exact⟨by rw[hh],rfl⟩
          | false =>
            have hH1:hidI R LAST=(LAST&&decide (R=46∨R=32)):=by unfold hidI;rw[hres,decide_eq_false hR0,Bool.or_false,Bool.or_false]
            rw[hres]at cRes
            have HH1:Hid ((LAST&&decide (R=46∨R=32))=H8):=Lib.hid (hH1.symm.trans HH.out)
            clear hres hH1 HH HST
            cases LAST with
            | false =>
              have hh:H8=false:=HH1.out.symm
              clear HH1
              go_wp2_with (first|(go_at_call 160;refine(cRes _).mono ?_;rintro e w' ⟨rfl,hw'⟩;rw[hw']))
              go_meet
              exact⟨by rw[hh],rfl⟩
            | true =>
              by_cases h46:R=46
              · have hh:H8=true:=by rw[←HH1.out,decide_eq_true (Or.inl h46)];rfl
                have e46:(R==46)=true:=by rw[beq_iff_eq];exact h46
                clear HH1 h46
                go_wp2_with (first|(go_at_call 160;refine(cRes _).mono ?_;rintro e w' ⟨rfl,hw'⟩;rw[hw']))
                go_meet
                exact⟨by rw[hh],rfl⟩
              · have e46:(R==46)=false:=by rw[beq_eq_false_iff_ne];exact h46
                by_cases h32:R=32
                · have hh:H8=true:=by rw[←HH1.out,decide_eq_true (Or.inr h32)];rfl
                  have e32:(R==32)=true:=by rw[beq_iff_eq];exact h32
                  clear HH1 h46 h32
                  go_wp2_with (first|(go_at_call 160;refine(cRes _).mono ?_;rintro e w' ⟨rfl,hw'⟩;rw[hw']))
                  go_meet
                  exact⟨by rw[hh],rfl⟩
                · have hh:H8=false:=by rw[←HH1.out,decide_eq_false (by rintro(h|h);exact h46 h;exact h32 h)];rfl
                  have e32:(R==32)=false:=by rw[beq_eq_false_iff_ne];exact h32
                  clear HH1 h46 h32
                  go_wp2_with (first|(go_at_call 160;refine(cRes _).mono ?_;rintro e w' ⟨rfl,hw'⟩;rw[hw']))
                  go_meet
                  exact⟨by rw[hh],rfl⟩
      case rest =>
        obtain⟨hc1,hc2⟩:=hcut
        subst hc1
        rw[hc2]
        clear hc2 hlast
        clear wc
        have cC:=class_c R
        go_upto_region 9 with fail
        go_cut [80] from 19 to 103 (fun c wx=>∃C:Bool,c=.bool C∧(C||H8)=H∧wx=w1)
        case first =>
          clear HST HT HO HF HEX
          by_cases hop:op=[]
          · have hlz:((op.length:Int)==0)=true:=by rw[hop];rfl
            by_cases hR0:R<0
            · have hR0':¬(0≤R):=by omega
              have hh:(false||H8)=H:=by
                have h1:=HRN.out hR0
                rw[←HRG2.out,h1,Bool.or_true,Bool.or_true]
              clear hop HRG2 HRN hR0
              go_wp2_with (first|(go_at_call 161;refine(cC _).mono ?_;rintro e w' ⟨rfl,hw'⟩;rw[←hw']))
              go_meet
              exact⟨_,rfl,hh,rfl⟩
            · have hR0':0≤R:=by omega
              have hh:(decide (0<classI R)||H8)=H:=by
                rw[←HRG2.out,decide_eq_true hop,Bool.true_and]
                congr 1
                rw[decide_eq_decide]
                have:=classI_nn R
                omega
              clear hop HRG2 HRN hR0
              by_cases hc:0<classI R
              · rw[decide_eq_true hc]at hh
                go_wp2_with (first|(go_at_call 161;refine(cC _).mono ?_;rintro e w' ⟨rfl,hw'⟩;rw[←hw']))
                go_meet
                exact⟨true,by first|rfl|simp[hc],hh,by first|rfl|exact hw'.symm⟩
              · rw[decide_eq_false hc]at hh
                go_wp2_with (first|(go_at_call 161;refine(cC _).mono ?_;rintro e w' ⟨rfl,hw'⟩;rw[←hw']))
                go_meet
                exact⟨false,by first|rfl|simp[hc],hh,by first|rfl|exact hw'.symm⟩
          · have hlz:((op.length:Int)==0)=false:=by
              rw[beq_eq_false_iff_ne]
              intro h9
              exact hop (List.eq_nil_of_length_eq_zero (by omega))
            have hh:(false||H8)=H:=by rw[←HRG2.out,decide_eq_false hop,Bool.false_and]
            clear hop HRG2 HRN
            go_wp2_with (first|(go_at_call 161;refine(cC _).mono ?_;rintro e w' ⟨rfl,hw'⟩;rw[←hw']))
            go_meet
            exact⟨_,rfl,hh,rfl⟩
        case rest =>
          obtain⟨C,hc1,hCH,hc2⟩:=hcut
          subst hc1
          subst hc2
          have hown1:=HO.out.below hb1
          have hbw:=hbel.trans (hb1.mono hbel.size)
          have HBW:=Lib.hid hbw
          have HOW:=Lib.hid hown1
          have HBS:=hbw.size
          clear hbel cRes HH cC HRG2 HRN
          cases C with
          | true =>
            have hHt:H=true:=by rw[←hCH,Bool.true_or]
            subst hHt
            clear hCH
            have hsl0:=SliceIs.own hown1
            have hfit:Fits op:=fun x hx=>by have:=HF.out x hx;omega
            have cJ:∀w',(Below wc.heap.size wc w'∧SliceIs w' (.slice a op.length cap) op)→Calls Tryz.prog 162 #[.int .i64 8,.bool true,.slice a op.length cap] w' fun e w''=>e=.returned (.string ⟨(joinL (togI op)).toArray⟩)∧Below w'.heap.size w' w'':=fun w' h=>by
              have:=joined_c 8 true op _ w' h.2 (by omega) hfit
              rw[show joinedI (decide ((8:Int)=8)&&true) op=togI op from rfl]at this
              exact this
            have htl:=togI_length op
            have hjl:=joinL_length (togI op)
            have hJL:Hid ((⟨(joinL (togI op)).toArray⟩:ByteArray).data.toList=joinL (togI op)):=Lib.hid rfl
            have hJs:(⟨(joinL (togI op)).toArray⟩:ByteArray).size≤1200:=by rw[←len_list];show(joinL (togI op)).length≤1200;omega
            generalize (⟨(joinL (togI op)).toArray⟩:ByteArray)=J at *
            have hes:(b.extract k (k+K)).size=K:=by rw[←len_list,HEX.out,List.length_take,List.length_drop,HZ.out];omega
            have cE:∀w',Calls Tryz.prog 163 #[.string (b.extract k (k+K))] w' fun e w''=>e=.returned (.string ⟨(escL ((b.data.toList.drop k).take K)).toArray⟩)∧Below w'.heap.size w' w'':=fun w'=>by
              refine(refEsc_c (b.extract k (k+K)) (by omega) w').mono ?_
              rintro e w'' ⟨⟨s9,rfl,h9⟩,hb9⟩
              refine⟨?_,hb9⟩
              rw[HEX.out]at h9
              rw[←h9]
            have hel:=escL_length ((b.data.toList.drop k).take K)
            have hEL:Hid ((⟨(escL ((b.data.toList.drop k).take K)).toArray⟩:ByteArray).data.toList=escL ((b.data.toList.drop k).take K)):=Lib.hid rfl
            have hEs:(⟨(escL ((b.data.toList.drop k).take K)).toArray⟩:ByteArray).size≤900:=by rw[←len_list];show(escL _).length≤900;rw[hel,List.length_take];omega
            generalize (⟨(escL ((b.data.toList.drop k).take K)).toArray⟩:ByteArray)=E at *
            have hn1:¬(9223372036854775807<J.size+E.size):=by omega
            have hn2:¬(9223372036854775807<s.size+(J++E).size):=by rw[ByteArray.size_append];omega
            have hn3:¬(9223372036854775807<s.size+(J.size+E.size)):=by omega
            have hS0:Below wc.heap.size wc wc∧SliceIs wc (.slice a op.length cap) op:=⟨Below.refl _ _,hsl0⟩
            have HX:Hid ((s++(J++E)).data.toList++presN 8 true (b.data.toList.drop (k+K)) []=total):=Lib.hid (by
              have h1:=HST.out
              rw[if_pos rfl,List.drop_drop]at h1
              rw[←HT.out,h1]
              simp only[ByteArray.data_append,Array.toList_append,hJL.out,hEL.out,escs_same]
              have h2:joinT true true op=togI op:=rfl
              rw[h2]
              simp)
            clear hjl hel hes hsl0 hown1 hbw hb1
            go_wp2_with fail
            go_region_held3 (fun w'=>Below wc.heap.size wc w'∧SliceIs w' (.slice a op.length cap) op) (first|assumption|exact keepS_drew ‹_›|exact keepS_step ‹_› ‹_›) (first|(go_at_call 162;refine(cJ _ (by assumption)).mono ?_;rintro e w' ⟨rfl,hb⟩)|(go_at_call 163;refine(cE _).mono ?_;rintro e w' ⟨rfl,hb⟩))
            all_goals
              have hbf:Below wc.heap.size wc _:=(‹Below wc.heap.size wc _∧SliceIs _ _ _›).1
              have hfull:Hid (Below w.heap.size w _):=Lib.hid (HBW.out.trans (hbf.mono HBS))
              clear hS0 hbf
              go_wp2
              go_roundg (b.size-(k+K))
              case measure=>have:=HRG.out;omega
              case rel=>exact⟨k+K,[],s++(J++E),by have:=HRG.out;omega,rfl,by first|rfl|go_num,by simp,(fun x hx=>by cases hx),HX.out,OwnI.nil _ _,hfull.out⟩
          | false =>
            have hHt:H8=H:=by rw[←hCH,Bool.false_or]
            subst hHt
            clear hCH
            cases H8 with
            | true =>
              have hsl0:=SliceIs.own hown1
              have hfit:Fits op:=fun x hx=>by have:=HF.out x hx;omega
              have cJ:∀w',(Below wc.heap.size wc w'∧SliceIs w' (.slice a op.length cap) op)→Calls Tryz.prog 162 #[.int .i64 8,.bool true,.slice a op.length cap] w' fun e w''=>e=.returned (.string ⟨(joinL (togI op)).toArray⟩)∧Below w'.heap.size w' w'':=fun w' h=>by
                have:=joined_c 8 true op _ w' h.2 (by omega) hfit
                rw[show joinedI (decide ((8:Int)=8)&&true) op=togI op from rfl]at this
                exact this
              have htl:=togI_length op
              have hjl:=joinL_length (togI op)
              have hJL:Hid ((⟨(joinL (togI op)).toArray⟩:ByteArray).data.toList=joinL (togI op)):=Lib.hid rfl
              have hJs:(⟨(joinL (togI op)).toArray⟩:ByteArray).size≤1200:=by rw[←len_list];show(joinL (togI op)).length≤1200;omega
              generalize (⟨(joinL (togI op)).toArray⟩:ByteArray)=J at *
              have hes:(b.extract k (k+K)).size=K:=by rw[←len_list,HEX.out,List.length_take,List.length_drop,HZ.out];omega
              have cE:∀w',Calls Tryz.prog 163 #[.string (b.extract k (k+K))] w' fun e w''=>e=.returned (.string ⟨(escL ((b.data.toList.drop k).take K)).toArray⟩)∧Below w'.heap.size w' w'':=fun w'=>by
                refine(refEsc_c (b.extract k (k+K)) (by omega) w').mono ?_
                rintro e w'' ⟨⟨s9,rfl,h9⟩,hb9⟩
                refine⟨?_,hb9⟩
                rw[HEX.out]at h9
                rw[←h9]
              have hel:=escL_length ((b.data.toList.drop k).take K)
              have hEL:Hid ((⟨(escL ((b.data.toList.drop k).take K)).toArray⟩:ByteArray).data.toList=escL ((b.data.toList.drop k).take K)):=Lib.hid rfl
              have hEs:(⟨(escL ((b.data.toList.drop k).take K)).toArray⟩:ByteArray).size≤900:=by rw[←len_list];show(escL _).length≤900;rw[hel,List.length_take];omega
              generalize (⟨(escL ((b.data.toList.drop k).take K)).toArray⟩:ByteArray)=E at *
              have hn1:¬(9223372036854775807<J.size+E.size):=by omega
              have hn2:¬(9223372036854775807<s.size+(J++E).size):=by rw[ByteArray.size_append];omega
              have hn3:¬(9223372036854775807<s.size+(J.size+E.size)):=by omega
              have hS0:Below wc.heap.size wc wc∧SliceIs wc (.slice a op.length cap) op:=⟨Below.refl _ _,hsl0⟩
              have HX:Hid ((s++(J++E)).data.toList++presN 8 true (b.data.toList.drop (k+K)) []=total):=Lib.hid (by
                have h1:=HST.out
                rw[if_pos rfl,List.drop_drop]at h1
                rw[←HT.out,h1]
                simp only[ByteArray.data_append,Array.toList_append,hJL.out,hEL.out,escs_same]
                have h2:joinT true true op=togI op:=rfl
                rw[h2]
                simp)
              clear hjl hel hes hsl0 hown1 hbw hb1
              go_wp2_with fail
              go_region_held3 (fun w'=>Below wc.heap.size wc w'∧SliceIs w' (.slice a op.length cap) op) (first|assumption|exact keepS_drew ‹_›|exact keepS_step ‹_› ‹_›) (first|(go_at_call 162;refine(cJ _ (by assumption)).mono ?_;rintro e w' ⟨rfl,hb⟩)|(go_at_call 163;refine(cE _).mono ?_;rintro e w' ⟨rfl,hb⟩))
              all_goals
                have hbf:Below wc.heap.size wc _:=(‹Below wc.heap.size wc _∧SliceIs _ _ _›).1
                have hfull:Hid (Below w.heap.size w _):=Lib.hid (HBW.out.trans (hbf.mono HBS))
                clear hS0 hbf
                go_wp2
                go_roundg (b.size-(k+K))
                case measure=>have:=HRG.out;omega
                case rel=>exact⟨k+K,[],s++(J++E),by have:=HRG.out;omega,rfl,by first|rfl|go_num,by simp,(fun x hx=>by cases hx),HX.out,OwnI.nil _ _,hfull.out⟩
            | false =>
              have HRR:Hid (∀x∈op++[R],0≤x∧x≤1114111):=Lib.hid (fun x hx=>by
                rcases List.mem_append.1 hx with h|h
                · exact HF.out x h
                · have e:x=R:=by simpa using h
                  rw[e]
                  exact⟨HR0.out rfl,HRG.out.2.1⟩)
              have HX:Hid (s.data.toList++presN 8 true (b.data.toList.drop (k+K)) (op++[R])=total):=Lib.hid (by
                have h1:=HST.out
                rw[if_neg (by decide),List.drop_drop]at h1
                rw[←HT.out,h1])
              clear hbw
              have jc:(wc.alloc (.cells #[.int .i32 R] 21)).cell? ⟨wc.heap.size,0,none⟩=some (.int .i32 R):=World.cell?_alloc_at _ _ _ _ rfl
              go_wp2_with (at_builtin;refine wpList_append_own _ rfl _ _ 113 rfl w.heap.size 21 i0 (.int .i32 0) 1 4 Tryz.underlying113 hi0 hz0 hz1 hz2 rfl (by decide) _ _ _ rfl (hown1.alloc _) ⟨wc.heap.size,0,none⟩ 1 1 [.int .i32 R] rfl rfl (by intro j u hj;rcases j with _|j;(simp at hj;subst hj;exact jc);(simp at hj)) (by intro u hu;simp at hu;subst hu;rfl) (by unfold maxLen;omega) (by omega) (by simp;omega) ?_;intro v' w2 hown' hgrow _)
              have HO2:Hid (OwnI w.heap.size w2 v' (op++[R])):=Lib.hid (OwnI.more (ys:=[R]) hown' (by simp) (by simp))
              have HB2:Hid (Below w.heap.size w w2):=Lib.hid ((HBW.out.alloc HBS (.cells #[.int .i32 R] 21)).grown hgrow (by simp;omega) (fun j hj=>(hown1.lt j hj).1))
              clear hown' hgrow hown1
              go_wp2
              go_roundg (b.size-(k+K))
              case measure=>have:=HRG.out;omega
              case rel=>exact⟨k+K,op++[R],s,by have:=HRG.out;omega,rfl,by first|rfl|go_num,by have:=HRG.out;simp;omega,HRR.out,HX.out,HO2.out,HB2.out⟩
    · have hke:k=b.size:=by omega
      have hbs:=hbel.size
      have hlo:=hol
      have hsl0:=SliceIs.own HO.out
      have hfit:Fits op:=fun x hx=>by have:=HF.out x hx;omega
      have cJ:Calls Tryz.prog 162 #[.int .i64 8,.bool true,.slice a op.length cap] wr fun e w''=>e=.returned (.string ⟨(joinL (togI op)).toArray⟩)∧Below wr.heap.size wr w'':=by
        have:=joined_c 8 true op _ wr hsl0 (by omega) hfit
        rw[show joinedI (decide ((8:Int)=8)&&true) op=togI op from rfl]at this
        exact this
      have htl:=togI_length op
      have hjl:=joinL_length (togI op)
      have hJL:Hid ((⟨(joinL (togI op)).toArray⟩:ByteArray).data.toList=joinL (togI op)):=Lib.hid rfl
      have hJs:(⟨(joinL (togI op)).toArray⟩:ByteArray).size≤1200:=by rw[←len_list];show(joinL (togI op)).length≤1200;omega
      generalize (⟨(joinL (togI op)).toArray⟩:ByteArray)=J at *
      have hn1:¬(9223372036854775807<s.size+J.size):=by omega
      have HX:Hid ((s++J).data.toList=total):=Lib.hid (by
        have h1:=HT.out
        rw[hke,show b.data.toList.drop b.size=[] from List.drop_eq_nil_of_le (by rw[HZ.out];exact Nat.le_refl _),presN_nil]at h1
        rw[←h1]
        simp only[ByteArray.data_append,Array.toList_append,hJL.out]
        rfl)
      have hge:¬((k:Int)<(b.size:Int)):=by omega
      clear hke hlt hkg hsl0 hjl
      go_wp2_with fail
      refine cJ.mono ?_
      rintro e w2 ⟨rfl,hb2⟩
      go_wp2
      go_ret
      exact⟨⟨_,rfl,HX.out⟩,hbel.trans (hb2.mono hbs)⟩
theorem refPres_c (enc:Int)(h0:0≤enc)(h8:enc≤8)(b:ByteArray)(hs:b.size≤300)(w:World) :
    Calls Tryz.prog 123 #[.int .i64 enc,.string b] w fun e w'=>e=.returned (.string ⟨(presL enc b.data.toList).toArray⟩)∧Below w.heap.size w w':=by
  have h:Calls Tryz.prog 123 #[.int .i64 enc,.string b] w fun e w'=>(∃s:ByteArray,e=.returned (.string s)∧s.data.toList=presL enc b.data.toList)∧Below w.heap.size w w':=by
    by_cases h7:enc≤7
    · exact refPres_plain enc h0 h7 b hs w
    · have e:enc=8:=by omega
      subst e
      cases hg:regL b.data.toList with
      | true=>exact refPres_reg b hg hs w
      | false=>exact refPres_irr b hg hs w
  refine h.mono ?_
  rintro e w' ⟨⟨s,rfl,hs9⟩,hb⟩
  exact⟨by rw[←hs9],hb⟩
end Go.Proofs.YtfioknaadbgjlaaGreatDoor.F
