/- Kit. -/
import Derived.Test.YtdmkhmeaphaapaaGreatFS2
import Derived.Test.YtdmkhmeaphaapaaGreatFX4
import Derived.Laws.ResultCell
set_option maxRecDepth 100000
namespace Go.Proofs.YtdmkhmeaphaapaaGreat
open Go.RowKit Go.Sort
set_option linter.unusedVariables false
set_option linter.unusedSimpArgs false
theorem dev_size {B b:Nat}{W:World}{X:Int}(h:V.Dev B W b (V.stNew (V.sizeI X)))(h4:4≤X)(h9:X≤400):∃N,V.Dev B W b (V.stNew N)∧4≤N∧N≤400∧(N:Int)=X:=
  ⟨V.sizeI X,h,by unfold V.sizeI;omega,by unfold V.sizeI;omega,by unfold V.sizeI;omega⟩
set_option maxHeartbeats 16000000 in
theorem storeFull_c (S:StC)(M:Nat)(hM:M≤255)(v:Value)(l:List De)(w:World)(hv:DeTs w v l)(hl:l.length≤9223372036854775807)(hs:∀x∈l,x.s.size≤9223372036854775807∧x.ns.size≤9223372036854775807) :
    Calls Tryz.prog 4 #[.int .u8 (M:Int),v] w fun e w'=>e=.returned (.bool true)∧Below w.heap.size w w':=by
  obtain⟨a,cap,rfl⟩:=hv.len;obtain⟨R,hR⟩:∃R,fewDI l 60=R:=⟨_,rfl⟩;have cF:=fun W (h:DeTs W (.slice a l.length cap) l)=>few11_c (.slice a l.length cap) l 60 W h hl (by omega) hs
  rw[hR]at cF;obtain⟨m,hm⟩:∃n,l.length=n:=⟨_,rfl⟩;have HM:=Lib.hid hm;have HSZ:=Lib.hid hs;rw[hm]at hl hv ⊢;simp only[hm]at cF;have HV:=Lib.hid hv;have HR:=Lib.hid hR;have cA:=awake13_c S;clear hR hm hs hv;go_enter Tryz.func4,Tryz.ntmps4;cases R with
  | false =>
    go_wp2_with (first
      | (go_at_call 6;with_reducible refine(cA w).mono ?_;rintro e w1 ⟨rfl,hb1⟩)
      | (go_at_call 19;refine(cF _ (LstIs.kept HV.out hb1)).mono ?_;rintro e w2 ⟨rfl,hw2⟩;subst hw2)
      | (go_at_call 6;refine(cA _).mono ?_;rintro e w3 ⟨rfl,hb3⟩))
    go_ret;exact⟨rfl,hb1.trans (hb3.mono hb1.size)⟩
  | true =>
    go_upto_region 4 with(first
      | (go_at_call 6;refine(cA _).mono ?_;rintro e w1 ⟨rfl,hb1⟩)
      | (go_at_call 19;refine(cF _ (LstIs.kept HV.out hb1)).mono ?_;rintro e w1b ⟨rfl,hw1⟩;subst hw1)
      | (go_at_call 8;refine(V.new_c _ _).mono ?_;rintro e w2 ⟨b,rfl,hd,hb2,_⟩;obtain⟨N,hd,h4,h9,_⟩:=dev_size hd (by omega) (by omega);have cO:=opened13_c S hd h4 h9 hb2.size;have HB2:=Lib.hid hb2;clear hd)
      | (go_at_call 9;refine cO.mono ?_;rintro e w3 ⟨sb,t0,rfl,hl3,hlk,hb3,hp3⟩))
    have hm100:m≤60:=by rw[←HM.out];exact(fewDI_spec HR.out (by omega)).1
    have HL3:=Lib.hid hl3;have HT3:=Lib.hid (like_new hlk);have HB:Hid (Below w.heap.size w w3):=Lib.hid (hb1.trans ((HB2.out.trans hb3).mono hb1.size));have HBL:Hid (w.heap.size≤w1b.heap.size):=Lib.hid hb1.size;have HBB:Hid (w1b.heap.size≤w3.heap.size):=Lib.hid (HB2.out.trans hb3).size;generalize w1b.heap.size=B at *;clear hl3 hlk hb1 hb2 hb3 hp3 cA cF cO HB2;go_wp2;go_loopw [6] (fun iv wr=>∃(i:Nat) (t:TI) (rm:Int) (O:TI→Prop) (E:Nat),i≤m∧iv=.int .i64 i∧S.Live wr B b sb N t rm O false E∧t.2≤1+i∧E≤1+i∧B≤wr.heap.size∧Below w.heap.size w wr) (fun iv wr=>m-(intOf iv).toNat)
    case atStart=>exact⟨0,t0,_,_,1,by omega,rfl,HL3.out,by rw[HT3.out];decide,by omega,HBB.out,HB.out⟩
    case round =>
      clear HL3 HT3 HB HBB;obtain⟨i,t,rm,O,E,hi,rfl,hlv,ht,hE,hB,hb⟩:=hrel;by_cases him:i<m
      · have hiz:(i:Int)<(m:Int):=by omega
        obtain⟨o,ho⟩:∃o,l[i]?=some o:=⟨_,List.getElem?_eq_getElem (by rw[HM.out];omega)⟩;obtain⟨g,off,rfl,hg,hrg⟩:=HV.out.at ho;have HOC:Hid (∀W,Below w.heap.size w W→W.cell? ⟨g,off+i*7,none⟩=some (.int .i64 o.k)∧W.cell? ⟨g,off+i*7+1,none⟩=some (.int .i64 o.d)∧W.cell? ⟨g,off+i*7+2,none⟩=some (.int .i64 o.dt)∧W.cell? ⟨g,off+i*7+3,none⟩=some (.string o.s)∧W.cell? ⟨g,off+i*7+4,none⟩=some (.string o.ns)∧W.cell? ⟨g,off+i*7+5,none⟩=some (.bool o.isD)∧W.cell? ⟨g,off+i*7+6,none⟩=some (.int .i64 o.sh)):=Lib.hid (fun W hW=>by
          have h:=rangeAt_below hrg hg hW;exact⟨h 0 _ rfl,h 1 _ rfl,h 2 _ rfl,h 3 _ rfl,h 4 _ rfl,h 5 _ rfl,h 6 _ rfl⟩)
        have hss:=HSZ.out o (List.mem_of_getElem? ho);have cT:=S.tree hlv;have HLV:=Lib.hid hlv;clear hg hrg hlv ho;obtain⟨Q,hQ⟩:∃Q,sdoI t (((N/2:Nat):Int)-1) rm o=Q:=⟨_,rfl⟩;have hqn:=sdo_grow t (((N/2:Nat):Int)-1) rm o;have hqe:=sdo_err (a:=t) (sz:=((N/2:Nat):Int)-1) (rm:=rm) (x:=o);have cD:=fun W (h:S.Live W B b sb N t rm O false E) (hB:B≤W.heap.size)=>S.do' o h hss.1 hss.2 (by omega) (by omega) hB
        simp only[hQ]at hqn hqe cD;unfold deV at cD;go_upto_region 10 with(go_at_call 20;refine cT.mono ?_;rintro e w4 ⟨tb,S4,rfl,hi4,hs4,hb4⟩);have HB4:Hid (Below w.heap.size w w4):=Lib.hid (hb.trans (hb4.mono hb.size));have HL4:=Lib.hid (S.below HLV.out hb4);have hB4:B≤w4.heap.size:=Nat.le_trans hB hb4.size;have HS4:Hid (∀k,S4 k→B≤k):=Lib.hid (fun k hk=>Nat.le_trans hB (hs4 k hk));have HI4:=Lib.hid hi4;obtain⟨o0,o1,o2,o3,o4,o5,o6⟩:=HOC.out w4 HB4.out;clear hi4 hs4 hb4 cT HLV hb hB;by_cases hq:Q.2.2=0
        · go_wp2_with (go_at_call 14;refine(cD w4 HL4.out hB4).mono ?_;rintro e w5 ⟨hb5,hp5,O',E',hE',hO',⟨rfl,hl5⟩|⟨h0,_⟩⟩;rotate_left;· exact absurd h0 (by decide));go_roundw
          case rel=>exact⟨i+1,_,_,_,E',by omega,by first|rfl|go_num,hl5,by omega,by omega,Nat.le_trans hB4 hb5.size,HB4.out.trans (hb5.mono HBL.out)⟩
          case measure=>simp[intOf];omega
        · have hqt:=hqe hq;go_upto_region 11 with(go_at_call 14;refine(cD w4 HL4.out hB4).mono ?_;rintro e w5 ⟨hb5,hp5,O',E',hE',hO',⟨rfl,hl5⟩|⟨h0,_⟩⟩;rotate_left;· exact absurd h0 (by decide));have cT5:=S.tree hl5;have HL5:=Lib.hid hl5;have HB5:Hid (Below w.heap.size w w5):=Lib.hid (HB4.out.trans (hb5.mono HBL.out));have hB5:B≤w5.heap.size:=Nat.le_trans hB4 hb5.size;have HI5:=Lib.hid (theSpares HI4.out hp5 hb5.size);clear hl5 hb5 hp5 hO' HB4 HL4 HI4 HS4 o0 o1 o2 o3 o4 o5 o6 hB4 cD;go_wp2_with (first
            | (go_at_call 20;refine cT5.mono ?_;rintro e w6 ⟨tb6,S6,rfl,hi6,hs6,hb6⟩;rw[hqt]at hi6;have cS:=theSame (theTree.below HI5.out hb6) hi6)
            | (go_at_call 21;refine cS.mono ?_;rintro e w7 ⟨rfl,hb7⟩))
          go_roundw
          case rel=>exact⟨i+1,_,_,_,E',by omega,by first|rfl|go_num,S.below (S.below HL5.out hb6) hb7,by omega,by omega,Nat.le_trans hB5 (Nat.le_trans hb6.size hb7.size),HB5.out.trans ((hb6.trans (hb7.mono hb6.size)).mono HB5.out.size)⟩
          case measure=>simp[intOf];omega
      · have hiz:¬(i:Int)<(m:Int):=by omega
        have HBQ:=Lib.hid hb;go_wp2_with fail;go_ret;exact⟨rfl,HBQ.out⟩
end Go.Proofs.YtdmkhmeaphaapaaGreat
namespace Go.Proofs.YtdmkhmeaphaapaaGreat
open Go.RowKit Go.Sort
set_option linter.unusedVariables false
set_option linter.unusedSimpArgs false
def trC (p:Value×TI):List Value:=[p.1,.int .i64 p.2.2]
def TrsIs (w:World)(v:Value)(ts:List TI):Prop:=
  ∃ps:List (Value×TI),ps.map Prod.snd=ts∧LstIs trC 2 w v ps∧(∀p∈ps,ItmsT w p.1 p.2.1)∧∀g,v.ownBlock=some g→∃cs,w.heap[g]?=some (.cells cs 31 (0,0))
section
variable {w w':World}{v:Value}{ts:List TI}
theorem TrsIs.spares (h:TrsIs w v ts)(hk:Spares w w')(hs:w.heap.size≤w'.heap.size):TrsIs w' v ts:=by
  obtain⟨ps,h1,h2,h3,h4⟩:=h;refine⟨ps,h1,h2.only hs fun g hg=>?_,fun p hp=>(h3 p hp).spares hk hs,fun g hg=>?_⟩
  · obtain⟨cs,hc⟩:=h4 g hg;rw[hk _ (by simp[keepTs]) _ _ _ hc,hc]
  · obtain⟨cs,hc⟩:=h4 g hg;exact⟨cs,hk _ (by simp[keepTs]) _ _ _ hc⟩
theorem TrsIs.below (h:TrsIs w v ts)(hb:Below w.heap.size w w'):TrsIs w' v ts:=h.spares (Spares.ofBelow hb) hb.size
end
end Go.Proofs.YtdmkhmeaphaapaaGreat
namespace Go.Proofs.YtdmkhmeaphaapaaGreat
open Go.RowKit Go.Sort
set_option linter.unusedVariables false
structure OpX where
  x:De
  sync:Bool
  cut:Bool
  N:Int
  crash:Bool
  kv:Value
  l:List Int
def opxC (o:OpX):List Value:=deC o.x++[.bool o.sync,.bool o.cut,.int .i64 o.N,.bool o.crash,o.kv]
structure OpXIs (w:World)(g p:Nat)(o:OpX):Prop where
  cells:w.rangeAt g p (opxC o)
  nums:V.NumsIs w o.kv o.l
def OpXsIs (w:World)(v:Value)(l:List OpX):Prop:=
  (l=[]∧∃a cap,v=.slice a 0 cap) ∨
  (∃g off cap,g<w.heap.size∧v=.slice (some ⟨g,off,none⟩) l.length cap∧∀j o,l[j]?=some o→OpXIs w g (off+j*12) o)
theorem OpXIs.kept {w w':World}{g p:Nat}{o:OpX}(h:OpXIs w g p o)(hg:g<w.heap.size)(hb:Below w.heap.size w w'):OpXIs w' g p o:=
  ⟨rangeAt_below h.cells hg hb,V.NumsIs.kept h.nums hb⟩
theorem OpXsIs.kept {w w':World}{v:Value}{l:List OpX}(h:OpXsIs w v l)(hb:Below w.heap.size w w'):OpXsIs w' v l:=by
  rcases h with h|⟨g,off,cap,hg,hv,hc⟩
  · exact Or.inl h
  · exact Or.inr ⟨g,off,cap,by have:=hb.size;omega,hv,fun j o hj=>(hc j o hj).kept hg hb⟩
end Go.Proofs.YtdmkhmeaphaapaaGreat
namespace Go.Proofs.YtdmkhmeaphaapaaGreat
open Go.RowKit Go.Sort
set_option linter.unusedVariables false
set_option linter.unusedSimpArgs false
def OutIn (O:TI→Prop)(ts:List TI)(syn:Nat):Prop:=∀u,O u→∃j uj,syn≤j∧ts[j]?=some uj∧Like u uj
def LastIs (ts:List TI)(t:TI):Prop:=∃u,ts[ts.length-1]?=some u∧Like t u
section
variable {O O':TI→Prop}{ts:List TI}{syn:Nat}{t t' u:TI}
theorem LastIs.snoc (h:Like t u):LastIs (ts++[u]) t:=⟨u,by simp,h⟩
theorem OutIn.one (h:LastIs ts t)(hs:syn<ts.length):OutIn (Like t) ts syn:=fun u hu=>by
  obtain⟨v,h1,h2⟩:=h;exact⟨ts.length-1,v,by omega,h1,hu.symm.trans h2⟩
theorem OutIn.more (h:OutIn O ts syn)(r:List TI):OutIn O (ts++r) syn:=fun u hu=>by
  obtain⟨j,v,h1,h2,h3⟩:=h u hu;exact⟨j,v,h1,by rw[List.getElem?_append_left (List.getElem?_eq_some_iff.1 h2).1];exact h2,h3⟩
theorem OutIn.next (h:OutIn O ts syn)(hl:LastIs ts t)(hs:syn<ts.length)(hO:∀u,O' u→O u∨Like t u∨Like t' u)(hu:Like t' u):OutIn O' (ts++[u]) syn:=fun v hv=>by
  rcases hO v hv with h1|h1|h1
  · exact h.more [u] v h1
  · exact(OutIn.one hl hs).more [u] v h1
  · exact⟨ts.length,u,by omega,by simp,h1.symm.trans hu⟩
theorem OutIn.same (h:OutIn O ts syn)(hl:LastIs ts t)(hs:syn<ts.length)(hO:∀u,O' u→O u∨Like t u∨Like t u):OutIn O' ts syn:=fun v hv=>by
  rcases hO v hv with h1|h1|h1
  · exact h v h1
  · exact OutIn.one hl hs v h1
  · exact OutIn.one hl hs v h1
end
def TsOk (ts:List TI)(syn i:Nat):Prop:=syn<ts.length∧ts.length≤1+i∧∀u∈ts,GoodTI u∧u.2≤1+i
theorem TsOk.up {ts:List TI}{syn i j:Nat}(h:TsOk ts syn i)(hj:i≤j):TsOk ts syn j:=⟨h.1,by have:=h.2.1;omega,fun u hu=>⟨(h.2.2 u hu).1,by have:=(h.2.2 u hu).2;omega⟩⟩
theorem TsOk.snoc {ts:List TI}{syn i:Nat}{u:TI}(h:TsOk ts syn i)(hg:GoodTI u)(hu:u.2≤1+i+1):TsOk (ts++[u]) syn (i+1):=
  ⟨by have:=h.1;simp;omega,by have:=h.2.1;simp;omega,fun v hv=>by
    rcases List.mem_append.1 hv with h1|h1
    · exact(h.up (Nat.le_succ i)).2.2 v h1
    · rw[List.mem_singleton.1 h1];exact⟨hg,by omega⟩⟩
section
variable (S:StC)
def CrA (B b sb:Nat)(W:World)(ts:List TI)(syn:Nat)(T:TI)(rm:Int)(i:Nat):Prop:=
  ∃t O lm E,S.Live W B b sb 120 t rm O lm E∧OutIn O ts syn∧Like t T∧LastIs ts t∧E≤1+i∧GoodTI T∧T.2≤1+i
def CrD (B b sb:Nat)(W:World)(ts:List TI)(syn:Nat)(i:Nat):Prop:=
  ∃O E,S.Over W B b sb 120 O E∧OutIn O ts syn∧E≤1+i
def CrL (B b sb:Nat)(W:World)(ts:List TI)(syn:Nat)(T:TI)(rm:Int)(i:Nat):Prop:=CrA S B b sb W ts syn T rm i∨CrD S B b sb W ts syn i
variable {S}
variable {B b sb:Nat}{W W':World}{ts:List TI}{syn:Nat}{T:TI}{rm:Int}{i:Nat}
theorem CrA.off (h:CrA S B b sb W ts syn T rm i)(ho:Off refTs W W')(hs:W.heap.size≤W'.heap.size):CrA S B b sb W' ts syn T rm i:=by
  obtain⟨t,O,lm,E,h1,h2⟩:=h;exact⟨t,O,lm,E,S.off h1 ho hs,h2⟩
theorem CrD.off (h:CrD S B b sb W ts syn i)(ho:Off refTs W W')(hs:W.heap.size≤W'.heap.size):CrD S B b sb W' ts syn i:=by
  obtain⟨O,E,h1,h2⟩:=h;exact⟨O,E,S.offO h1 ho hs,h2⟩
theorem CrL.off (h:CrL S B b sb W ts syn T rm i)(ho:Off refTs W W')(hs:W.heap.size≤W'.heap.size):CrL S B b sb W' ts syn T rm i:=h.imp (fun h=>h.off ho hs) (fun h=>h.off ho hs)
theorem CrA.below (h:CrA S B b sb W ts syn T rm i)(hb:Below W.heap.size W W'):CrA S B b sb W' ts syn T rm i:=h.off (off_below hb _) hb.size
theorem CrD.below (h:CrD S B b sb W ts syn i)(hb:Below W.heap.size W W'):CrD S B b sb W' ts syn i:=h.off (off_below hb _) hb.size
theorem CrL.below (h:CrL S B b sb W ts syn T rm i)(hb:Below W.heap.size W W'):CrL S B b sb W' ts syn T rm i:=h.off (off_below hb _) hb.size
end
end Go.Proofs.YtdmkhmeaphaapaaGreat
