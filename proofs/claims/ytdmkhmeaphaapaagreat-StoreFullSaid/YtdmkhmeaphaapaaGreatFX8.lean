/- Kit. -/
import Derived.Test.YtdmkhmeaphaapaaGreatFX5
import Derived.Test.YtdmkhmeaphaapaaGreatFX6
import Derived.Test.YtdmkhmeaphaapaaGreatFQH
import Derived.Test.YtdmkhmeaphaapaaGreatFX1
import Derived.Test.YtdmkhmeaphaapaaGreatFX7
import Derived.Carry
set_option maxRecDepth 100000
namespace Go.Proofs.YtdmkhmeaphaapaaGreat
open Go.RowKit Go.Sort
set_option linter.unusedVariables false
set_option linter.unusedSimpArgs false
theorem theListT {w:World}{b:Nat}{l:List Itm}{nx:Int}{S:Nat→Prop}(h:theTree.Is w b l nx S){d:Int}(hd:kindI l d=2) :
    Calls Tryz.prog 68 #[ptrV b,.int .i64 d] w fun e w'=>∃v,e=.returned (.tuple #[v,.int .i64 0])∧w'.ownsRow w.heap.size 112 5 v (entsI l d).length ((entsI l d).flatMap entC)∧Below w.heap.size w w':=by
  obtain⟨R,u,v,ys,hm,ho,hg,_⟩:=h;have h:=treeListT_c hm (fun n hn=>Nat.le_trans (hg.elen n) (by omega)) d;unfold TListOwn tListI at h;rw[hg.open']at h;have hE:listE l d=0:=by
    unfold listE;rw[if_neg (by rw[hd];decide),if_neg (by rw[hd];decide)]
  obtain⟨n,rfl,_,_⟩:=hg.dir hE;rw[hE,if_pos rfl,Int.toNat_natCast]at h;exact h
theorem theDirsT {w:World}{b:Nat}{l:List Itm}{nx:Int}{S:Nat→Prop}(h:theTree.Is w b l nx S) :
    Calls Tryz.prog 64 #[ptrV b] w fun e w'=>∃v,e=.returned v∧w'.ownsRow w.heap.size 3 1 v (dirsI l).length ((dirsI l).flatMap numC)∧Below w.heap.size w w':=by
  obtain⟨R,u,v,ys,hm,ho,hg,_⟩:=h;have h:=treeDirsT_c hm;unfold TDirsOwn at h;rw[dirsK_to]at h;exact h
theorem own_fit {l:List Itm}{nx:Int}(h:GoodT l nx)(hx:nx≤9223372036854775807){d:Int×List Ent}(hd:d∈dirsOf l):DirFit d:=by
  refine⟨(img_ok h (by omega)).2.2 d hd,fun e he=>?_⟩;unfold dirsOf at hd;obtain⟨q,hq,rfl⟩:=List.mem_map.1 hd;obtain⟨x,hx2,_,rfl⟩:=mem_entsI.1 he;have h3:=h.cook x hx2;omega
structure EncI (w:World)(bw:Nat)(u:List UInt8)(W:World):Prop where
  wr:WrB IW bw bw (Lib.byteCells u) W
  b:Below bw w W
  s:bw≤W.heap.size
section
variable {w W W':World}{bw:Nat}{u:List UInt8}
theorem EncI.step (h:EncI w bw u W){u':List UInt8}{e:Ending}(hp:WrPost IW bw bw W u' e W'):e=.returned (.tuple #[])∧EncI w bw u' W'∧FrB IW W W':=
  ⟨hp.1,⟨hp.2.1,h.b.trans hp.2.2.1,Nat.le_trans h.s hp.2.2.1.size⟩,hp.2.2.2⟩
theorem EncI.below (h:EncI w bw u W)(hb:Below W.heap.size W W'):EncI w bw u W':=⟨h.wr.below hb,h.b.trans (hb.mono h.s),Nat.le_trans h.s hb.size⟩
theorem EncI.num (h:EncI w bw u W)(z kk:Int)(k:Nat)(hk:kk=(k:Int))(hk8:k≤8)(hz:0≤z∧z≤9223372036854775807)(hu:u.length≤1000000) :
    Calls Tryz.prog 75 #[ptV bw,.int .i64 z,.int .i64 kk] W fun e w'=>e=.returned (.tuple #[])∧EncI w bw (u++beB z.toNat k) w'∧FrB IW W w':=by
  subst hk;have h9:=number_c hasIW bw bw z.toNat k u W h.wr (by omega) hk8 hu h.s;rw[show((z.toNat:Nat):Int)=z by omega]at h9;exact h9.mono fun e w' hp=>h.step hp
end
set_option maxHeartbeats 8000000 in
theorem encode_c {w:World}{b:Nat}{l:List Itm}{nx:Int}{S:Nat→Prop}(h:theTree.Is w b l nx S)(hx:nx≤9223372036854775807) :
    Calls Tryz.prog 72 #[ptrV b] w fun e w'=>e=.returned (.string ⟨(imgI l nx).toArray⟩)∧Below w.heap.size w w':=by
  have hgood:=theGood h;have hshort:=img_short hgood;have hnx:=theTree.next h;obtain⟨L,hL⟩:∃L,imgI l nx=L:=⟨_,rfl⟩;have HFIT:Hid (∀d∈dirsOf l,DirFit d):=Lib.hid fun d hd=>own_fit hgood hx hd
  have HKD:Hid (∀q∈dirsI l,kindI l q=2):=Lib.hid fun q hq=>(dirsI_mem.1 hq).2
  have HRG:Hid (∀q∈dirsI l,0≤q∧q≤200):=Lib.hid fun q hq=>dirsI_range hq
  rw[hL]at hshort ⊢;unfold imgI imgB at hL;have hdl:(dirsOf l).length=(dirsI l).length:=by unfold dirsOf;rw[List.length_map]
  rw[hdl]at hL;obtain⟨n,hn⟩:∃n,(dirsI l).length=n:=⟨_,rfl⟩;have hn1:n≤201:=by rw[←hn];exact dirsTo_le l 201
  rw[hn]at hL;have hlen:=congrArg List.length hL;simp only[List.length_append,beB_len]at hlen;have HL:=Lib.hid hL;have HN:=Lib.hid hn;have HLEN:Hid (((dirsOf l).flatMap dirsB).length≤60000):=Lib.hid (by omega);have HT:Hid (∀W,Below w.heap.size w W→theTree.Is W b l nx S):=Lib.hid fun W hW=>theTree.below h hW
  have HE0:Hid (EncI w w.heap.size [] (w.alloc (.cells #[.pointer none,.slice none 0 0] 197))):=Lib.hid
    ⟨Or.inl ⟨Nat.le_refl _,.slice none 0 0,heap_alloc_new w _,World.ownsRow_nil _ _ _ _,by simp[Value.ownBlock]⟩,(Below.refl _ _).alloc (Nat.le_refl _) _,by simp⟩
  have cC:=theCook (HT.out _ HE0.out.b);clear h hgood hshort hL hdl hlen hn;go_enter Tryz.func72,Tryz.ntmps72;go_upto_region 2 with fail;generalize (w.alloc (.cells #[.pointer none,.slice none 0 0] 197))=W0 at *;obtain⟨bw,hbw⟩:∃bw,w.heap.size=bw:=⟨_,rfl⟩;rw[hbw]at HE0 HT ⊢;have HBW:=Lib.hid hbw;clear hbw;go_upto_region 3 with(first
    | (go_at_call 66;refine cC.mono ?_;rintro e w1 ⟨rfl,rfl⟩)
    | (go_at_call 75;(with_reducible refine(HE0.out.num _ 8 8 rfl (by omega) (by omega) (by simp)).mono ?_);rintro e w2 ⟨rfl,he,_⟩;have HE:=Lib.hid he;clear he))
  clear cC;have cD:=theDirsT (HT.out _ HE.out.b);have cD2:=HN.out;rw[cD2]at cD;go_upto_region 4 with(go_at_call 64;refine cD.mono ?_;rintro e w3 ⟨v3,rfl,ho3,hb3⟩;obtain⟨a3,c3,hv3⟩:=ownsRow_slice ho3;have HE:=Lib.hid (HE.out.below hb3);have HO3:=Lib.hid ho3;clear ho3 hb3;subst hv3);clear cD;go_upto_region 5 with(go_at_call 75;(with_reducible refine(HE.out.num _ 2 2 rfl (by omega) (by omega) (by simp only[List.length_append,beB_len,List.length_nil];omega)).mono ?_);rintro e w4 ⟨rfl,he,hf4⟩;have HE:=Lib.hid he;have HO4:=Lib.hid (row_fr (T:=IW) (T0:=3) hf4 (by decide) (by decide) HO3.out);clear he hf4);have hu4:([]:List UInt8)++beB nx.toNat 8++beB (Int.toNat (n:Int)) 2=beB nx.toNat 8++beB n 2:=by simp
  rw[hu4]at HE;clear hu4 HO3;obtain⟨B3,hB3⟩:∃B3,w2.heap.size=B3:=⟨_,rfl⟩;rw[hB3]at HO4;have HAT:Hid (∀(W:World) (i:Nat) (x:Int),W.ownsRow B3 3 1 (.slice a3 n c3) n ((dirsI l).flatMap numC)→(dirsI l)[i]?=some x→∃g off,a3=some ⟨g,off,none⟩∧g<W.heap.size∧W.rangeAt g (off+i*1) (numC x)):=Lib.hid fun W i x hW hi=>LstIs.at (LstIs.own (numC_len _) hW HN.out.symm) hi
  go_wp2_with fail;go_loopw [21] (fun iv wr=>∃i:Nat,i≤n∧iv=.int .i64 i∧EncI w bw (beB nx.toNat 8++beB n 2++((dirsOf l).take i).flatMap dirsB) wr∧wr.ownsRow B3 3 1 (.slice a3 n c3) n ((dirsI l).flatMap numC)) (fun iv _=>n-(intOf iv).toNat)
  case atStart=>exact⟨0,by omega,rfl,by simpa using HE.out,HO4.out⟩
  case round =>
    obtain⟨i,hi,rfl,he,ho⟩:=hrel;have HE:=Lib.hid he;have HO:=Lib.hid ho;clear he ho;by_cases him:i<n
    · have hiz:(i:Int)<(n:Int):=by omega
      have hi0:(0:Int)≤(i:Int):=by omega
      obtain⟨q,hq⟩:∃q,(dirsI l)[i]?=some q:=⟨_,List.getElem?_eq_getElem (by rw[HN.out];omega)⟩;have hqm:=List.mem_of_getElem? hq;obtain⟨g,off,rfl,hg,hr⟩:=HAT.out wr i q HO.out hq;have d0:=num_at hr;rw[Nat.mul_one]at d0;have hd:(dirsOf l)[i]?=some (q,entsI l q):=by
        unfold dirsOf;rw[List.getElem?_map,hq];rfl
      have HFX:=Lib.hid (HFIT.out _ (List.mem_of_getElem? hd));have HTK:=Lib.hid (flatB_take (f:=dirsB) hd);have hle:=flatB_take_le dirsB (dirsOf l) (i+1);rw[HTK.out,List.length_append]at hle;have hln:((beB nx.toNat 8++beB n 2)++((dirsOf l).take i).flatMap dirsB).length+(dirsB (q,entsI l q)).length≤900000:=by
        have:=HLEN.out;simp only[List.length_append,beB_len];omega
      have cL:=theListT (HT.out wr (by first|exact HE.out.b|(rw[HBW.out];exact HE.out.b))) (HKD.out q hqm);have cW:Hid (∀(W:World) (B2:Nat) (v:Value),EncI w bw (beB nx.toNat 8++beB n 2++((dirsOf l).take i).flatMap dirsB) W→W.ownsRow B2 112 5 v (entsI l q).length ((entsI l q).flatMap entC)→Calls Tryz.prog 113 #[ptV bw,.agg #[.int .i64 q,v]] W fun e w'=>e=.returned (.tuple #[])∧EncI w bw (beB nx.toNat 8++beB n 2++((dirsOf l).take (i+1)).flatMap dirsB) w'∧FrB IW W w'):=Lib.hid fun W B2 v hW hv=>by
        rw[HTK.out,←List.append_assoc];exact(wdir_c bw bw q v B2 (entsI l q) _ W hW.wr hv HFX.out hln hW.s).mono fun e w' hp=>hW.step hp
      clear hr hq hqm hd hle hln;go_wp2_with (first
        | (go_at_call 68;refine cL.mono ?_;rintro e w5 ⟨v5,rfl,ho5,hb5⟩;obtain⟨a5,c5,hv5⟩:=ownsRow_slice ho5;have HE5:=Lib.hid (HE.out.below hb5);have HR5:=Lib.hid ho5;have HO5:=Lib.hid (row_fr (T:=IW) (T0:=3) (FrB.below hb5) (by decide) (by decide) HO.out);clear ho5 hb5;subst hv5)
        | (go_at_call 113;refine(cW.out _ _ _ HE5.out HR5.out).mono ?_;rintro e w6 ⟨rfl,he6,hf6⟩;have HE6:=Lib.hid he6;have HO6:=Lib.hid (row_fr (T:=IW) (T0:=3) hf6 (by decide) (by decide) HO5.out);clear he6 hf6))
      go_roundw
      case rel=>exact⟨i+1,by omega,by first|rfl|go_num,HE6.out,HO6.out⟩
      case measure=>simp[intOf];omega
    · have hiz:¬(i:Int)<(n:Int):=by omega
      have HA:Hid ((dirsOf l).take i=dirsOf l):=Lib.hid (List.take_of_length_le (by unfold dirsOf;rw[List.length_map,HN.out];omega));rw[HA.out]at HE;have hfin:beB nx.toNat 8++beB n 2++(dirsOf l).flatMap dirsB=L:=by
        rw[←HL.out];simp only[List.append_assoc]
      rw[hfin]at HE;have cT:=wtext_c bw bw L wr HE.out.wr HE.out.s;clear hfin;go_wp2_with (go_at_call 78;refine cT.mono ?_;rintro e w7 ⟨rfl,hb7⟩;have HB7:=Lib.hid hb7;clear hb7);go_ret;exact⟨rfl,by first|exact HE.out.b.trans HB7.out|(rw[HBW.out];exact HE.out.b.trans HB7.out)⟩
end Go.Proofs.YtdmkhmeaphaapaaGreat
namespace Go.Proofs.YtdmkhmeaphaapaaGreat
open Go.RowKit Go.Sort
set_option linter.unusedVariables false
set_option linter.unusedSimpArgs false
structure RS where
  l:List UInt8
  p:Bool
def RS.num (k:Nat)(r:RS):RS:=⟨r.l.drop k,r.p||decide (r.l.length<k)⟩
def RS.nam (r:RS):RS:=⟨nmR r.l,r.p||nmP r.l⟩
def entR (r:RS):Ent×RS:=
  (⟨nmL r.l,(rdN 2 r.nam.l:Int),decide (rdN 1 (r.nam.num 2).l=1),valI 8 ((r.nam.num 2).num 1).l,(rdN 4 (((r.nam.num 2).num 1).num 8).l:Int)⟩,(((r.nam.num 2).num 1).num 8).num 4)
section
variable {α:Type}
def sevGo (R:RS→α×RS):Nat→RS→List α×RS
  | 0,r=>([],r)
  | n+1,r=>if r.p=true then([],r) else((R r).1::(sevGo R n (R r).2).1,(sevGo R n (R r).2).2)
def sevR (R:RS→α×RS)(r:RS):List α×RS:=sevGo R (rdN 2 r.l) (r.num 2)
end
def dirR (r:RS):(Int×List Ent)×RS:=(((rdN 2 r.l:Int),(sevR entR (r.num 2)).1),(sevR entR (r.num 2)).2)
def cookR (b:List UInt8):Int:=valI 8 b
def dirsR (b:List UInt8):List (Int×List Ent):=(sevR dirR (RS.num 8 ⟨b,false⟩)).1
theorem num_le (k:Nat)(r:RS):(r.num k).l.length≤r.l.length:=by
  unfold RS.num;simp only[List.length_drop];omega
theorem nam_le (r:RS):r.nam.l.length≤r.l.length:=by
  unfold RS.nam nmR;simp only[List.length_drop];omega
theorem entR_le (r:RS):(entR r).2.l.length≤r.l.length:=
  Nat.le_trans (num_le 4 _) (Nat.le_trans (num_le 8 _) (Nat.le_trans (num_le 1 _) (Nat.le_trans (num_le 2 _) (nam_le r))))
theorem sevGo_le {α:Type}{R:RS→α×RS}(hR:∀r,(R r).2.l.length≤r.l.length):∀n r,(sevGo R n r).2.l.length≤r.l.length
  | 0,r=>Nat.le_refl _
  | n+1,r=>by
    unfold sevGo;split
    · exact Nat.le_refl _
    · exact Nat.le_trans (sevGo_le hR n _) (hR r)
theorem sevGo_len {α:Type}{R:RS→α×RS}:∀n r,(sevGo R n r).1.length≤n
  | 0,r=>Nat.le_refl _
  | n+1,r=>by
    unfold sevGo;split
    · exact Nat.zero_le _
    · have:=sevGo_len (R:=R) n (R r).2;simp only[List.length_cons];omega
theorem sevGo_mem {α:Type}{R:RS→α×RS}{P:α→Prop}(hR:∀r,(R r).2.l.length≤r.l.length)(m:Nat)(hP:∀r,r.l.length≤m→P (R r).1):∀n r,r.l.length≤m→∀x∈(sevGo R n r).1,P x
  | 0,r,_,x,hx=>absurd hx (by simp[sevGo])
  | n+1,r,hm,x,hx=>by
    unfold sevGo at hx;split at hx
    · exact absurd hx (by simp)
    · rcases List.mem_cons.1 hx with rfl|hx
      · exact hP r hm
      · exact sevGo_mem hR m hP n _ (Nat.le_trans (hR r) hm) x hx
theorem sevR_le {α:Type}{R:RS→α×RS}(hR:∀r,(R r).2.l.length≤r.l.length)(r:RS):(sevR R r).2.l.length≤r.l.length:=Nat.le_trans (sevGo_le hR _ _) (num_le 2 r)
theorem dirR_le (r:RS):(dirR r).2.l.length≤r.l.length:=Nat.le_trans (sevR_le entR_le _) (num_le 2 r)
theorem sevR_len {α:Type}{R:RS→α×RS}(r:RS):(sevR R r).1.length≤65535:=by
  have h1:=sevGo_len (R:=R) (rdN 2 r.l) (r.num 2);have h2:=rdN_lt 2 r.l;show(sevGo R _ _).1.length≤_
  omega
theorem nmL_size (l:List UInt8):(nmL l).size≤l.length:=by
  show(nmL l).data.size≤_
  unfold nmL;rw[←Array.length_toList];simp only[List.length_take,List.length_drop];omega
theorem dir_names (r:RS)(h:r.l.length≤100000):∀e∈(dirR r).1.2,e.name.size≤9223372036854775807:=by
  intro e he;exact sevGo_mem (P:=fun e:Ent=>e.name.size≤9223372036854775807) entR_le 100000 (fun r hr=>by have:=nmL_size r.l;show(nmL r.l).size≤_;omega) _ _ (Nat.le_trans (num_le 2 _) (Nat.le_trans (num_le 2 r) h)) e he
def stG (ds:List (Int×List Ent)):DirsG:=ds.foldl (fun G d=>fun q=>if q=d.1 then some d.2 else G q) fun _=>none
theorem stG_snoc (ds:List (Int×List Ent))(d:Int×List Ent):stG (ds++[d])=fun q=>if q=d.1 then some d.2 else stG ds q:=by
  unfold stG;rw[List.foldl_append];rfl
theorem stG_mem:∀(n:Nat) (ds:List (Int×List Ent)),ds.length=n→∀{q:Int} {es:List Ent},stG ds q=some es→(q,es)∈ds
  | 0,ds,hn,q,es,h=>by
    obtain rfl:=List.eq_nil_of_length_eq_zero hn;exact absurd h (by simp[stG])
  | n+1,ds,hn,q,es,h=>by
    obtain⟨ds',d,rfl⟩:∃ds' d,ds=ds'++[d]:=⟨ds.dropLast,ds.getLast (by intro e;rw[e]at hn;exact absurd hn (by simp)),(List.dropLast_concat_getLast _).symm⟩;rw[stG_snoc]at h;simp only at h;rw[List.length_append,List.length_singleton]at hn;split at h
    · rename_i hq;obtain rfl:=Option.some.inj h;rw[hq];exact List.mem_append_right _ (List.mem_singleton.2 rfl)
    · exact List.mem_append_left _ (stG_mem n ds' (by omega) h)
theorem stG_some:∀(n:Nat) (ds:List (Int×List Ent)),ds.length=n→∀{q:Int},(∃d∈ds,d.1=q)→(stG ds q).isSome=true
  | 0,ds,hn,q,⟨d,hd,_⟩=>by
    obtain rfl:=List.eq_nil_of_length_eq_zero hn;exact absurd hd (by simp)
  | n+1,ds,hn,q,⟨e,he,hq⟩=>by
    obtain⟨ds',d,rfl⟩:∃ds' d,ds=ds'++[d]:=⟨ds.dropLast,ds.getLast (by intro e;rw[e]at hn;exact absurd hn (by simp)),(List.dropLast_concat_getLast _).symm⟩;rw[stG_snoc];rw[List.length_append,List.length_singleton]at hn;simp only;split
    · rfl
    · rename_i hne;rcases List.mem_append.1 he with h|h
      · exact stG_some n ds' (by omega) ⟨e,h,hq⟩
      · obtain rfl:=List.mem_singleton.1 h;exact absurd hq.symm hne
theorem stG_own (l:List Itm):stG (dirsOf l)=ownG l:=by
  funext q;unfold ownG;by_cases h:q∈dirsI l
  · rw[if_pos h];have h1:=stG_some _ (dirsOf l) rfl (q:=q) ⟨(q,entsI l q),List.mem_map.2 ⟨q,h,rfl⟩,rfl⟩;obtain⟨es,he⟩:=Option.isSome_iff_exists.1 h1;have h2:=stG_mem _ _ rfl he;unfold dirsOf at h2;obtain⟨q',_,h3⟩:=List.mem_map.1 h2;obtain⟨rfl,rfl⟩:=Prod.mk.inj h3;exact he
  · rw[if_neg h];cases he:stG (dirsOf l) q with
    | none=>rfl
    | some es =>
      have h2:=stG_mem _ _ rfl he;unfold dirsOf at h2;obtain⟨q',h4,h3⟩:=List.mem_map.1 h2;obtain⟨rfl,rfl⟩:=Prod.mk.inj h3;exact absurd h4 h
theorem small_read (b:List UInt8)(h:b.length≤100000):SmallG (stG (dirsR b)):=by
  have key:∀d∈dirsR b,d.2.length≤100000∧∀e∈d.2,e.name.size≤9223372036854775807:=
    sevGo_mem (P:=fun d:Int×List Ent=>d.2.length≤100000∧∀e∈d.2,e.name.size≤9223372036854775807) dirR_le 100000
      (fun r hr=>⟨by have:=sevR_len (R:=entR) (r.num 2);show(sevR entR (r.num 2)).1.length≤_;omega,dir_names r hr⟩) _ _ (Nat.le_trans (num_le 2 _) (Nat.le_trans (num_le 8 _) h))
  exact⟨fun q es he=>(key _ (stG_mem _ _ rfl he)).1,fun q es he=>(key _ (stG_mem _ _ rfl he)).2⟩
theorem rd_beB (n k:Nat)(h:n<256^k)(r:List UInt8):rdN k (beB n k++r)=n:=by
  rw[rd_val,beB_take,val_beB n k h]
theorem num_exact (n k:Nat)(r:List UInt8):RS.num k ⟨beB n k++r,false⟩=⟨r,false⟩:=by
  unfold RS.num;simp only[beB_drop,List.length_append,beB_len,Bool.false_or];rw[decide_eq_false (by omega)]
theorem nam_exact (s:ByteArray)(hs:s.size<256)(r:List UInt8):RS.nam ⟨nameB s++r,false⟩=⟨r,false⟩:=by
  unfold RS.nam nmP;have hl:((nameB s++r).drop 1).length=s.size+r.length:=by
    rw[List.length_drop,List.length_append,nameB_len];omega
  have hr:rdN 1 (nameB s++r)=s.size:=by
    unfold nameB;rw[List.append_assoc,rd1 _ hs]
  simp only[nm_r s hs,hl,hr,Bool.false_or];rw[decide_eq_false (by rw[List.length_append,nameB_len];omega),decide_eq_false (by omega)];rfl
theorem val8 (n:Nat)(h:n≤9223372036854775807)(r:List UInt8):valI 8 (beB n 8++r)=(n:Int):=by
  unfold valI;rw[rd_beB n 8 (by omega),IntWalk.wrap64_in _ (by omega)]
theorem ent_exact (e:Ent)(h:EntFit e)(r:List UInt8):entR ⟨entY e++r,false⟩=(e,⟨r,false⟩):=by
  obtain⟨⟨k1,⟨k2,k3⟩,⟨k4,k5⟩,⟨k6,k7⟩⟩,k8⟩:=h;obtain⟨s,n,d,c,q⟩:=e;simp only at k1 k2 k3 k4 k5 k6 k7 k8;obtain⟨n,rfl⟩:∃m:Nat,n=m:=⟨n.toNat,by omega⟩;obtain⟨c,rfl⟩:∃m:Nat,c=m:=⟨c.toNat,by omega⟩;obtain⟨q,rfl⟩:∃m:Nat,q=m:=⟨q.toNat,by omega⟩;have hb:boolN d<2:=by unfold boolN;split<;>omega
  unfold entR entY;simp only[Int.toNat_natCast,List.append_assoc];rw[nam_exact s k1,num_exact,num_exact,num_exact,num_exact];simp only;rw[nm_l s k1,rd2 n (by omega),rd1 _ (by omega),val8 c (by omega),rd4 q (by omega)];cases d<;>simp[boolN]
theorem sev_exact {α:Type}{R:RS→α×RS}{B:α→List UInt8}(xs:List α)(hR:∀x∈xs,∀r,R ⟨B x++r,false⟩=(x,⟨r,false⟩))(r:List UInt8):sevGo R xs.length ⟨xs.flatMap B++r,false⟩=(xs,⟨r,false⟩):=by
  induction xs with
  | nil=>rfl
  | cons x xs ih =>
    rw[List.flatMap_cons,List.append_assoc,List.length_cons];unfold sevGo;rw[if_neg (by simp),hR x (List.mem_cons_self ..)];simp only;rw[ih fun y hy=>hR y (List.mem_cons_of_mem _ hy)]
theorem sevR_exact {α:Type}{R:RS→α×RS}{B:α→List UInt8}(xs:List α)(hl:xs.length<65536)(hR:∀x∈xs,∀r,R ⟨B x++r,false⟩=(x,⟨r,false⟩))(r:List UInt8):sevR R ⟨beB xs.length 2++(xs.flatMap B++r),false⟩=(xs,⟨r,false⟩):=by
  unfold sevR;rw[num_exact];simp only;rw[rd2 _ hl,sev_exact xs hR r]
theorem dir_exact (d:Int×List Ent)(h:DirOk d)(hc:∀e∈d.2,e.cookie≤9223372036854775807)(r:List UInt8):dirR ⟨dirsB d++r,false⟩=(d,⟨r,false⟩):=by
  obtain⟨⟨k1,k2⟩,k3,o⟩:=h;obtain⟨q,es⟩:=d;simp only at k1 k2 k3 o hc;obtain⟨q,rfl⟩:∃m:Nat,q=m:=⟨q.toNat,by omega⟩;unfold dirR dirsB;simp only[Int.toNat_natCast,List.append_assoc];rw[num_exact,sevR_exact es k3 (fun e he r=>ent_exact e ⟨o e he,hc e he⟩ r)];simp only;rw[rd2 q (by omega)]
theorem img_exact {nx:Int}{ds:List (Int×List Ent)}(h:ImgOk nx ds)(hx:nx≤9223372036854775807)(hc:∀d∈ds,∀e∈d.2,e.cookie≤9223372036854775807):cookR (imgB nx ds)=nx∧dirsR (imgB nx ds)=ds:=by
  obtain⟨⟨k1,_⟩,k3,o⟩:=h;obtain⟨c,rfl⟩:∃m:Nat,nx=m:=⟨nx.toNat,by omega⟩;unfold cookR dirsR imgB;simp only[Int.toNat_natCast];refine⟨val8 c (by omega) _,?_⟩;rw[num_exact];have h9:=sevR_exact (R:=dirR) (B:=dirsB) ds k3 (fun d hd r=>dir_exact d (o d hd) (hc d hd) r) [];rw[List.append_nil]at h9;rw[h9]
theorem own_cook {l:List Itm}{nx:Int}(h:GoodT l nx)(hx:nx≤9223372036854775807):∀d∈dirsOf l,∀e∈d.2,e.cookie≤9223372036854775807:=by
  intro d hd e he;unfold dirsOf at hd;obtain⟨q,hq,rfl⟩:=List.mem_map.1 hd;obtain⟨x,hx2,_,rfl⟩:=mem_entsI.1 he;have h3:=h.cook x hx2;omega
theorem own_read {l:List Itm}{nx:Int}(h:GoodT l nx)(hx:nx≤9223372036854775807):cookR (imgI l nx)=nx∧dirsR (imgI l nx)=dirsOf l:=
  img_exact (img_ok h (by omega)) hx (own_cook h hx)
theorem twin_img {l l':List Itm}{nx nx':Int}(h:GoodT l nx)(h':GoodT l' nx')(hx:nx≤9223372036854775807)(hx':nx'≤9223372036854775807)(he:imgI l' nx'=imgI l nx):nx'=nx∧dirsI l'=dirsI l∧Twin l l':=by
  obtain⟨e1,e2⟩:=img_inj (img_ok h' (by omega)) (img_ok h (by omega)) he;have hd:dirsI l'=dirsI l:=by
    have:=congrArg (List.map Prod.fst) e2;unfold dirsOf at this;rw[List.map_map,List.map_map]at this;simpa[Function.comp_def]using this
  refine⟨e1,hd,⟨fun q=>?_⟩⟩;by_cases hq:q∈dirsI l
  · have h1:(q,entsI l' q)∈dirsOf l:=by
      rw[←e2];exact List.mem_map.2 ⟨q,by rw[hd];exact hq,rfl⟩
    obtain⟨q2,_,h2⟩:=List.mem_map.1 h1;obtain⟨rfl,h3⟩:=Prod.mk.inj h2;exact h3.symm
  · have key:∀{m:List Itm} {c:Int},GoodT m c→q∉dirsI m→entsI m q=[]:=fun {m c} hg hn=>by
      apply List.eq_nil_iff_forall_not_mem.2;intro e he;obtain⟨x,hx2,hxi,_⟩:=mem_entsI.1 he;exact hn (hg.dirs.2 (by rw[←hxi];exact hg.inn x hx2))
    rw[key h hq,key h' (by rw[hd];exact hq)]
theorem own_make {l:List Itm}{nx:Int}(h:GoodT l nx):1≤nx∧(fillAll (stG (dirsOf l)) nx).1=true∧(fillAll (stG (dirsOf l)) nx).2.2=(dirsOf l).length:=by
  rw[stG_own];have h1:=made_yes (own_formed h) (own_supp l) (dirsI_nodup l);refine⟨h.nx1,h1.1,?_⟩;rw[h1.2,own_there];unfold dirsOf;rw[List.length_map]
end Go.Proofs.YtdmkhmeaphaapaaGreat
namespace Go.Proofs.YtdmkhmeaphaapaaGreat
open Go.RowKit Go.Sort
set_option linter.unusedVariables false
set_option linter.unusedSimpArgs false
abbrev IR:TypeId:=233
theorem rd_grown_new {w W:World}{row:Option Nat}(h:w.grownBy W row){g j:Nat}(hg:w.heap.size≤g)(v:Value):w.grownBy (W.setCell ⟨g,j,none⟩ v) row:=
  ⟨h.os,h.tape,h.output,Nat.le_trans h.size (by simp[World.setCell]),fun k hk hn=>(Below.heap_setCell W ⟨g,j,none⟩ v k (by show k≠g;omega)).trans (h.block k hk hn)⟩
theorem rd_grown_alloc {w W:World}{row:Option Nat}(h:w.grownBy W row)(o:Obj):w.grownBy (W.alloc o) row:=rd_grown_trans h (rd_grown_below ((Below.refl _ _).alloc (Nat.le_refl _) _) row)
theorem rd_grown_own {w W W':World}{row row':Option Nat}(h:w.grownBy W row)(k:W.grownBy W' row')(hr:∀g,row'=some g→w.heap.size≤g):w.grownBy W' row:=
  ⟨k.os.trans h.os,k.tape.trans h.tape,k.output.trans h.output,Nat.le_trans h.size k.size,fun j hj hn=>(k.block j (Nat.lt_of_lt_of_le hj h.size) (fun e=>by have:=hr j e.symm;omega)).trans (h.block j hj hn)⟩
structure REnt (w:World)(b q:Nat)(x:Ent)(r:RS)(W:World):Prop where
  z:W.heap[q]?=some ent0
  d:W.heap[q+1]?=some (.cells #[.string x.name,.int .i64 x.node,.bool x.dir,.int .i64 x.cookie,.int .i64 x.short] 112 (0,0))
  rd:RdIs IR b r.l r.p W
  g:w.grownBy W (some b)
  lt:b<q
  hq:w.heap.size≤q
  len:r.l.length≤100000
section
variable {w W W':World}{b q:Nat}{x:Ent}{r:RS}
theorem REnt.step (h:REnt w b q x r W){r':RS}{v:Value}{e:Ending}(hl:r'.l.length≤r.l.length)(hp:RdPost IR b W r'.l r'.p v e W'):e=.returned v∧REnt w b q x r' W':=by
  obtain⟨he,hw,hg⟩:=hp;have hlt:=h.lt;exact⟨he,(hg.block _ (lt_of_get h.z) (fun e=>by have:=Option.some.inj e;omega)).trans h.z,(hg.block _ (lt_of_get h.d) (fun e=>by have:=Option.some.inj e;omega)).trans h.d,hw,rd_grown_trans h.g hg,h.lt,h.hq,Nat.le_trans hl h.len⟩
theorem REnt.num (h:REnt w b q x r W)(kk:Int)(k:Nat)(hk:kk=(k:Int))(hk8:k≤7){n:Int}{r':RS}(hn:Hid ((rdN k r.l:Int)=n))(hr:Hid (r.num k=r')) :
    Calls Tryz.prog 57 #[ptV b,.int .i64 kk] W fun e w'=>e=.returned (.int .i64 n)∧REnt w b q x r' w':=by
  subst hk;obtain rfl:=hn.out;obtain rfl:=hr.out;have h9:=rnumber_c b k r.l r.p W h.rd (by omega) h.len;rw[valI_small k r.l hk8]at h9;exact h9.mono fun e w' hp=>h.step (r':=r.num k) (num_le k r) hp
theorem REnt.num8 (h:REnt w b q x r W){n:Int}{r':RS}(hn:Hid (valI 8 r.l=n))(hr:Hid (r.num 8=r')) :
    Calls Tryz.prog 57 #[ptV b,.int .i64 8] W fun e w'=>e=.returned (.int .i64 n)∧REnt w b q x r' w':=by
  obtain rfl:=hn.out;obtain rfl:=hr.out;exact(rnumber_c b 8 r.l r.p W h.rd (by omega) h.len).mono fun e w' hp=>h.step (r':=r.num 8) (num_le 8 r) hp
theorem REnt.name (h:REnt w b q x r W){s:ByteArray}{r':RS}(hn:Hid (nmL r.l=s))(hr:Hid (r.nam=r')) :
    Calls Tryz.prog 58 #[ptV b] W fun e w'=>e=.returned (.string s)∧REnt w b q x r' w':=by
  obtain rfl:=hn.out;obtain rfl:=hr.out;exact(rname_c b r.l r.p W h.rd h.len).mono fun e w' hp=>h.step (r':=r.nam) (nam_le r) hp
theorem REnt.flag (h:REnt w b q x r W){t:Bool}{r':RS}(hn:Hid (decide (rdN 1 r.l=1)=t))(hr:Hid (r.num 1=r')) :
    Calls Tryz.prog 60 #[ptV b] W fun e w'=>e=.returned (.bool t)∧REnt w b q x r' w':=by
  obtain rfl:=hn.out;obtain rfl:=hr.out;exact(rflag_c b r.l r.p W h.rd h.len).mono fun e w' hp=>h.step (r':=r.num 1) (num_le 1 r) hp
theorem REnt.put (h:REnt w b q x r W)(j:Nat)(v:Value){x':Ent}(hx:(⟨entC x⟩:Array Value).setIfInBounds j v=⟨entC x'⟩):REnt w b q x' r (W.setCell ⟨q+1,j,none⟩ v):=by
  have hne:∀g,g≠q+1→(W.setCell ⟨q+1,j,none⟩ v).heap[g]?=W.heap[g]?:=fun g hg=>Below.heap_setCell _ _ _ _ hg
  have hlt:=h.lt;refine⟨by rw[hne _ (by omega)];exact h.z,?_,by unfold RdIs;rw[hne _ (by omega)];exact h.rd,rd_grown_new h.g (by have:=h.hq;omega) v,h.lt,h.hq,h.len⟩;rw[heap_setCell_same _ (q+1) j _ _ _ h.d];exact congrArg (fun a=>some (Obj.cells a 112 (0,0))) hx
end
theorem rent_new {b:Nat}{r:RS}{w:World}(h:RdIs IR b r.l r.p w)(hl:r.l.length≤100000):REnt w b w.heap.size noEnt r ((w.alloc ent0).alloc ent0):=by
  have hb:=lt_of_get h;refine⟨?_,?_,?_,rd_grown_alloc (rd_grown_alloc (World.grownBy.refl w _) _) _,hb,Nat.le_refl _,hl⟩
  · rw[Lib.alloc_old _ _ _ (by simp)];exact heap_alloc_new _ _
  · have h9:=heap_alloc_new (w.alloc ent0) ent0;rwa[show(w.alloc ent0).heap.size=w.heap.size+1 by simp]at h9
  · unfold RdIs;rw[Lib.alloc_old _ _ _ (by simp;omega),Lib.alloc_old _ _ _ hb];exact h
def REPost (b:Nat)(w:World)(f:Ent×RS)(e:Ending)(w':World):Prop:=e=.returned (entV f.1)∧RdIs IR b f.2.l f.2.p w'∧w.grownBy w' (some b)
set_option maxHeartbeats 8000000 in
theorem rentry_c (b:Nat)(r:RS)(w:World)(h:RdIs IR b r.l r.p w)(hl:r.l.length≤100000) :
    Calls Tryz.prog 178 #[ptV b] w (REPost b w (entR r)):=by
  unfold REPost;obtain⟨F,hF⟩:∃F,entR r=F:=⟨_,rfl⟩;rw[hF];unfold entR at hF;obtain⟨s1,hs1⟩:∃s1,nmL r.l=s1:=⟨_,rfl⟩;obtain⟨r1,hr1⟩:∃r1,r.nam=r1:=⟨_,rfl⟩;rw[hs1,hr1]at hF;obtain⟨n2,hn2⟩:∃n2:Int,(rdN 2 r1.l:Int)=n2:=⟨_,rfl⟩;obtain⟨r2,hr2⟩:∃r2,r1.num 2=r2:=⟨_,rfl⟩;rw[hn2,hr2]at hF;obtain⟨t3,ht3⟩:∃t3,decide (rdN 1 r2.l=1)=t3:=⟨_,rfl⟩;obtain⟨r3,hr3⟩:∃r3,r2.num 1=r3:=⟨_,rfl⟩;rw[ht3,hr3]at hF;obtain⟨n4,hn4⟩:∃n4:Int,valI 8 r3.l=n4:=⟨_,rfl⟩;obtain⟨r4,hr4⟩:∃r4,r3.num 8=r4:=⟨_,rfl⟩;rw[hn4,hr4]at hF;obtain⟨n5,hn5⟩:∃n5:Int,(rdN 4 r4.l:Int)=n5:=⟨_,rfl⟩;obtain⟨r5,hr5⟩:∃r5,r4.num 4=r5:=⟨_,rfl⟩;rw[hn5,hr5]at hF;have Hs1:=Lib.hid hs1;have Hr1:=Lib.hid hr1;have Hn2:=Lib.hid hn2;have Hr2:=Lib.hid hr2;have Ht3:=Lib.hid ht3;have Hr3:=Lib.hid hr3;have Hn4:=Lib.hid hn4;have Hr4:=Lib.hid hr4;have Hn5:=Lib.hid hn5;have Hr5:=Lib.hid hr5;have HF:=Lib.hid hF;have HD:=Lib.hid (rent_new h hl);clear h hl hs1 hr1 hn2 hr2 ht3 hr3 hn4 hr4 hn5 hr5 hF;unfold noEnt ent0 at HD;go_enter Tryz.func178,Tryz.ntmps178;go_upto_region 2 with fail;generalize ((w.alloc (.cells #[.string ⟨#[]⟩,.int .i64 0,.bool false,.int .i64 0,.int .i64 0] 112)).alloc (.cells #[.string ⟨#[]⟩,.int .i64 0,.bool false,.int .i64 0,.int .i64 0] 112))=W0 at *;generalize w.heap.size=q at *;go_upto_region 3 with(go_at_call 58;refine(HD.out.name Hs1 Hr1).mono ?_;rintro e w1 ⟨rfl,hd⟩;have HD:=Lib.hid hd;clear hd;obtain⟨⟨_,_,_,_,_⟩,⟨f0,f1,f2,f3,f4⟩⟩:=five_cells HD.out.d);have HD:=Lib.hid (HD.out.put 0 (.string s1) (x':=⟨s1,0,false,0,0⟩) rfl);generalize (w1.setCell ⟨q+1,0,none⟩ (.string s1))=W1 at *;clear f0 f1 f2 f3 f4;go_upto_region 4 with(go_at_call 57;refine(HD.out.num 2 2 rfl (by omega) Hn2 Hr2).mono ?_;rintro e w2 ⟨rfl,hd⟩;have HD:=Lib.hid hd;clear hd;obtain⟨⟨_,_,_,_,_⟩,⟨f0,f1,f2,f3,f4⟩⟩:=five_cells HD.out.d);have HD:=Lib.hid (HD.out.put 1 (.int .i64 n2) (x':=⟨s1,n2,false,0,0⟩) rfl);generalize (w2.setCell ⟨q+1,1,none⟩ (.int .i64 n2))=W2 at *;clear f0 f1 f2 f3 f4;go_upto_region 5 with(go_at_call 60;refine(HD.out.flag Ht3 Hr3).mono ?_;rintro e w3 ⟨rfl,hd⟩;have HD:=Lib.hid hd;clear hd;obtain⟨⟨_,_,_,_,_⟩,⟨f0,f1,f2,f3,f4⟩⟩:=five_cells HD.out.d);have HD:=Lib.hid (HD.out.put 2 (.bool t3) (x':=⟨s1,n2,t3,0,0⟩) rfl);generalize (w3.setCell ⟨q+1,2,none⟩ (.bool t3))=W3 at *;clear f0 f1 f2 f3 f4;go_upto_region 6 with(go_at_call 57;refine(HD.out.num8 Hn4 Hr4).mono ?_;rintro e w4 ⟨rfl,hd⟩;have HD:=Lib.hid hd;clear hd;obtain⟨⟨_,_,_,_,_⟩,⟨f0,f1,f2,f3,f4⟩⟩:=five_cells HD.out.d);have HD:=Lib.hid (HD.out.put 3 (.int .i64 n4) (x':=⟨s1,n2,t3,n4,0⟩) rfl);generalize (w4.setCell ⟨q+1,3,none⟩ (.int .i64 n4))=W4 at *;clear f0 f1 f2 f3 f4;go_upto_region 7 with(go_at_call 57;refine(HD.out.num 4 4 rfl (by omega) Hn5 Hr5).mono ?_;rintro e w5 ⟨rfl,hd⟩;have HD:=Lib.hid hd;clear hd;obtain⟨⟨_,_,_,_,_⟩,⟨f0,f1,f2,f3,f4⟩⟩:=five_cells HD.out.d);have HD:=Lib.hid (HD.out.put 4 (.int .i64 n5) (x':=⟨s1,n2,t3,n4,n5⟩) rfl);generalize (w5.setCell ⟨q+1,4,none⟩ (.int .i64 n5))=W5 at *;clear f0 f1 f2 f3 f4;obtain⟨⟨p0,p1,p2,p3,p4⟩,_⟩:=five_cells HD.out.d;obtain⟨⟨z0,z1,z2,z3,z4⟩,⟨y0,y1,y2,y3,y4⟩⟩:=five_cells HD.out.z;go_wp2_with fail
  (try simp only[Exit.inBlock,Exit.then])
  have hz:=ent_put HD.out.z (.string s1) (.int .i64 n2) (.bool t3) (.int .i64 n4) (.int .i64 n5);refine bodyPost_ret (results_cell_row Tryz.results178 _ _ _ _ _ _ _ rfl hz Tryz.underlying112 rfl (by kernel_rfl)) rfl ⟨by rw[←HF.out];rfl,?_,?_⟩
  · have hlt:=HD.out.lt;rw[←HF.out];show RdIs IR b r5.l r5.p _
    unfold RdIs;rw[Below.heap_setCell _ _ _ _ (show b≠q by omega),Below.heap_setCell _ _ _ _ (show b≠q by omega),Below.heap_setCell _ _ _ _ (show b≠q by omega),Below.heap_setCell _ _ _ _ (show b≠q by omega),Below.heap_setCell _ _ _ _ (show b≠q by omega)];exact HD.out.rd
  · have hq:=HD.out.hq;exact rd_grown_new (rd_grown_new (rd_grown_new (rd_grown_new (rd_grown_new HD.out.g hq _) hq _) hq _) hq _) hq _
end Go.Proofs.YtdmkhmeaphaapaaGreat
namespace Go.Proofs.YtdmkhmeaphaapaaGreat
open Go.RowKit Go.Sort
set_option linter.unusedVariables false
set_option linter.unusedSimpArgs false
theorem row_rd {w w':World}{b B c n:Nat}{T0:TypeId}{v:Value}{xs:List Value}(hg:w.grownBy w' (some b))(hb:b<B)(h:w.ownsRow B T0 c v n xs):w'.ownsRow B T0 c v n xs:=
  ownsRow_same h fun g hg'=>hg.block g (h.lt g hg').2 (fun e=>by have:=Option.some.inj e;have:=(h.lt g hg').1;omega)
theorem rd_kept {b:Nat}{l:List UInt8}{p:Bool}{w w':World}{row:Option Nat}(h:RdIs IR b l p w)(hg:w.grownBy w' row)(hr:row≠some b):RdIs IR b l p w':=(hg.block b (lt_of_get h) (fun e=>hr e.symm)).trans h
abbrev entF (b:Nat):Value:=.func (.func 178) #[ptV b] #[]
def SEPost (b:Nat)(w:World)(f:List Ent×RS)(e:Ending)(w':World):Prop:=
  ∃v,e=.returned v∧w'.ownsRow w.heap.size 112 5 v f.1.length (f.1.flatMap entC)∧RdIs IR b f.2.l f.2.p w'∧w.grownBy w' (some b)
set_option maxHeartbeats 8000000 in
theorem sevE_c (b:Nat)(r:RS)(w:World)(h:RdIs IR b r.l r.p w)(hl:r.l.length≤100000) :
    Calls Tryz.prog 177 #[ptV b,entF b] w (SEPost b w (sevR entR r)):=by
  unfold SEPost;obtain⟨i0,hi0,hz0,hz1,hz2⟩:=info_parts Tryz.infoEnt10;obtain⟨F,hF⟩:∃F,sevR entR r=F:=⟨_,rfl⟩;rw[hF];unfold sevR at hF;have cN:=rnumber_c b 2 r.l r.p w h (by omega) hl;have hn0:=rdN_lt 2 r.l;rw[valI_small 2 r.l (by omega)]at cN;obtain⟨n0,hn⟩:∃n0,rdN 2 r.l=n0:=⟨_,rfl⟩;rw[hn]at cN hF hn0;obtain⟨r0,hr0⟩:∃r0,r.num 2=r0:=⟨_,rfl⟩;have hl0:r0.l.length≤100000:=by rw[←hr0];exact Nat.le_trans (num_le 2 r) hl
  have cN2:Calls Tryz.prog 57 #[ptV b,.int .i64 2] w (RdPost IR b w r0.l r0.p (.int .i64 (n0:Int))):=by
    rw[←hr0];exact cN
  rw[hr0]at hF;have hb:=lt_of_get h;have HF:=Lib.hid hF;have HB:=Lib.hid hb;obtain⟨B,hBB⟩:∃B,w.heap.size=B:=⟨_,rfl⟩;have HBB:=Lib.hid hBB;rw[hBB]at hb ⊢;unfold RdPost at cN2;clear h hl hF cN hn hr0 hBB;go_enter Tryz.func177,Tryz.ntmps177;go_wp2_with (go_at_call 57;refine cN2.mono ?_;rintro e w1 ⟨rfl,hr1,hg1⟩;have HR1:=Lib.hid hr1;have HG1:=Lib.hid hg1;clear hr1 hg1);clear cN2;go_loopw [5,6] (fun lv nv wr=>∃(xs:List Ent) (n:Nat) (z:Int) (r':RS),nv=.int .i64 z∧z=(n:Int)∧wr.ownsRow B 112 5 lv xs.length (xs.flatMap entC)∧RdIs IR b r'.l r'.p wr∧w.grownBy wr (some b)∧(xs++(sevGo entR n r').1,(sevGo entR n r').2)=F∧xs.length+n≤65535∧r'.l.length≤100000) (fun _ nv _=>(intOf nv).toNat)
  case atStart=>exact⟨[],n0,n0,r0,rfl,rfl,World.ownsRow_nil _ _ _ _,HR1.out,HG1.out,by rw[List.nil_append];exact HF.out,by simp only[List.length_nil];omega,hl0⟩
  case round =>
    obtain⟨xs,n,z,r',rfl,hz,ho,hr,hg,hf,hn,hl⟩:=hrel;have HO:=Lib.hid ho;have HR:=Lib.hid hr;have HG:=Lib.hid hg;have HFF:=Lib.hid hf;have HN:=Lib.hid hn;have HLL:=Lib.hid hl;have hsz:=hg.size;obtain⟨a3,c3,hv3⟩:=ownsRow_slice ho;subst hv3;clear ho hr hg hf hn hl;cases n with
    | zero =>
      have hzn:¬(0:Int)<z:=by omega
      clear hz;have hfin:F=(xs,r'):=by
        have h9:=HFF.out;unfold sevGo at h9;rw[←h9,List.append_nil]
      have HFIN:=Lib.hid hfin;clear hfin;go_wp2;go_ret;exact⟨_,rfl,by rw[HFIN.out];exact HO.out,by rw[HFIN.out];exact HR.out,HG.out⟩
    | succ n =>
      have hzp:(0:Int)<z:=by omega
      have hzq:z≤65535:=by have:=HN.out;omega
      have HZ:=Lib.hid hz;clear hz;obtain⟨p,hp⟩:∃p,r'.p=p:=⟨_,rfl⟩;have cP:=rpast_c b r'.l r'.p wr HR.out;rw[hp]at cP;have HP:=Lib.hid hp;clear hp;cases p with
      | true =>
        have hfin:F=(xs,r'):=by
          have h9:=HFF.out;unfold sevGo at h9;rw[if_pos HP.out]at h9;rw[←h9,List.append_nil]
        have HFIN:=Lib.hid hfin;clear hfin;go_wp2_with (go_at_call 176;refine cP.mono ?_;rintro e w2 ⟨rfl,rfl⟩);go_ret;exact⟨_,rfl,by rw[HFIN.out];exact HO.out,by rw[HFIN.out];exact HR.out,HG.out⟩
      | false =>
        obtain⟨x,hx⟩:∃x,(entR r').1=x:=⟨_,rfl⟩;obtain⟨r2,hr2⟩:∃r2,(entR r').2=r2:=⟨_,rfl⟩;have hfin:(xs++[x]++(sevGo entR n r2).1,(sevGo entR n r2).2)=F:=by
          have h9:=HFF.out;unfold sevGo at h9;rw[if_neg (by rw[HP.out];decide),hx,hr2]at h9;rw[←h9,List.append_assoc];rfl
        have HFIN:=Lib.hid hfin;have hl2:r2.l.length≤100000:=by rw[←hr2];exact Nat.le_trans (entR_le r') HLL.out
        have HL2:=Lib.hid hl2;have cE:=rentry_c b r' wr HR.out HLL.out;unfold REPost at cE;rw[hx,hr2]at cE;clear hfin hx hr2 hl2;obtain⟨nm,nd,dr,ck,sh⟩:=x;unfold entV at cE;simp only at cE;go_wp2_with (first
          | (go_at_call 176;refine cP.mono ?_;rintro e w2 ⟨rfl,rfl⟩)
          | (go_at_call 178;refine cE.mono ?_;rintro e w3 ⟨rfl,hr3,hg3⟩;have HR3:=Lib.hid hr3;have HG3:=Lib.hid (rd_grown_trans HG.out hg3);have HO3:=Lib.hid (row_rd hg3 (by omega) HO.out);have hs3:=hg3.size;clear hr3 hg3)
          | (at_builtin;refine wpList_append_own _ rfl _ _ 86 rfl B 112 i0 (.agg #[.string ⟨#[]⟩,.int .i64 0,.bool false,.int .i64 0,.int .i64 0]) 5 48 Tryz.underlying86 hi0 hz0 hz1 hz2 rfl (by decide) _ _ _ rfl (HO3.out.alloc _) ⟨w3.heap.size,0,none⟩ 1 1 (entC ⟨nm,nd,dr,ck,sh⟩) rfl rfl ?c1 (entC_one _) ?c3 ?c4 ?c5 ?_))
        case c1 =>
          intro j u hj;rw[Addr.add_mid,cell_of_row _ _ _ _ _ _ (heap_alloc_new _ _),Nat.zero_add,List.getElem?_toArray];exact hj
        case c3=>have:=HN.out;unfold maxLen;omega
        case c4=>have:=HN.out;omega
        case c5=>have:=HBB.out;simp;omega
        intro v' w4 hown' hgrow _;have hga:=rd_grown_alloc HG3.out (.cells #[.string nm,.int .i64 nd,.bool dr,.int .i64 ck,.int .i64 sh] 112);have HG4:=Lib.hid (rd_grown_own hga hgrow (fun g hg=>by rw[HBB.out];exact(HO3.out.lt g hg).1));have HR4:Hid (RdIs IR b r2.l r2.p w4):=Lib.hid (rd_kept (rd_kept HR3.out (rd_grown_below ((Below.refl _ _).alloc (Nat.le_refl _) _) none) (by simp)) hgrow (fun e=>by have:=(HO3.out.lt b e).1;omega));have HO4:=Lib.hid hown';clear hown' hgrow hga;go_wp2;go_roundw
        case rel=>exact⟨xs++[⟨nm,nd,dr,ck,sh⟩],n,z-1,r2,by first|rfl|go_num,by have:=HZ.out;omega,by rw[List.flatMap_append,List.length_append];exact HO4.out,HR4.out,HG4.out,HFIN.out,by have:=HN.out;simp only[List.length_append,List.length_singleton];omega,HL2.out⟩
        case measure=>have:=HZ.out;simp[intOf];omega
end Go.Proofs.YtdmkhmeaphaapaaGreat
namespace Go.Proofs.YtdmkhmeaphaapaaGreat
open Go.RowKit Go.Sort
set_option linter.unusedVariables false
set_option linter.unusedSimpArgs false
def RDPost (b:Nat)(w:World)(f:(Int×List Ent)×RS)(e:Ending)(w':World):Prop:=
  ∃v,e=.returned (.agg #[.int .i64 f.1.1,v])∧w'.ownsRow w.heap.size 112 5 v f.1.2.length (f.1.2.flatMap entC)∧RdIs IR b f.2.l f.2.p w'∧w.grownBy w' (some b)
theorem rdir_c (b:Nat)(r:RS)(w:World)(h:RdIs IR b r.l r.p w)(hl:r.l.length≤100000) :
    Calls Tryz.prog 151 #[ptV b] w (RDPost b w (dirR r)):=by
  unfold RDPost;obtain⟨F,hF⟩:∃F,dirR r=F:=⟨_,rfl⟩;rw[hF];unfold dirR at hF;obtain⟨n0,hn⟩:∃n0:Int,(rdN 2 r.l:Int)=n0:=⟨_,rfl⟩;obtain⟨r0,hr0⟩:∃r0,r.num 2=r0:=⟨_,rfl⟩;obtain⟨G,hG⟩:∃G,sevR entR r0=G:=⟨_,rfl⟩;have hl0:r0.l.length≤100000:=by rw[←hr0];exact Nat.le_trans (num_le 2 r) hl
  have hb:=lt_of_get h;have hA:RdIs IR b r.l r.p (w.alloc (.cells #[.int .i64 0,.slice none 0 0] 200)):=rd_kept h (rd_grown_below ((Below.refl _ _).alloc (Nat.le_refl _) _) none) (by simp);have cN:=rnumber_c b 2 r.l r.p _ hA (by omega) hl;rw[valI_small 2 r.l (by omega),hn]at cN;have cN2:Calls Tryz.prog 57 #[ptV b,.int .i64 2] (w.alloc (.cells #[.int .i64 0,.slice none 0 0] 200)) (RdPost IR b (w.alloc (.cells #[.int .i64 0,.slice none 0 0] 200)) r0.l r0.p (.int .i64 n0)):=by
    rw[←hr0];exact cN
  rw[hn,hr0,hG]at hF;have cS:Hid (∀W,RdIs IR b r0.l r0.p W→Calls Tryz.prog 177 #[ptV b,entF b] W (SEPost b W G)):=Lib.hid fun W hW=>by
    rw[←hG];exact sevE_c b r0 W hW hl0
  unfold SEPost entF at cS;unfold RdPost at cN2;have HF:=Lib.hid hF;have HG0:Hid (w.grownBy (w.alloc (.cells #[.int .i64 0,.slice none 0 0] 200)) (some b)):=Lib.hid (rd_grown_alloc (World.grownBy.refl w _) _);have HZ0:Hid ((w.alloc (.cells #[.int .i64 0,.slice none 0 0] 200)).heap[w.heap.size]?=some (.cells #[.int .i64 0,.slice none 0 0] 200 (0,0))):=Lib.hid (heap_alloc_new _ _);clear h hl hF cN hn hr0 hG hA hl0;go_enter Tryz.func151,Tryz.ntmps151;go_upto_region 1 with fail;generalize (w.alloc (.cells #[.int .i64 0,.slice none 0 0] 200))=W0 at *;obtain⟨q,hq⟩:∃q,w.heap.size=q:=⟨_,rfl⟩;rw[hq]at HZ0 hb ⊢;have HQ:=Lib.hid hq;clear hq;go_upto_region 2 with(go_at_call 57;refine cN2.mono ?_;rintro e w1 ⟨rfl,hr1,hg1⟩;have HR1:=Lib.hid hr1;have HG1:=Lib.hid (rd_grown_trans HG0.out hg1);have HZ1:=Lib.hid ((hg1.block q (lt_of_get HZ0.out) (fun e=>by have:=Option.some.inj e;omega)).trans HZ0.out);clear hr1 hg1);have cSS:=cS.out w1 HR1.out;go_wp2_with (go_at_call 177;refine cSS.mono ?_;rintro e w2 ⟨v2,rfl,ho2,hr2,hg2⟩;obtain⟨a2,c2,hv2⟩:=ownsRow_slice ho2;have HO2:=Lib.hid ho2;have HR2:=Lib.hid hr2;have HG2:=Lib.hid (rd_grown_trans HG1.out hg2);have HZ2:=Lib.hid ((hg2.block q (lt_of_get HZ1.out) (fun e=>by have:=Option.some.inj e;omega)).trans HZ1.out);subst hv2;clear ho2 hr2 hg2;have z0:=Lib.cell_of_heap HZ2.out 0;have z1:=Lib.cell_of_heap HZ2.out 1;have y0:=Lib.frozen_of_heap HZ2.out 0;have y1:=Lib.frozen_of_heap HZ2.out 1)
  (try simp only[Exit.inBlock,Exit.then])
  have hz:((w2.setCell ⟨q,0,none⟩ (.int .i64 n0)).setCell ⟨q,1,none⟩ (.slice a2 G.1.length c2)).heap[q]?=some (.cells #[.int .i64 n0,.slice a2 G.1.length c2] 200 (0,0)):=by
    rw[heap_setCell_same _ q 1 _ _ _ (heap_setCell_same _ q 0 _ _ _ HZ2.out)];rfl
  have hne:∀g,g≠q→((w2.setCell ⟨q,0,none⟩ (.int .i64 n0)).setCell ⟨q,1,none⟩ (.slice a2 G.1.length c2)).heap[g]?=w2.heap[g]?:=fun g hg=>by
    rw[Below.heap_setCell _ _ _ _ hg,Below.heap_setCell _ _ _ _ hg]
  have hq1:q<w1.heap.size:=lt_of_get HZ1.out;refine bodyPost_ret (results_cell_row Tryz.results151 _ _ _ _ _ _ _ rfl hz Tryz.underlying200 rfl (by kernel_rfl)) rfl ⟨.slice a2 G.1.length c2,by rw[←HF.out],?_,?_,?_⟩
  · rw[←HF.out];exact own_mono (ownsRow_same HO2.out fun g hg=>hne g (by have:=(HO2.out.lt g hg).1;omega)) (by have:=HQ.out;omega)
  · rw[←HF.out];show RdIs IR b G.2.l G.2.p _
    unfold RdIs;rw[hne b (by omega)];exact HR2.out
  · exact rd_grown_new (rd_grown_new HG2.out (by rw[HQ.out];exact Nat.le_refl _) _) (by rw[HQ.out];exact Nat.le_refl _) _
abbrev ZD:=Int×Value×List Ent
def zC (z:ZD):List Value:=[.int .i64 z.1,z.2.1]
def zD (z:ZD):Int×List Ent:=(z.1,z.2.2)
theorem zC_len (l:List ZD):∀x∈l,(zC x).length=2:=fun _ _=>rfl
def ZOk (w:World)(B:Nat)(zs:List ZD):Prop:=∀z∈zs,w.ownsRow B 112 5 z.2.1 z.2.2.length (z.2.2.flatMap entC)
theorem ZOk.grown {w w':World}{B B' c n:Nat}{zs:List ZD}{v:Value}{xs:List Value}(h:ZOk w B zs)(ho:w.ownsRow B' 200 c v n xs)(hg:w.grownBy w' v.ownBlock):ZOk w' B zs:=fun z hz =>
  ownsRow_same (h z hz) fun g hg'=>hg.block g ((h z hz).lt g hg').2 fun e=>by
    obtain⟨cur,h1⟩:=ownsRow_typ (h z hz) hg';obtain⟨cur2,h2⟩:=ownsRow_typ ho e.symm;rw[h1]at h2;injection h2 with h2;injection h2 with _ h3 _;exact absurd h3 (by decide)
theorem ZOk.rd {w w':World}{b B:Nat}{zs:List ZD}(h:ZOk w B zs)(hg:w.grownBy w' (some b))(hb:b<B):ZOk w' B zs:=fun z hz=>row_rd hg hb (h z hz)
theorem ZOk.alloc {w:World}{B:Nat}{zs:List ZD}(h:ZOk w B zs)(o:Obj):ZOk (w.alloc o) B zs:=fun z hz=>(h z hz).alloc o
theorem ZOk.below {w w':World}{B:Nat}{zs:List ZD}(h:ZOk w B zs)(hb:Below w.heap.size w w'):ZOk w' B zs:=fun z hz=>ownsRow_same (h z hz) fun g hg=>hb.block g ((h z hz).lt g hg).2
theorem Tryz.infoDirI:(Tryz.prog.info? 200).map (fun i=>(i.zero,i.size,i.bytes))=some (some (.agg #[.int .i64 0,.slice none 0 0]),2,32):=by kernel_rfl
abbrev dirF (b:Nat):Value:=.func (.func 151) #[ptV b] #[]
def SDPost (b:Nat)(w:World)(f:List (Int×List Ent)×RS)(e:Ending)(w':World):Prop:=
  ∃v zs,e=.returned v∧w'.ownsRow w.heap.size 200 2 v zs.length (zs.flatMap zC)∧ZOk w' w.heap.size zs∧zs.map zD=f.1∧RdIs IR b f.2.l f.2.p w'∧w.grownBy w' (some b)
set_option maxHeartbeats 8000000 in
theorem sevD_c (b:Nat)(r:RS)(w:World)(h:RdIs IR b r.l r.p w)(hl:r.l.length≤100000) :
    Calls Tryz.prog 150 #[ptV b,dirF b] w (SDPost b w (sevR dirR r)):=by
  unfold SDPost;obtain⟨i0,hi0,hz0,hz1,hz2⟩:=info_parts Tryz.infoDirI;obtain⟨F,hF⟩:∃F,sevR dirR r=F:=⟨_,rfl⟩;rw[hF];unfold sevR at hF;have cN:=rnumber_c b 2 r.l r.p w h (by omega) hl;have hn0:=rdN_lt 2 r.l;rw[valI_small 2 r.l (by omega)]at cN;obtain⟨n0,hn⟩:∃n0,rdN 2 r.l=n0:=⟨_,rfl⟩;rw[hn]at cN hF hn0;obtain⟨r0,hr0⟩:∃r0,r.num 2=r0:=⟨_,rfl⟩;have hl0:r0.l.length≤100000:=by rw[←hr0];exact Nat.le_trans (num_le 2 r) hl
  have cN2:Calls Tryz.prog 57 #[ptV b,.int .i64 2] w (RdPost IR b w r0.l r0.p (.int .i64 (n0:Int))):=by
    rw[←hr0];exact cN
  rw[hr0]at hF;have hb:=lt_of_get h;have HF:=Lib.hid hF;obtain⟨B,hBB⟩:∃B,w.heap.size=B:=⟨_,rfl⟩;have HBB:=Lib.hid hBB;rw[hBB]at hb ⊢;unfold RdPost at cN2;clear h hl hF cN hn hr0 hBB;go_enter Tryz.func150,Tryz.ntmps150;go_wp2_with (go_at_call 57;refine cN2.mono ?_;rintro e w1 ⟨rfl,hr1,hg1⟩;have HR1:=Lib.hid hr1;have HG1:=Lib.hid hg1;clear hr1 hg1);clear cN2;go_loopw [5,6] (fun lv nv wr=>∃(xs:List ZD) (n:Nat) (z:Int) (r':RS),nv=.int .i64 z∧z=(n:Int)∧wr.ownsRow B 200 2 lv xs.length (xs.flatMap zC)∧ZOk wr B xs∧RdIs IR b r'.l r'.p wr∧w.grownBy wr (some b)∧(xs.map zD++(sevGo dirR n r').1,(sevGo dirR n r').2)=F∧xs.length+n≤65535∧r'.l.length≤100000) (fun _ nv _=>(intOf nv).toNat)
  case atStart=>exact⟨[],n0,n0,r0,rfl,rfl,World.ownsRow_nil _ _ _ _,(fun z hz=>absurd hz (by simp)),HR1.out,HG1.out,by rw[List.map_nil,List.nil_append];exact HF.out,by simp only[List.length_nil];omega,hl0⟩
  case round =>
    obtain⟨xs,n,z,r',rfl,hz,ho,hzk,hr,hg,hf,hn,hl⟩:=hrel;have HO:=Lib.hid ho;have HZK:=Lib.hid hzk;have HR:=Lib.hid hr;have HG:=Lib.hid hg;have HFF:=Lib.hid hf;have HN:=Lib.hid hn;have HLL:=Lib.hid hl;have hsz:=hg.size;obtain⟨a3,c3,hv3⟩:=ownsRow_slice ho;subst hv3;clear ho hzk hr hg hf hn hl;cases n with
    | zero =>
      have hzn:¬(0:Int)<z:=by omega
      clear hz;have hfin:F=(xs.map zD,r'):=by
        have h9:=HFF.out;unfold sevGo at h9;rw[←h9,List.append_nil]
      have HFIN:=Lib.hid hfin;clear hfin;go_wp2;go_ret
      first
        | exact⟨_,xs,rfl,HO.out,HZK.out,by rw[HFIN.out],by rw[HFIN.out];exact HR.out,HG.out⟩
        | exact⟨_,rfl,xs,HO.out,HZK.out,by rw[HFIN.out],by rw[HFIN.out];exact HR.out,HG.out⟩
    | succ n =>
      have hzp:(0:Int)<z:=by omega
      have hzq:z≤65535:=by have:=HN.out;omega
      have HZ:=Lib.hid hz;clear hz;obtain⟨p,hp⟩:∃p,r'.p=p:=⟨_,rfl⟩;have cP:=rpast_c b r'.l r'.p wr HR.out;rw[hp]at cP;have HP:=Lib.hid hp;clear hp;cases p with
      | true =>
        have hfin:F=(xs.map zD,r'):=by
          have h9:=HFF.out;unfold sevGo at h9;rw[if_pos HP.out]at h9;rw[←h9,List.append_nil]
        have HFIN:=Lib.hid hfin;clear hfin;go_wp2_with (go_at_call 176;refine cP.mono ?_;rintro e w2 ⟨rfl,rfl⟩);go_ret
        first
          | exact⟨_,xs,rfl,HO.out,HZK.out,by rw[HFIN.out],by rw[HFIN.out];exact HR.out,HG.out⟩
          | exact⟨_,rfl,xs,HO.out,HZK.out,by rw[HFIN.out],by rw[HFIN.out];exact HR.out,HG.out⟩
      | false =>
        obtain⟨x,hx⟩:∃x,(dirR r').1=x:=⟨_,rfl⟩;obtain⟨r2,hr2⟩:∃r2,(dirR r').2=r2:=⟨_,rfl⟩;have hfin:(xs.map zD++[x]++(sevGo dirR n r2).1,(sevGo dirR n r2).2)=F:=by
          have h9:=HFF.out;unfold sevGo at h9;rw[if_neg (by rw[HP.out];decide),hx,hr2]at h9;rw[←h9,List.append_assoc];rfl
        have HFIN:=Lib.hid hfin;have hl2:r2.l.length≤100000:=by rw[←hr2];exact Nat.le_trans (dirR_le r') HLL.out
        have HL2:=Lib.hid hl2;have cE:=rdir_c b r' wr HR.out HLL.out;unfold RDPost at cE;rw[hx,hr2]at cE;clear hfin hx hr2 hl2;obtain⟨dn,es⟩:=x;simp only at cE;go_wp2_with (first
          | (go_at_call 176;refine cP.mono ?_;rintro e w2 ⟨rfl,rfl⟩)
          | (go_at_call 151;refine cE.mono ?_;rintro e w3 ⟨v9,rfl,ho9,hr3,hg3⟩;obtain⟨a9,c9,hv9⟩:=ownsRow_slice ho9;subst hv9;have HR3:=Lib.hid hr3;have HG3:=Lib.hid (rd_grown_trans HG.out hg3);have HO3:=Lib.hid (row_rd hg3 (by omega) HO.out);have HZ3:Hid (ZOk w3 B (xs++[(dn,.slice a9 es.length c9,es)])):=Lib.hid (fun z hz=>(List.mem_append.1 hz).elim (fun h=>(HZK.out.rd hg3 (by omega)) z h) (fun h=>by obtain rfl:=List.mem_singleton.1 h;exact own_mono ho9 (by have:=HBB.out;omega)));have hs3:=hg3.size;clear hr3 hg3 ho9)
          | (at_builtin;refine wpList_append_own _ rfl _ _ 237 rfl B 200 i0 (.agg #[.int .i64 0,.slice none 0 0]) 2 32 Tryz.underlying237 hi0 hz0 hz1 hz2 rfl (by decide) _ _ _ rfl (HO3.out.alloc _) ⟨w3.heap.size,0,none⟩ 1 1 [.int .i64 dn,.slice a9 es.length c9] rfl rfl ?c1 ?c2 ?c3 ?c4 ?c5 ?_))
        case c1 =>
          intro j u hj;rw[Addr.add_mid,cell_of_row _ _ _ _ _ _ (heap_alloc_new _ _),Nat.zero_add,List.getElem?_toArray];exact hj
        case c2 =>
          intro u hu;simp at hu;rcases hu with rfl|rfl<;>rfl
        case c3=>have:=HN.out;unfold maxLen;omega
        case c4=>have:=HN.out;omega
        case c5=>have:=HBB.out;simp;omega
        intro v' w4 hown' hgrow _;have hga:=rd_grown_alloc HG3.out (.cells #[.int .i64 dn,.slice a9 es.length c9] 200);have HG4:=Lib.hid (rd_grown_own hga hgrow (fun g hg=>by rw[HBB.out];exact(HO3.out.lt g hg).1));have HR4:Hid (RdIs IR b r2.l r2.p w4):=Lib.hid (rd_kept (rd_kept HR3.out (rd_grown_below ((Below.refl _ _).alloc (Nat.le_refl _) _) none) (by simp)) hgrow (fun e=>by have:=(HO3.out.lt b e).1;omega));have HZ4:=Lib.hid ((HZ3.out.alloc (.cells #[.int .i64 dn,.slice a9 es.length c9] 200)).grown (HO3.out.alloc _) hgrow);have HO4:=Lib.hid hown';clear hown' hgrow hga;go_wp2;go_roundw
        case rel=>exact⟨xs++[(dn,.slice a9 es.length c9,es)],n,z-1,r2,by first|rfl|go_num,by have:=HZ.out;omega,by rw[List.flatMap_append,List.length_append];exact HO4.out,HZ4.out,HR4.out,HG4.out,by rw[List.map_append];exact HFIN.out,by have:=HN.out;simp only[List.length_append,List.length_singleton];omega,HL2.out⟩
        case measure=>have:=HZ.out;simp[intOf];omega
end Go.Proofs.YtdmkhmeaphaapaaGreat
namespace Go.Proofs.YtdmkhmeaphaapaaGreat
open Go.RowKit Go.Sort
set_option linter.unusedVariables false
set_option linter.unusedSimpArgs false
theorem stG_take {ds:List (Int×List Ent)}{i:Nat}{d:Int×List Ent}(h:ds[i]?=some d):stG (ds.take (i+1))=updG (stG (ds.take i)) d.1 (some d.2):=by
  rw[take_snoc h,stG_snoc];rfl
theorem stG_new {ds:List (Int×List Ent)}(hn:(ds.map Prod.fst).Nodup){i:Nat}{d:Int×List Ent}(h:ds[i]?=some d):stG (ds.take i) d.1=none:=by
  cases he:stG (ds.take i) d.1 with
  | none=>rfl
  | some es =>
    have h1:=stG_mem _ _ rfl he;obtain⟨j,hj⟩:=List.getElem?_of_mem h1;rw[List.getElem?_take]at hj;split at hj
    · rename_i hji;have e1:(ds.map Prod.fst)[j]?=some d.1:=by rw[List.getElem?_map,hj];rfl
      have e2:(ds.map Prod.fst)[i]?=some d.1:=by rw[List.getElem?_map,h];rfl
      have hjl:=(List.getElem?_eq_some_iff.1 e1).1;have:=(List.getElem?_inj hjl hn).1 (e1.trans e2.symm);omega
    · cases hj
theorem hi_some {B:Nat}{w:World}{mb n cnt:Nat}{F:Int→Option Value}{G:DirsG}(h:DirsHi B w mb n F cnt G){x:Int}(hx:inI64 x):(F x).isSome=(G x).isSome:=by
  have hg:=h.g x hx;cases hF:F x with
  | none=>rw[hF]at hg;rw[hg];rfl
  | some v =>
    rw[hF]at hg;obtain⟨l,g1,_⟩:=hg;rw[g1];rfl
theorem turned_below {B:Nat}{a w w':World}{mb:Nat}(h:Below B a w)(ht:w.mapTurned w' mb)(hB:B≤mb)(hs:B≤w.heap.size):Below B a w':=by
  obtain⟨t1,t2,t3,t4,t5⟩:=turned_block ht;exact h.grown (row:=some mb) ⟨t3,t4,t5,Nat.le_of_eq t1.symm,fun k _ hn=>t2 k fun e=>hn (by rw[e])⟩ hs fun k hk=>by
    obtain rfl:=Option.some.inj hk;exact hB
def BNPost (zs:List ZD)(w:World)(e:Ending)(w':World):Prop:=
  ∃mb F cnt,e=.returned (.map (some mb))∧DirsHi 0 w' mb zs.length F cnt (stG (zs.map zD))∧((zs.map Prod.fst).Nodup→cnt=zs.length)∧Below w.heap.size w w'
set_option maxHeartbeats 8000000 in
theorem byNode_c (v:Value)(zs:List ZD)(B B0:Nat)(w:World)(hv:w.ownsRow B 200 2 v zs.length (zs.flatMap zC))(hz:ZOk w B0 zs)(hk:∀z∈zs,inI64 z.1)(hl:zs.length≤65535) :
    Calls Tryz.prog 149 #[v] w (BNPost zs w):=by
  unfold BNPost;obtain⟨a,cap,hvs⟩:=ownsRow_slice hv;subst hvs;obtain⟨n,hn⟩:∃n,zs.length=n:=⟨_,rfl⟩;have HN:=Lib.hid hn;have HK:=Lib.hid hk;have HV:=Lib.hid hv;have HZ:=Lib.hid hz;have HAT:Hid (∀(W:World) (i:Nat) (x:ZD),W.ownsRow B 200 2 (.slice a n cap) zs.length (zs.flatMap zC)→zs[i]?=some x→∃g off,a=some ⟨g,off,none⟩∧g<W.heap.size∧W.rangeAt g (off+i*2) (zC x)):=Lib.hid fun W i x hW hi=>LstIs.at (LstIs.own (zC_len _) hW rfl) hi
  rw[hn]at hl ⊢;have hmm:=@run_makeMap Tryz.prog;have HM0:Hid (DirsHi 0 (w.alloc (.map #[] 0)) w.heap.size 0 (fun _=>none) 0 (stG ((zs.map zD).take 0))):=Lib.hid ⟨MapF.made w,fun x hx=>by rw[List.take_zero];rfl,Nat.zero_le _⟩;have HB0:Hid (Below w.heap.size w (w.alloc (.map #[] 0))):=Lib.hid ((Below.refl _ _).alloc (Nat.le_refl _) _);rw[hn]at HV;clear hk hv hz;go_enter Tryz.func149,Tryz.ntmps149;go_wp2;generalize (w.alloc (.map #[] 0))=W1 at *;obtain⟨mb,hmb⟩:∃mb,w.heap.size=mb:=⟨_,rfl⟩;have HMB:=Lib.hid hmb;rw[hmb]at HM0 HB0 ⊢;clear hmm hmb;go_loopw [9] (fun iv wr=>∃(i:Nat) (F:Int→Option Value) (cnt:Nat),i≤n∧iv=.int .i64 i∧DirsHi 0 wr mb i F cnt (stG ((zs.map zD).take i))∧((zs.map Prod.fst).Nodup→cnt=i)∧Below mb w wr) (fun iv _=>n-(intOf iv).toNat)
  case atStart=>exact⟨0,_,0,by omega,rfl,HM0.out,fun _=>rfl,HB0.out⟩
  case round =>
    obtain⟨i,F,cnt,hi,rfl,hd,hc,hb⟩:=hrel;have HD:=Lib.hid hd;have HC:=Lib.hid hc;have HB:=Lib.hid hb;have hbs:=hb.size;have hmw:mb≤wr.heap.size:=by have:=HMB.out;omega
    clear hd hc hb;by_cases him:i<n
    · have hiz:(i:Int)<(n:Int):=by omega
      have hi0:(0:Int)≤(i:Int):=by omega
      obtain⟨x,hx⟩:∃x,zs[i]?=some x:=⟨_,List.getElem?_eq_getElem (by rw[HN.out];omega)⟩;have hbw:Below w.heap.size w wr:=by rw[HMB.out];exact HB.out
      have hVw:wr.ownsRow B 200 2 (.slice a n cap) zs.length (zs.flatMap zC):=by rw[HN.out];exact ownsRow_same HV.out fun g hg=>hbw.block g (HV.out.lt g hg).2
      obtain⟨g,off,rfl,hg,hr⟩:=HAT.out wr i x hVw hx;have hxm:=List.mem_of_getElem? hx;have hze:=(HZ.out.below hbw) x hxm;have h64:=HK.out x hxm;obtain⟨q,vq,es⟩:=x;have d0:wr.cell? ⟨g,off+i*2,none⟩=some (.int .i64 q):=hr 0 _ rfl;have d1:wr.cell? ⟨g,off+i*2+1,none⟩=some vq:=hr 1 _ rfl;simp only at hze h64;obtain⟨a9,c9,hv9⟩:=ownsRow_slice hze;subst hv9;have hba:Below wr.heap.size wr (wr.alloc (.cells #[.int .i64 q,.slice a9 es.length c9] 200)):=(Below.refl _ _).alloc (Nat.le_refl _) _;have hd5:=HD.out.hi (Hi.of_below (B:=0) hba);have hze5:=hze.alloc (.cells #[.int .i64 q,.slice a9 es.length c9] 200);obtain⟨w6,hrun,hd6,hturn⟩:=hd5.set (show i<maxLen by unfold maxLen;omega) h64 (LstIs.own (entC_len _) hze5 rfl) (fun _ g hg=>⟨Nat.zero_le _,(hze5.lt g hg).2⟩);have hzd:(zs.map zD)[i]?=some (q,es):=by rw[List.getElem?_map,hx];rfl
      have hc6:(zs.map Prod.fst).Nodup→(if(F q).isSome=true then cnt else cnt+1)=i+1:=fun hnd=>by
        have e1:=stG_new (ds:=zs.map zD) (by rw[List.map_map];exact hnd) hzd;rw[hi_some HD.out h64,e1,HC.out hnd];rfl
      rw[←stG_take hzd]at hd6;have HD6:=Lib.hid hd6;have HC6:=Lib.hid hc6;have HB6:=Lib.hid (turned_below (HB.out.trans (hba.mono hmw)) hturn (Nat.le_refl _) (Nat.le_trans hmw hba.size));clear hd6 hc6 hturn hd5 hze hze5 hzd hba hr hxm hVw hx h64 hbw;go_wp2;go_roundw
      case rel=>exact⟨i+1,_,_,by omega,by first|rfl|go_num,HD6.out,HC6.out,HB6.out⟩
      case measure=>simp[intOf];omega
    · have hiz:¬(i:Int)<(n:Int):=by omega
      obtain rfl:i=n:=by omega
      have HA:Hid ((zs.map zD).take i=zs.map zD):=Lib.hid (List.take_of_length_le (by rw[List.length_map,HN.out];omega));rw[HA.out]at HD;go_wp2;go_ret;exact⟨mb,rfl,F,cnt,HD.out,HC.out,by rw[HMB.out];exact HB.out⟩
end Go.Proofs.YtdmkhmeaphaapaaGreat
namespace Go.Proofs.YtdmkhmeaphaapaaGreat
open Go.RowKit Go.Sort
set_option linter.unusedVariables false
set_option linter.unusedSimpArgs false
set_option maxHeartbeats 2000000 in
theorem inewReader_c (s:ByteArray)(w:World) :
    Calls Tryz.prog 147 #[.string s] w fun e w'=>∃rb,e=.returned (ptV rb)∧RdIs IR rb s.data.toList false w'∧w.heap.size≤rb∧Below w.heap.size w w':=by
  have cR:=newReader_c s w;go_enter Tryz.func147,Tryz.ntmps147;go_wp2_with (go_at_call 56;refine cR.mono ?_;rintro e w1 ⟨rfl,hb1⟩;have HB1:=Lib.hid hb1;clear hb1);go_ret;exact⟨_,rfl,heap_alloc_new _ _,HB1.out.size,HB1.out.alloc HB1.out.size _⟩
theorem dirR_node (r:RS):inI64 (dirR r).1.1:=by
  have h1:=rdN_lt 2 r.l;show inI64 (rdN 2 r.l:Int)
  unfold inI64;omega
theorem dirsR_node (bs:List UInt8):∀d∈dirsR bs,inI64 d.1:=by
  have h:=sevGo_mem (P:=fun d:Int×List Ent=>inI64 d.1) (R:=dirR) dirR_le bs.length (fun r _=>dirR_node r);intro d hd;exact h _ _ (Nat.le_trans (num_le 2 _) (num_le 8 _)) d hd
theorem dirsR_len (bs:List UInt8):(dirsR bs).length≤65535:=sevR_len _
theorem cookR_max (bs:List UInt8):cookR bs≤9223372036854775807:=by
  unfold cookR valI wrap64;omega
def NoImg (bs:List UInt8):Prop:=∀l nx,GoodT l nx→nx≤9223372036854775807→bs≠imgI l nx
def IDPost (bs:List UInt8)(w:World)(e:Ending)(w':World):Prop:=
  (e=.returned (.tuple #[.pointer none,.int .i64 2])∧Below w.heap.size w w'∧NoImg bs) ∨
  (∃b A nx S,e=.returned (.tuple #[ptrV b,.int .i64 0])∧theTree.Is w' b A nx S∧(∀k,S k→w.heap.size≤k)∧Below w.heap.size w w'∧imgI A nx=bs∧nx≤9223372036854775807)
theorem no_long {bs:List UInt8}(h:60000<bs.length):NoImg bs:=fun l nx hg _ e=>by
  have:=img_short hg;rw[←e]at this;omega
theorem keys_nodup {zs:List ZD}{l:List Itm}{nx:Int}(h:zs.map zD=dirsOf l):(zs.map Prod.fst).Nodup∧zs.length=(dirsOf l).length:=by
  have h1:=congrArg (List.map Prod.fst) h;rw[List.map_map]at h1;unfold dirsOf at h1;rw[List.map_map]at h1;have h2:zs.map Prod.fst=dirsI l:=by
    have e1:List.map (Prod.fst∘zD) zs=zs.map Prod.fst:=rfl;have e2:List.map (Prod.fst∘fun q=>(q,entsI l q)) (dirsI l)=dirsI l:=by simp[Function.comp_def]
    rw[e1,e2]at h1;exact h1
  refine⟨by rw[h2];exact dirsI_nodup l,?_⟩;have:=congrArg List.length h;rwa[List.length_map]at this
theorem no_make {bs:List UInt8}{zs:List ZD}{cnt:Nat}(hz:zs.map zD=dirsR bs)(hc:(zs.map Prod.fst).Nodup→cnt=zs.length)(hn:¬makeB (stG (zs.map zD)) (cookR bs) cnt):NoImg bs:=fun l nx hg hx e=>by
  obtain⟨h1,h2⟩:=own_read hg hx;rw[←e]at h1 h2;rw[h2]at hz;obtain⟨k1,k2⟩:=keys_nodup (nx:=nx) hz;apply hn;rw[hz,h1,hc k1,k2];exact own_make hg
theorem no_same {bs:List UInt8}{zs:List ZD}(hz:zs.map zD=dirsR bs)(hn:imgI (fillAll (stG (zs.map zD)) (cookR bs)).2.1 (cookR bs)≠bs):NoImg bs:=fun l nx hg hx e=>by
  obtain⟨h1,h2⟩:=own_read hg hx;rw[←e]at h1 h2;rw[h2]at hz;apply hn;obtain⟨l',e1,hg',ht⟩:=own_twin hg;rw[hz,h1,stG_own,e1,e];exact img_twin hg hg' ht
theorem bytes_neq {a b:List UInt8}(h:a≠b):((⟨a.toArray⟩:ByteArray).toList==(⟨b.toArray⟩:ByteArray).toList)=false:=by
  rw[beq_eq_false_iff_ne,ByteArray.toList_eq,ByteArray.toList_eq];exact h
set_option maxHeartbeats 8000000 in
theorem decodeI_c (bs:List UInt8)(w:World)(hbs:bs.length≤9223372036854775807) :
    Calls Tryz.prog 104 #[.string ⟨bs.toArray⟩] w (IDPost bs w):=by
  unfold IDPost;have hsz:(⟨bs.toArray⟩:ByteArray).size=bs.length:=rfl;by_cases hlong:60000<bs.length
  · have hi:(60000:Int)<(bs.length:Int):=by omega
    have HN:=Lib.hid (no_long hlong);go_enter Tryz.func104,Tryz.ntmps104;go_wp2_with fail;go_ret2;exact Or.inl ⟨rfl,Below.refl _ _,HN.out⟩
  · have hi:¬(60000:Int)<(bs.length:Int):=by omega
    have hlen:bs.length≤60000:=by omega
    have HLEN:=Lib.hid hlen;have cR:=inewReader_c ⟨bs.toArray⟩ w;clear hlong hlen hbs;go_enter Tryz.func104,Tryz.ntmps104;go_upto_region 4 with(go_at_call 147;refine cR.mono ?_;rintro e w1 ⟨rb,rfl,hr1,hrb,hb1⟩;have HR1:=Lib.hid hr1;have HB1:=Lib.hid hb1;have HRB:=Lib.hid hrb;clear hr1 hb1 hrb);clear cR;have cN:=rnumber_c rb 8 bs false w1 HR1.out (by omega) (by have:=HLEN.out;omega);obtain⟨r1,hr1⟩:∃r1,RS.num 8 ⟨bs,false⟩=r1:=⟨_,rfl⟩;have hl1:r1.l.length≤100000:=by
      rw[←hr1];exact Nat.le_trans (num_le 8 _) (by have:=HLEN.out;show bs.length≤_;omega)
    have cN2:Calls Tryz.prog 57 #[ptV rb,.int .i64 8] w1 (RdPost IR rb w1 r1.l r1.p (.int .i64 (cookR bs))):=by
      rw[←hr1];exact cN
    unfold RdPost at cN2;clear cN;obtain⟨ck,hck⟩:∃ck,cookR bs=ck:=⟨_,rfl⟩;have HCK:=Lib.hid hck;rw[hck]at cN2;have HR1E:=Lib.hid hr1;clear hck hr1;go_upto_region 5 with(go_at_call 57;refine cN2.mono ?_;rintro e w2 ⟨rfl,hr2,hg2⟩;have HR2:=Lib.hid hr2;have HB2:=Lib.hid (HB1.out.grown hg2 HB1.out.size (fun k hk=>by have:=Option.some.inj hk;have:=HRB.out;omega));clear hr2 hg2);clear cN2;have cS:=sevD_c rb r1 w2 HR2.out hl1;unfold SDPost dirF at cS;have cB:Hid (∀(v:Value) (zs:List ZD) (B B0:Nat) (W:World),W.ownsRow B 200 2 v zs.length (zs.flatMap zC)→ZOk W B0 zs→zs.map zD=dirsR bs→Calls Tryz.prog 149 #[v] W (BNPost zs W)):=Lib.hid fun v zs B B0 W hv hz hm=>by
      refine byNode_c v zs B B0 W hv hz (fun z hz'=>?_) ?_
      · exact dirsR_node bs (zD z) (by rw[←hm];exact List.mem_map_of_mem hz')
      · have:=dirsR_len bs;rw[←hm,List.length_map]at this;exact this
    unfold BNPost at cB;have cM:Hid (∀(W:World) (mb n cnt:Nat) (F:Int→Option Value) (zs:List ZD) (t:Bool),DirsHi 0 W mb n F cnt (stG (zs.map zD))→zs.map zD=dirsR bs→(t=true↔makeB (stG (zs.map zD)) ck cnt)→Calls Tryz.prog 148 #[.int .i64 ck,.map (some mb)] W (MakePost (stG (zs.map zD)) ck t W)):=Lib.hid fun W mb n cnt F zs t hd hm ht =>
      make_c W mb n cnt F _ ck hd.at' hd.f (by rw[hm];exact small_read bs (by have:=HLEN.out;omega)) t ht
    unfold MakePost at cM;have HDR:Hid ((sevR dirR r1).1=dirsR bs):=Lib.hid (by rw[←HR1E.out];rfl);rw[HDR.out]at cS;go_wp2_with (first
      | (go_at_call 150;refine cS.mono ?_;rintro e w3 ⟨v3,zs,rfl,ho3,hz3,hm3,_,hg3⟩;have HO3:=Lib.hid ho3;have HZ3:=Lib.hid hz3;have HM3:=Lib.hid hm3;have HB3:=Lib.hid (HB2.out.grown hg3 HB2.out.size (fun k hk=>by have:=Option.some.inj hk;have:=HRB.out;omega));clear ho3 hz3 hm3 hg3;have cBB:=cB.out v3 zs _ _ w3 HO3.out HZ3.out HM3.out;obtain⟨a3,c3,hv3⟩:=ownsRow_slice HO3.out;subst hv3)
      | (go_at_call 149;refine cBB.mono ?_;rintro e w4 ⟨mb,F,cnt,rfl,hd4,hc4,hb4⟩;have HD4:=Lib.hid hd4;have HC4:=Lib.hid hc4;have HB4:=Lib.hid (HB3.out.trans (hb4.mono HB3.out.size));clear hd4 hc4 hb4;obtain⟨t,ht⟩:∃t:Bool,t=true↔makeB (stG (zs.map zD)) ck cnt:=(Classical.em (makeB (stG (zs.map zD)) ck cnt)).elim (fun h=>⟨true,by simp[h]⟩) (fun h=>⟨false,by simp[h]⟩);have HT:=Lib.hid ht;have cMM:=cM.out w4 mb _ cnt F zs t HD4.out HM3.out ht;clear ht))
    have cTail:True:=trivial;cases t with
    | false =>
      refine cMM.mono ?_;rintro e w5 ⟨hno,_⟩;obtain⟨rfl,hb5⟩:=hno rfl;have HB5:=Lib.hid (HB4.out.trans (hb5.mono HB4.out.size));have HNO:Hid (NoImg bs):=Lib.hid (no_make HM3.out HC4.out (by rw[HCK.out];intro h;have:=HT.out.2 h;cases this));clear hb5 hno cMM cBB cS;go_wp2;go_ret2;exact Or.inl ⟨rfl,HB5.out,HNO.out⟩
    | true =>
      refine cMM.mono ?_;rintro e w5 ⟨_,hyes⟩;obtain⟨tb,S,rfl,hi5,hf5,hb5⟩:=hyes rfl;have HI5:=Lib.hid hi5;have HF5:Hid (∀k,S k→w.heap.size≤k):=Lib.hid fun k hk=>Nat.le_trans HB4.out.size (hf5 k hk)
      have HB5:=Lib.hid (HB4.out.trans (hb5.mono HB4.out.size));have hck9:ck≤9223372036854775807:=by rw[←HCK.out];exact cookR_max bs
      have HC9:=Lib.hid hck9;have cE:=encode_c hi5 hck9;clear hyes hi5 hf5 hb5 hck9 cMM cBB cS;obtain⟨L,hL⟩:∃L,imgI (fillAll (stG (zs.map zD)) ck).2.1 ck=L:=⟨_,rfl⟩;have HL:=Lib.hid hL;rw[hL]at cE;by_cases heq:L=bs
      · subst heq;clear hL;go_wp2_with (go_at_call 72;refine cE.mono ?_;rintro e w6 ⟨rfl,hb6⟩;have HB6:=Lib.hid hb6;clear hb6);go_ret2;exact Or.inr ⟨tb,_,ck,S,rfl,theTree.below HI5.out HB6.out,HF5.out,HB5.out.trans (HB6.out.mono HB5.out.size),HL.out,HC9.out⟩
      · have hne:=bytes_neq heq;have hne2:(L==bs)=false:=beq_eq_false_iff_ne.2 heq;have HNO:Hid (NoImg bs):=Lib.hid (no_same HM3.out (by rw[HCK.out,hL];exact heq));clear hL;go_wp2_with (go_at_call 72;refine cE.mono ?_;rintro e w6 ⟨rfl,hb6⟩;have HB6:=Lib.hid hb6;clear hb6);go_ret2;exact Or.inl ⟨rfl,HB5.out.trans (HB6.out.mono HB5.out.size),HNO.out⟩
end Go.Proofs.YtdmkhmeaphaapaaGreat
