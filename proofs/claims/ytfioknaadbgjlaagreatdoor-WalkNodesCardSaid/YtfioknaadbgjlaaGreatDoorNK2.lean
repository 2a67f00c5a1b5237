/- Kit. -/
import Derived.Test.YtfioknaadbgjlaaGreatDoorProg
import Derived.Test.YtfioknaadbgjlaaGreatDoorNK1
import Derived.WalkKit
import Derived.WalkSpells
import Derived.Lib.Hide
import Derived.IntWalk
import Derived.Laws.IdiomStrings
import Derived.KernelRfl
import Derived.Shelf.Unicode.DecodeSlow
import Derived.Below
import Derived.PlainAid
import Derived.Handy
import Derived.Deep.RegionWith
import Derived.Deep.RegionHeld3
import Derived.Deep.QuietTactic
import Derived.BigQuiet
import Derived.LoopTactic
import Derived.Deep.LoopGhost
import Derived.Laws.NewBlocks
set_option maxRecDepth 100000
set_option linter.unusedVariables false
set_option linter.unusedSimpArgs false
namespace Go.Proofs.YtfioknaadbgjlaaGreatDoor.F
open Go.RowKit
set_option maxHeartbeats 400000 in
theorem refIs_c (r:Int)(w:World) :
    Calls Tryz.prog 212 #[.int .i32 r] w fun e w'=>e=.returned (.bool (isR r))∧w=w':=by
  by_cases h1:0≤r
  · by_cases h2:r<55296
    · rw[isR_of (by omega)]
      go_enter Tryz.func212,Tryz.ntmps212
      go_wp2
      go_ret
      exact⟨rfl,rfl⟩
    · by_cases h3:57343<r
      · by_cases h4:r≤1114111
        · rw[isR_of (by omega)]
          go_enter Tryz.func212,Tryz.ntmps212
          go_wp2
          go_ret
          exact⟨rfl,rfl⟩
        · rw[isR_not (by omega)]
          go_enter Tryz.func212,Tryz.ntmps212
          go_wp2
          go_ret
          exact⟨rfl,rfl⟩
      · rw[isR_not (by omega)]
        go_enter Tryz.func212,Tryz.ntmps212
        go_wp2
        go_ret
        exact⟨rfl,rfl⟩
  · have h3:¬57343<r:=by omega
    rw[isR_not (by omega)]
    go_enter Tryz.func212,Tryz.ntmps212
    go_wp2
    go_ret
    exact⟨rfl,rfl⟩
end Go.Proofs.YtfioknaadbgjlaaGreatDoor.F
namespace Go.Proofs.YtfioknaadbgjlaaGreatDoor.F
open Go.RowKit
theorem foldl_push_ints:∀(l:List Int) (r:ByteArray),l.foldl (fun r n=>r.push (UInt8.ofNat n.toNat)) r=⟨r.data++(l.map fun z=>UInt8.ofNat z.toNat).toArray⟩
  | [],r=>by simp
  | b::l,r=>by
    rw[List.foldl_cons,foldl_push_ints l]
    simp[ByteArray.push]
theorem conv_back (zs:List Int)(w:World) :
    (convert 110 9 (.slice (some ⟨w.heap.size,0,none⟩) zs.length zs.length)).run Tryz.prog (w.alloc (.cells (zs.map (Value.int .u8)).toArray 5)) =
      .ok (.string ⟨(zs.map fun z=>UInt8.ofNat z.toNat).toArray⟩) (w.alloc (.cells (zs.map (Value.int .u8)).toArray 5)):=by
  rw[run_convert_bytes_string _ 110 9 5 _ _ _ Tryz.underlying110 Tryz.underlying5 Tryz.underlying9]
  have hl:=run_loadCells_list (P:=Tryz.prog) (w.alloc (.cells (zs.map (Value.int .u8)).toArray 5)) ⟨w.heap.size,0,none⟩ (zs.map (Value.int .u8)) (fun j v hj=>by
    have:(Addr.add ⟨w.heap.size,0,none⟩ j)=⟨w.heap.size,j,none⟩:=by
      simp[Addr.add]
      exact fun h=>h.symm
    rw[this,World.cell?_alloc_mark]
    simpa using hj)
  simp only[List.length_map]at hl
  rw[run_bytesToString _ _ zs.length _ zs hl,foldl_push_ints]
  have he0:ByteArray.empty.data=#[]:=rfl
  rw[he0]
  simp
theorem encode_of (n:Nat)(h:isR (n:Int)=true)(zs:List Int)(hz:(zs.map fun z=>UInt8.ofNat z.toNat)=Lib.encodeRune (n:Int)):(⟨(zs.map fun z=>UInt8.ofNat z.toNat).toArray⟩:ByteArray)=Utf8.encode (n:Int):=by
  rw[hz]
  apply ByteArray.ext
  apply Array.ext'
  rw[encode_toList _ h]
set_option maxHeartbeats 1000000 in
theorem refBytes1 (n:Nat)(h:n<128)(w:World) :
    Calls Tryz.prog 213 #[.int .i32 n] w fun e w'=>e=.returned (.string (Utf8.encode n))∧Below w.heap.size w w':=by
  have hz:(n:Int)<128:=by omega
  have ke:=encode_of n (isR_of (by omega)) [(n:Int)] (by
    rw[enc1 n h]
    have e1:((n:Int)).toNat=n:=by omega
    simp only[List.map,e1])
  have kc:∀w:World,(convert 110 9 (.slice (some ⟨w.heap.size,0,none⟩) 1 1)).run Tryz.prog (w.alloc (.cells #[.int .u8 ((n:Int))] 5))=.ok (.string (Utf8.encode n)) (w.alloc (.cells #[.int .u8 ((n:Int))] 5)):=fun w=>by
    have:=conv_back [(n:Int)] w
    rw[ke]at this
    exact this
  clear ke
  go_enter Tryz.func213,Tryz.ntmps213
  go_wp2
  go_ret
  exact⟨rfl,(Below.refl _ _).alloc (Nat.le_refl _) _⟩
set_option maxHeartbeats 1000000 in
theorem refBytes2 (n:Nat)(h:128≤n)(h':n<2048)(w:World) :
    Calls Tryz.prog 213 #[.int .i32 n] w fun e w'=>e=.returned (.string (Utf8.encode n))∧Below w.heap.size w w':=by
  have hz:¬(n:Int)<128:=by omega
  have hz':(n:Int)<2048:=by omega
  have ke:=encode_of n (isR_of (by omega)) [192+(n:Int)/64,128+(n:Int)%64] (by
    rw[enc2 n h h']
    have e1:(192+(n:Int)/64).toNat=192+n/64:=by omega
    have e2:(128+(n:Int)%64).toNat=128+n%64:=by omega
    simp only[List.map,e1,e2])
  have kc:∀w:World,(convert 110 9 (.slice (some ⟨w.heap.size,0,none⟩) 2 2)).run Tryz.prog (w.alloc (.cells #[.int .u8 (192+(n:Int)/64),.int .u8 (128+(n:Int)%64)] 5))=.ok (.string (Utf8.encode n)) (w.alloc (.cells #[.int .u8 (192+(n:Int)/64),.int .u8 (128+(n:Int)%64)] 5)):=fun w=>by
    have:=conv_back [192+(n:Int)/64,128+(n:Int)%64] w
    rw[ke]at this
    exact this
  clear ke
  go_enter Tryz.func213,Tryz.ntmps213
  go_wp2
  go_ret
  exact⟨rfl,(Below.refl _ _).alloc (Nat.le_refl _) _⟩
set_option maxHeartbeats 1000000 in
theorem refBytes3 (n:Nat)(h:2048≤n)(h':n<65536)(hr:n<55296∨57343<n)(w:World) :
    Calls Tryz.prog 213 #[.int .i32 n] w fun e w'=>e=.returned (.string (Utf8.encode n))∧Below w.heap.size w w':=by
  have hz:¬(n:Int)<128:=by omega
  have hz':¬(n:Int)<2048:=by omega
  have hz'':(n:Int)<65536:=by omega
  have ke:=encode_of n (isR_of (by omega)) [224+(n:Int)/4096,128+(n:Int)/64%64,128+(n:Int)%64] (by
    rw[enc3 n h h' hr]
    have e1:(224+(n:Int)/4096).toNat=224+n/4096:=by omega
    have e2:(128+(n:Int)/64%64).toNat=128+n/64%64:=by omega
    have e3:(128+(n:Int)%64).toNat=128+n%64:=by omega
    simp only[List.map,e1,e2,e3])
  have kc:∀w:World,(convert 110 9 (.slice (some ⟨w.heap.size,0,none⟩) 3 3)).run Tryz.prog (w.alloc (.cells #[.int .u8 (224+(n:Int)/4096),.int .u8 (128+(n:Int)/64%64),.int .u8 (128+(n:Int)%64)] 5))=.ok (.string (Utf8.encode n)) (w.alloc (.cells #[.int .u8 (224+(n:Int)/4096),.int .u8 (128+(n:Int)/64%64),.int .u8 (128+(n:Int)%64)] 5)):=fun w=>by
    have:=conv_back [224+(n:Int)/4096,128+(n:Int)/64%64,128+(n:Int)%64] w
    rw[ke]at this
    exact this
  clear ke
  go_enter Tryz.func213,Tryz.ntmps213
  go_wp2
  go_ret
  exact⟨rfl,(Below.refl _ _).alloc (Nat.le_refl _) _⟩
set_option maxHeartbeats 1000000 in
theorem refBytes4 (n:Nat)(h:65536≤n)(h':n≤1114111)(w:World) :
    Calls Tryz.prog 213 #[.int .i32 n] w fun e w'=>e=.returned (.string (Utf8.encode n))∧Below w.heap.size w w':=by
  have hz:¬(n:Int)<128:=by omega
  have hz':¬(n:Int)<2048:=by omega
  have hz'':¬(n:Int)<65536:=by omega
  have hz4:(n:Int)≤1114111:=by omega
  have ke:=encode_of n (isR_of (by omega)) [240+(n:Int)/262144,128+(n:Int)/4096%64,128+(n:Int)/64%64,128+(n:Int)%64] (by
    rw[enc4 n h h']
    have e1:(240+(n:Int)/262144).toNat=240+n/262144:=by omega
    have e2:(128+(n:Int)/4096%64).toNat=128+n/4096%64:=by omega
    have e3:(128+(n:Int)/64%64).toNat=128+n/64%64:=by omega
    have e4:(128+(n:Int)%64).toNat=128+n%64:=by omega
    simp only[List.map,e1,e2,e3,e4])
  have kc:∀w:World,(convert 110 9 (.slice (some ⟨w.heap.size,0,none⟩) 4 4)).run Tryz.prog (w.alloc (.cells #[.int .u8 (240+(n:Int)/262144),.int .u8 (128+(n:Int)/4096%64),.int .u8 (128+(n:Int)/64%64),.int .u8 (128+(n:Int)%64)] 5))=.ok (.string (Utf8.encode n)) (w.alloc (.cells #[.int .u8 (240+(n:Int)/262144),.int .u8 (128+(n:Int)/4096%64),.int .u8 (128+(n:Int)/64%64),.int .u8 (128+(n:Int)%64)] 5)):=fun w=>by
    have:=conv_back [240+(n:Int)/262144,128+(n:Int)/4096%64,128+(n:Int)/64%64,128+(n:Int)%64] w
    rw[ke]at this
    exact this
  clear ke
  go_enter Tryz.func213,Tryz.ntmps213
  go_wp2
  go_ret
  exact⟨rfl,(Below.refl _ _).alloc (Nat.le_refl _) _⟩
theorem refBytes_c (r:Int)(hr:isR r=true)(w:World) :
    Calls Tryz.prog 213 #[.int .i32 r] w fun e w'=>e=.returned (.string (Utf8.encode r))∧Below w.heap.size w w':=by
  have h:=isR_is hr
  obtain⟨n,rfl⟩:∃n:Nat,r=(n:Int):=⟨r.toNat,by omega⟩
  by_cases h1:n<128
  · exact refBytes1 n h1 w
  · by_cases h2:n<2048
    · exact refBytes2 n (by omega) h2 w
    · by_cases h3:n<65536
      · exact refBytes3 n (by omega) h3 (by omega) w
      · exact refBytes4 n (by omega) (by omega) w
end Go.Proofs.YtfioknaadbgjlaaGreatDoor.F
namespace Go.Proofs.YtfioknaadbgjlaaGreatDoor.F
open Go.RowKit
def nextG (b:ByteArray)(at':Int):Nat×Nat:=
  if at'<0∨(b.size:Int)≤at' then(0,0) else if(Utf8.decode b at'.toNat).1=65533∧(Utf8.decode b at'.toNat).2=1 then(0,0) else Utf8.decode b at'.toNat
theorem nextG_out {b:ByteArray}{at':Int}(h:at'<0∨(b.size:Int)≤at'):nextG b at'=(0,0):=by unfold nextG;rw[if_pos h]
theorem nextG_bad {b:ByteArray}{at':Int}(h:¬(at'<0∨(b.size:Int)≤at'))(h':(Utf8.decode b at'.toNat).1=65533∧(Utf8.decode b at'.toNat).2=1):nextG b at'=(0,0):=by unfold nextG;rw[if_neg h,if_pos h']
theorem nextG_good {b:ByteArray}{at':Int}(h:¬(at'<0∨(b.size:Int)≤at'))(h':¬((Utf8.decode b at'.toNat).1=65533∧(Utf8.decode b at'.toNat).2=1)):nextG b at'=Utf8.decode b at'.toNat:=by unfold nextG;rw[if_neg h,if_neg h']
theorem decodeGo_ext (s:ByteArray)(pos:Nat)(h:pos<s.size):Lib.decodeGo (s.extract pos s.size)=Utf8.decode s pos:=by
  unfold Lib.decodeGo
  have hz:(s.extract pos s.size).size≠0:=by rw[ByteArray.size_extract];omega
  rw[if_neg hz,←Lib.decodeL_drop s pos]
  unfold Lib.decodeL
  congr 1
  apply ByteArray.ext
  rw[ByteArray.data_extract]
  apply Array.ext'
  rw[Array.toList_extract]
  simp only[List.extract_eq_take_drop]
  rw[List.take_of_length_le (by simp)]
theorem nextG_L {b:ByteArray}{k:Nat}(hk:k<b.size):nextG b (k:Int)=nextL (b.data.toList.drop k):=by
  have hd:=Lib.decodeL_drop b k
  have hne:b.data.toList.drop k≠[]:=by
    intro h
    have:=congrArg List.length h
    have hz:b.data.toList.length=b.size:=by simp
    simp only[List.length_drop,List.length_nil]at this
    omega
  unfold nextG nextL
  rw[if_neg (by omega),if_neg hne,hd]
  have hn:((k:Int)).toNat=k:=by omega
  rw[hn]
theorem below_drewN {B:Nat}{a w:World}(h:Below B a w):∀q,Below B a (w.drewN q)
  | 0=>h
  | q+1=>(below_drewN h q).drew
theorem below_step {w wx w':World}(h1:Below w.heap.size w wx)(h2:Below wx.heap.size wx w'):Below w.heap.size w w':=h1.trans (h2.mono h1.size)
theorem gB_bt (b:ByteArray)(k i:Nat):(gB (b.data.toList.drop k) i:Int)=Go.PlainAid.bt b (k+i):=by
  unfold gB
  rw[List.getD_eq_getElem?_getD,List.getElem?_drop]
  by_cases h:k+i<b.size
  · have h':k+i<b.data.toList.length:=by simpa using h
    rw[List.getElem?_eq_getElem h',Option.getD_some,←Go.PlainAid.get_bt b (k+i) h]
    rfl
  · have h':b.data.toList.length≤k+i:=by simpa using h
    rw[List.getElem?_eq_none h',Option.getD_none,Go.PlainAid.bt_end b (by omega)]
    rfl
theorem take_ext (b:ByteArray)(k s:Nat):(b.extract k (k+s)).toList=(b.data.toList.drop k).take s:=by
  rw[Go.Lib.toList_data,ByteArray.data_extract,Array.toList_extract]
  simp only[List.extract_eq_take_drop]
  congr 1
  omega
theorem hit_yes {b:ByteArray}{k s:Nat}{N:Int}(hfit:k+s≤b.size)(hN:(numL s (b.data.toList.drop k):Int)=N)(hr:isR N=true)(hq:((Utf8.encode N).toList==(b.extract k (k+s)).toList)=true):Hit s (b.data.toList.drop k):=by
  have hq':=eq_of_beq hq
  rw[take_ext,Go.Lib.toList_data,encode_toList N hr]at hq'
  refine⟨?_,by rw[hN];exact hr,by rw[hN];exact hq'⟩
  rw[List.length_drop]
  have hz:b.data.toList.length=b.size:=by simp
  omega
theorem hit_no {b:ByteArray}{k s:Nat}{N:Int}(hN:(numL s (b.data.toList.drop k):Int)=N)(hr:isR N=true)(hq:((Utf8.encode N).toList==(b.extract k (k+s)).toList)=false):¬Hit s (b.data.toList.drop k):=by
  rintro⟨h1,h2,h3⟩
  rw[hN]at h3
  have:((Utf8.encode N).toList==(b.extract k (k+s)).toList)=true:=by
    rw[take_ext,Go.Lib.toList_data,encode_toList N hr,h3]
    exact beq_self_eq_true _
  rw[this]at hq
  cases hq
theorem hit_not {b:ByteArray}{k s:Nat}{N:Int}(hN:(numL s (b.data.toList.drop k):Int)=N)(hr:isR N=false):¬Hit s (b.data.toList.drop k):=by
  rintro⟨h1,h2,h3⟩
  rw[hN,hr]at h2
  cases h2
theorem hit_long {b:ByteArray}{k s:Nat}(h:b.size<k+s)(hk:k<b.size):¬Hit s (b.data.toList.drop k):=by
  rintro⟨h1,h2,h3⟩
  rw[List.length_drop]at h1
  have hz:b.data.toList.length=b.size:=by simp
  omega
end Go.Proofs.YtfioknaadbgjlaaGreatDoor.F
namespace Go.Proofs.YtfioknaadbgjlaaGreatDoor.F
open Go.RowKit
def RelN (b:ByteArray)(k:Nat)(w0:World)(sv:Value)(wr:World):Prop:=
  ∃s:Nat,1≤s∧s≤5∧sv=.int .i64 s∧(∀t,1≤t→t<s→¬Hit t (b.data.toList.drop k))∧Below w0.heap.size w0 wr
theorem rel_more {s:Nat}{l:List UInt8}(h:∀t,1≤t→t<s→¬Hit t l)(h':¬Hit s l):∀t,1≤t→t<s+1→¬Hit t l:=by
  intro t h1 h2
  by_cases e:t=s
  · subst e;exact h'
  · exact h t h1 (by omega)
set_option maxHeartbeats 4000000 in
theorem refNext_in (b:ByteArray)(k:Nat)(hk:k<b.size)(hs:b.size≤4000)(w:World) :
    Calls Tryz.prog 193 #[.string b,.int .i64 k] w fun e w'=>e=.returned (.tuple #[.int .i32 (nextG b k).1,.int .i64 (nextG b k).2])∧Below w.heap.size w w':=by
  have hkz:(k:Int)<(b.size:Int):=by omega
  have hk0:¬(k:Int)<0:=by omega
  have ix2:∀w:World,(Instr.index 255 (.agg #[.int .i64 0,.int .i64 0,.int .i64 32,.int .i64 16,.int .i64 8]) (.int .i64 2)).run Tryz.prog w=.ok (.int .i64 32) w:=fun _=>by kernel_rfl
  have ix3:∀w:World,(Instr.index 255 (.agg #[.int .i64 0,.int .i64 0,.int .i64 32,.int .i64 16,.int .i64 8]) (.int .i64 3)).run Tryz.prog w=.ok (.int .i64 16) w:=fun _=>by kernel_rfl
  have ix4:∀w:World,(Instr.index 255 (.agg #[.int .i64 0,.int .i64 0,.int .i64 32,.int .i64 16,.int .i64 8]) (.int .i64 4)).run Tryz.prog w=.ok (.int .i64 8) w:=fun _=>by kernel_rfl
  go_enter Tryz.func193,Tryz.ntmps193
  go_wp2
  go_loopw [6] (fun sv wr=>RelN b k w sv wr) (fun sv _=>5-(intOf sv).toNat)
  case atStart=>exact⟨1,by omega,by omega,rfl,fun t h1 h2=>by omega,Below.refl _ _⟩
  case round =>
    obtain⟨s,h1,h5,rfl,hno,hbel⟩:=hrel
    have HNO:=Lib.hid hno
    clear hno
    by_cases h4:s=5
    · subst h4
      have HZ:Hid (nextG b k=(0,0)):=by rw[nextG_L hk];exact no_hit (fun t ha hb=>HNO.out t ha (by omega))
      go_wp2
      go_ret2
      exact⟨by rw[HZ.out];rfl,hbel⟩
    · by_cases hfit:k+s≤b.size
      · obtain rfl|rfl|rfl|rfl:s=1∨s=2∨s=3∨s=4:=by omega
        · have f1:¬((b.size:Int)-(k:Int)<1):=by omega
          have hB:=Go.PlainAid.get_bt b
          obtain⟨A,hA⟩:∃A:Int,Go.PlainAid.bt b k=A:=⟨_,rfl⟩
          have gA0:0≤A:=by have:=Go.PlainAid.bt_nonneg b k;omega
          have gA:A≤255:=by have:=Go.PlainAid.bt_le b k;omega
          have hNL:(numL 1 (b.data.toList.drop k):Int)=A:=by have:=gB_bt b k 0;unfold numL;rw[if_pos rfl,this];exact hA
          have hw1:wrap32 A=A:=by unfold wrap32;omega
          have hw2:IntKind.i32.wrap A=A:=by rw[IntKind.wrap_i32];omega
          have hI:=refIs_c A
          by_cases hr:isR A=true
          · have hR:=refBytes_c A hr
            have hQ:=Bool.eq_false_or_eq_true ((Utf8.encode A).toList==(b.extract k (k+1)).toList)
            rcases hQ with hq|hq
            · have hx:=hit_next (by omega) (hit_yes hfit hNL hr hq)
              rw[←nextG_L hk]at hx
              have HX:Hid (((nextG b k).1:Int)=A∧((nextG b k).2:Int)=1):=by rw[hx];exact⟨hNL,rfl⟩
              rw[hr]at hI
              clear hr hx hNL
              generalize Utf8.encode A=en at *
              go_wp2
              go_rounds 2
              have s0:IntKind.i64.wrap ((k:Int)+1)=(k:Int)+1:=IntWalk.i64_in _ (by omega)
              have s1:(0:Int)≤(k:Int)+1:=by omega
              have s2:(0:Int)≤(k:Int):=by omega
              have s3:(k:Int)≤(k:Int)+1:=by omega
              have s4:(k:Int)+1≤(b.size:Int):=by omega
              have s5:((k:Int)+1).toNat=k+1:=by omega
              go_region_held3 (fun w'=>Below w.heap.size w w') (first|assumption|exact Below.drew ‹_›|exact below_step ‹_› ‹_›) (first|(go_at_call 212;refine(hI _).mono ?_;rintro e w' ⟨rfl,rfl⟩)|(go_at_call 213;refine(hR _).mono ?_;rintro e w' ⟨rfl,hb⟩))
              go_wp2
              go_ret2
              exact⟨by rw[HX.out.1,HX.out.2];rfl,by assumption⟩
            · have hx:=hit_no hNL hr hq
              have HX:=Lib.hid hx
              rw[hr]at hI
              clear hr hx hNL
              generalize Utf8.encode A=en at *
              go_wp2
              go_rounds 2
              have s0:IntKind.i64.wrap ((k:Int)+1)=(k:Int)+1:=IntWalk.i64_in _ (by omega)
              have s1:(0:Int)≤(k:Int)+1:=by omega
              have s2:(0:Int)≤(k:Int):=by omega
              have s3:(k:Int)≤(k:Int)+1:=by omega
              have s4:(k:Int)+1≤(b.size:Int):=by omega
              have s5:((k:Int)+1).toNat=k+1:=by omega
              go_region_held3 (fun w'=>Below w.heap.size w w') (first|assumption|exact Below.drew ‹_›|exact below_step ‹_› ‹_›) (first|(go_at_call 212;refine(hI _).mono ?_;rintro e w' ⟨rfl,rfl⟩)|(go_at_call 213;refine(hR _).mono ?_;rintro e w' ⟨rfl,hb⟩))
              go_wp2
              go_roundw
              case rel=>exact⟨2,by omega,by omega,rfl,rel_more HNO.out HX.out,by first|assumption|exact below_drewN hbel _⟩
              case measure=>simp[intOf]
          · have hr':isR A=false:=by simpa using hr
            have hx:=hit_not hNL hr'
            have HX:=Lib.hid hx
            rw[hr']at hI
            clear hr hr' hx hNL
            go_wp2
            go_rounds 2
            have s0:IntKind.i64.wrap ((k:Int)+1)=(k:Int)+1:=IntWalk.i64_in _ (by omega)
            have s1:(0:Int)≤(k:Int)+1:=by omega
            have s2:(0:Int)≤(k:Int):=by omega
            have s3:(k:Int)≤(k:Int)+1:=by omega
            have s4:(k:Int)+1≤(b.size:Int):=by omega
            have s5:((k:Int)+1).toNat=k+1:=by omega
            go_quiet ((go_at_call 212;exact Calls.quiet_of_same ((hI _).mono fun _ _ h=>⟨h.1,h.2.symm⟩)))
            go_wp2
            go_roundw
            case rel=>exact⟨2,by omega,by omega,rfl,rel_more HNO.out HX.out,by first|assumption|exact below_drewN hbel _⟩
            case measure=>simp[intOf]
        · have f1:¬((b.size:Int)-(k:Int)<2):=by omega
          have hB:=Go.PlainAid.get_bt b
          obtain⟨A,hA⟩:∃A:Int,Go.PlainAid.bt b k=A:=⟨_,rfl⟩
          obtain⟨B,hB⟩:∃B:Int,Go.PlainAid.bt b (k+1)=B:=⟨_,rfl⟩
          have gA0:0≤A:=by have:=Go.PlainAid.bt_nonneg b k;omega
          have gA:A≤255:=by have:=Go.PlainAid.bt_le b k;omega
          have gB0:0≤B:=by have:=Go.PlainAid.bt_nonneg b (k+1);omega
          have gB:B≤255:=by have:=Go.PlainAid.bt_le b (k+1);omega
          obtain⟨N,hN⟩:∃N:Int,A%32*64+B%64=N:=⟨_,rfl⟩
          have gN0:0≤N:=by omega
          have gN:N≤2097151:=by omega
          have hNL:(numL 2 (b.data.toList.drop k):Int)=N:=by
            have e0:=gB_bt b k 0
            rw[show Go.PlainAid.bt b (k+0)=A from hA]at e0
            have e1:=gB_bt b k 1
            rw[show Go.PlainAid.bt b (k+1)=B from hB]at e1
            unfold numL
            rw[if_neg (by omega),if_pos rfl]
            omega
          have hw1:wrap32 N=N:=by unfold wrap32;omega
          have hw2:IntKind.i32.wrap N=N:=by rw[IntKind.wrap_i32];omega
          have hI:=refIs_c N
          by_cases hr:isR N=true
          · have hR:=refBytes_c N hr
            have hQ:=Bool.eq_false_or_eq_true ((Utf8.encode N).toList==(b.extract k (k+2)).toList)
            rcases hQ with hq|hq
            · have hx:=hit_next (by omega) (hit_yes hfit hNL hr hq)
              rw[←nextG_L hk]at hx
              have HX:Hid (((nextG b k).1:Int)=N∧((nextG b k).2:Int)=2):=by rw[hx];exact⟨hNL,rfl⟩
              rw[hr]at hI
              clear hr hx hNL
              generalize Utf8.encode N=en at *
              go_wp2
              go_rounds 3
              have s0:IntKind.i64.wrap ((k:Int)+2)=(k:Int)+2:=IntWalk.i64_in _ (by omega)
              have s1:(0:Int)≤(k:Int)+2:=by omega
              have s2:(0:Int)≤(k:Int):=by omega
              have s3:(k:Int)≤(k:Int)+2:=by omega
              have s4:(k:Int)+2≤(b.size:Int):=by omega
              have s5:((k:Int)+2).toNat=k+2:=by omega
              go_region_held3 (fun w'=>Below w.heap.size w w') (first|assumption|exact Below.drew ‹_›|exact below_step ‹_› ‹_›) (first|(go_at_call 212;refine(hI _).mono ?_;rintro e w' ⟨rfl,rfl⟩)|(go_at_call 213;refine(hR _).mono ?_;rintro e w' ⟨rfl,hb⟩))
              go_wp2
              go_ret2
              exact⟨by rw[HX.out.1,HX.out.2];rfl,by assumption⟩
            · have hx:=hit_no hNL hr hq
              have HX:=Lib.hid hx
              rw[hr]at hI
              clear hr hx hNL
              generalize Utf8.encode N=en at *
              go_wp2
              go_rounds 3
              have s0:IntKind.i64.wrap ((k:Int)+2)=(k:Int)+2:=IntWalk.i64_in _ (by omega)
              have s1:(0:Int)≤(k:Int)+2:=by omega
              have s2:(0:Int)≤(k:Int):=by omega
              have s3:(k:Int)≤(k:Int)+2:=by omega
              have s4:(k:Int)+2≤(b.size:Int):=by omega
              have s5:((k:Int)+2).toNat=k+2:=by omega
              go_region_held3 (fun w'=>Below w.heap.size w w') (first|assumption|exact Below.drew ‹_›|exact below_step ‹_› ‹_›) (first|(go_at_call 212;refine(hI _).mono ?_;rintro e w' ⟨rfl,rfl⟩)|(go_at_call 213;refine(hR _).mono ?_;rintro e w' ⟨rfl,hb⟩))
              go_wp2
              go_roundw
              case rel=>exact⟨3,by omega,by omega,rfl,rel_more HNO.out HX.out,by first|assumption|exact below_drewN hbel _⟩
              case measure=>simp[intOf]
          · have hr':isR N=false:=by simpa using hr
            have hx:=hit_not hNL hr'
            have HX:=Lib.hid hx
            rw[hr']at hI
            clear hr hr' hx hNL
            go_wp2
            go_rounds 3
            have s0:IntKind.i64.wrap ((k:Int)+2)=(k:Int)+2:=IntWalk.i64_in _ (by omega)
            have s1:(0:Int)≤(k:Int)+2:=by omega
            have s2:(0:Int)≤(k:Int):=by omega
            have s3:(k:Int)≤(k:Int)+2:=by omega
            have s4:(k:Int)+2≤(b.size:Int):=by omega
            have s5:((k:Int)+2).toNat=k+2:=by omega
            go_quiet ((go_at_call 212;exact Calls.quiet_of_same ((hI _).mono fun _ _ h=>⟨h.1,h.2.symm⟩)))
            go_wp2
            go_roundw
            case rel=>exact⟨3,by omega,by omega,rfl,rel_more HNO.out HX.out,by first|assumption|exact below_drewN hbel _⟩
            case measure=>simp[intOf]
        · have f1:¬((b.size:Int)-(k:Int)<3):=by omega
          have hB:=Go.PlainAid.get_bt b
          obtain⟨A,hA⟩:∃A:Int,Go.PlainAid.bt b k=A:=⟨_,rfl⟩
          obtain⟨B,hB⟩:∃B:Int,Go.PlainAid.bt b (k+1)=B:=⟨_,rfl⟩
          obtain⟨C,hC⟩:∃C:Int,Go.PlainAid.bt b (k+2)=C:=⟨_,rfl⟩
          have gA0:0≤A:=by have:=Go.PlainAid.bt_nonneg b k;omega
          have gA:A≤255:=by have:=Go.PlainAid.bt_le b k;omega
          have gB0:0≤B:=by have:=Go.PlainAid.bt_nonneg b (k+1);omega
          have gB:B≤255:=by have:=Go.PlainAid.bt_le b (k+1);omega
          have gC0:0≤C:=by have:=Go.PlainAid.bt_nonneg b (k+2);omega
          have gC:C≤255:=by have:=Go.PlainAid.bt_le b (k+2);omega
          obtain⟨N,hN⟩:∃N:Int,(A%16*64+B%64)*64+C%64=N:=⟨_,rfl⟩
          have gN0:0≤N:=by omega
          have gN:N≤2097151:=by omega
          have hNL:(numL 3 (b.data.toList.drop k):Int)=N:=by
            have e0:=gB_bt b k 0
            rw[show Go.PlainAid.bt b (k+0)=A from hA]at e0
            have e1:=gB_bt b k 1
            rw[show Go.PlainAid.bt b (k+1)=B from hB]at e1
            have e2:=gB_bt b k 2
            rw[show Go.PlainAid.bt b (k+2)=C from hC]at e2
            unfold numL
            rw[if_neg (by omega),if_neg (by omega),if_pos rfl]
            omega
          have hw1:wrap32 N=N:=by unfold wrap32;omega
          have hw2:IntKind.i32.wrap N=N:=by rw[IntKind.wrap_i32];omega
          have hI:=refIs_c N
          by_cases hr:isR N=true
          · have hR:=refBytes_c N hr
            have hQ:=Bool.eq_false_or_eq_true ((Utf8.encode N).toList==(b.extract k (k+3)).toList)
            rcases hQ with hq|hq
            · have hx:=hit_next (by omega) (hit_yes hfit hNL hr hq)
              rw[←nextG_L hk]at hx
              have HX:Hid (((nextG b k).1:Int)=N∧((nextG b k).2:Int)=3):=by rw[hx];exact⟨hNL,rfl⟩
              rw[hr]at hI
              clear hr hx hNL
              generalize Utf8.encode N=en at *
              go_wp2
              go_rounds 4
              have s0:IntKind.i64.wrap ((k:Int)+3)=(k:Int)+3:=IntWalk.i64_in _ (by omega)
              have s1:(0:Int)≤(k:Int)+3:=by omega
              have s2:(0:Int)≤(k:Int):=by omega
              have s3:(k:Int)≤(k:Int)+3:=by omega
              have s4:(k:Int)+3≤(b.size:Int):=by omega
              have s5:((k:Int)+3).toNat=k+3:=by omega
              go_region_held3 (fun w'=>Below w.heap.size w w') (first|assumption|exact Below.drew ‹_›|exact below_step ‹_› ‹_›) (first|(go_at_call 212;refine(hI _).mono ?_;rintro e w' ⟨rfl,rfl⟩)|(go_at_call 213;refine(hR _).mono ?_;rintro e w' ⟨rfl,hb⟩))
              go_wp2
              go_ret2
              exact⟨by rw[HX.out.1,HX.out.2];rfl,by assumption⟩
            · have hx:=hit_no hNL hr hq
              have HX:=Lib.hid hx
              rw[hr]at hI
              clear hr hx hNL
              generalize Utf8.encode N=en at *
              go_wp2
              go_rounds 4
              have s0:IntKind.i64.wrap ((k:Int)+3)=(k:Int)+3:=IntWalk.i64_in _ (by omega)
              have s1:(0:Int)≤(k:Int)+3:=by omega
              have s2:(0:Int)≤(k:Int):=by omega
              have s3:(k:Int)≤(k:Int)+3:=by omega
              have s4:(k:Int)+3≤(b.size:Int):=by omega
              have s5:((k:Int)+3).toNat=k+3:=by omega
              go_region_held3 (fun w'=>Below w.heap.size w w') (first|assumption|exact Below.drew ‹_›|exact below_step ‹_› ‹_›) (first|(go_at_call 212;refine(hI _).mono ?_;rintro e w' ⟨rfl,rfl⟩)|(go_at_call 213;refine(hR _).mono ?_;rintro e w' ⟨rfl,hb⟩))
              go_wp2
              go_roundw
              case rel=>exact⟨4,by omega,by omega,rfl,rel_more HNO.out HX.out,by first|assumption|exact below_drewN hbel _⟩
              case measure=>simp[intOf]
          · have hr':isR N=false:=by simpa using hr
            have hx:=hit_not hNL hr'
            have HX:=Lib.hid hx
            rw[hr']at hI
            clear hr hr' hx hNL
            go_wp2
            go_rounds 4
            have s0:IntKind.i64.wrap ((k:Int)+3)=(k:Int)+3:=IntWalk.i64_in _ (by omega)
            have s1:(0:Int)≤(k:Int)+3:=by omega
            have s2:(0:Int)≤(k:Int):=by omega
            have s3:(k:Int)≤(k:Int)+3:=by omega
            have s4:(k:Int)+3≤(b.size:Int):=by omega
            have s5:((k:Int)+3).toNat=k+3:=by omega
            go_quiet ((go_at_call 212;exact Calls.quiet_of_same ((hI _).mono fun _ _ h=>⟨h.1,h.2.symm⟩)))
            go_wp2
            go_roundw
            case rel=>exact⟨4,by omega,by omega,rfl,rel_more HNO.out HX.out,by first|assumption|exact below_drewN hbel _⟩
            case measure=>simp[intOf]
        · have f1:¬((b.size:Int)-(k:Int)<4):=by omega
          have hB:=Go.PlainAid.get_bt b
          obtain⟨A,hA⟩:∃A:Int,Go.PlainAid.bt b k=A:=⟨_,rfl⟩
          obtain⟨B,hB⟩:∃B:Int,Go.PlainAid.bt b (k+1)=B:=⟨_,rfl⟩
          obtain⟨C,hC⟩:∃C:Int,Go.PlainAid.bt b (k+2)=C:=⟨_,rfl⟩
          obtain⟨D,hD⟩:∃D:Int,Go.PlainAid.bt b (k+3)=D:=⟨_,rfl⟩
          have gA0:0≤A:=by have:=Go.PlainAid.bt_nonneg b k;omega
          have gA:A≤255:=by have:=Go.PlainAid.bt_le b k;omega
          have gB0:0≤B:=by have:=Go.PlainAid.bt_nonneg b (k+1);omega
          have gB:B≤255:=by have:=Go.PlainAid.bt_le b (k+1);omega
          have gC0:0≤C:=by have:=Go.PlainAid.bt_nonneg b (k+2);omega
          have gC:C≤255:=by have:=Go.PlainAid.bt_le b (k+2);omega
          have gD0:0≤D:=by have:=Go.PlainAid.bt_nonneg b (k+3);omega
          have gD:D≤255:=by have:=Go.PlainAid.bt_le b (k+3);omega
          obtain⟨N,hN⟩:∃N:Int,((A%8*64+B%64)*64+C%64)*64+D%64=N:=⟨_,rfl⟩
          have gN0:0≤N:=by omega
          have gN:N≤2097151:=by omega
          have hNL:(numL 4 (b.data.toList.drop k):Int)=N:=by
            have e0:=gB_bt b k 0
            rw[show Go.PlainAid.bt b (k+0)=A from hA]at e0
            have e1:=gB_bt b k 1
            rw[show Go.PlainAid.bt b (k+1)=B from hB]at e1
            have e2:=gB_bt b k 2
            rw[show Go.PlainAid.bt b (k+2)=C from hC]at e2
            have e3:=gB_bt b k 3
            rw[show Go.PlainAid.bt b (k+3)=D from hD]at e3
            unfold numL
            rw[if_neg (by omega),if_neg (by omega),if_neg (by omega)]
            omega
          have hw1:wrap32 N=N:=by unfold wrap32;omega
          have hw2:IntKind.i32.wrap N=N:=by rw[IntKind.wrap_i32];omega
          have hI:=refIs_c N
          by_cases hr:isR N=true
          · have hR:=refBytes_c N hr
            have hQ:=Bool.eq_false_or_eq_true ((Utf8.encode N).toList==(b.extract k (k+4)).toList)
            rcases hQ with hq|hq
            · have hx:=hit_next (by omega) (hit_yes hfit hNL hr hq)
              rw[←nextG_L hk]at hx
              have HX:Hid (((nextG b k).1:Int)=N∧((nextG b k).2:Int)=4):=by rw[hx];exact⟨hNL,rfl⟩
              rw[hr]at hI
              clear hr hx hNL
              generalize Utf8.encode N=en at *
              go_wp2
              go_rounds 5
              have s0:IntKind.i64.wrap ((k:Int)+4)=(k:Int)+4:=IntWalk.i64_in _ (by omega)
              have s1:(0:Int)≤(k:Int)+4:=by omega
              have s2:(0:Int)≤(k:Int):=by omega
              have s3:(k:Int)≤(k:Int)+4:=by omega
              have s4:(k:Int)+4≤(b.size:Int):=by omega
              have s5:((k:Int)+4).toNat=k+4:=by omega
              go_region_held3 (fun w'=>Below w.heap.size w w') (first|assumption|exact Below.drew ‹_›|exact below_step ‹_› ‹_›) (first|(go_at_call 212;refine(hI _).mono ?_;rintro e w' ⟨rfl,rfl⟩)|(go_at_call 213;refine(hR _).mono ?_;rintro e w' ⟨rfl,hb⟩))
              go_wp2
              go_ret2
              exact⟨by rw[HX.out.1,HX.out.2];rfl,by assumption⟩
            · have hx:=hit_no hNL hr hq
              have HX:=Lib.hid hx
              rw[hr]at hI
              clear hr hx hNL
              generalize Utf8.encode N=en at *
              go_wp2
              go_rounds 5
              have s0:IntKind.i64.wrap ((k:Int)+4)=(k:Int)+4:=IntWalk.i64_in _ (by omega)
              have s1:(0:Int)≤(k:Int)+4:=by omega
              have s2:(0:Int)≤(k:Int):=by omega
              have s3:(k:Int)≤(k:Int)+4:=by omega
              have s4:(k:Int)+4≤(b.size:Int):=by omega
              have s5:((k:Int)+4).toNat=k+4:=by omega
              go_region_held3 (fun w'=>Below w.heap.size w w') (first|assumption|exact Below.drew ‹_›|exact below_step ‹_› ‹_›) (first|(go_at_call 212;refine(hI _).mono ?_;rintro e w' ⟨rfl,rfl⟩)|(go_at_call 213;refine(hR _).mono ?_;rintro e w' ⟨rfl,hb⟩))
              go_wp2
              go_roundw
              case rel=>exact⟨5,by omega,by omega,rfl,rel_more HNO.out HX.out,by first|assumption|exact below_drewN hbel _⟩
              case measure=>simp[intOf]
          · have hr':isR N=false:=by simpa using hr
            have hx:=hit_not hNL hr'
            have HX:=Lib.hid hx
            rw[hr']at hI
            clear hr hr' hx hNL
            go_wp2
            go_rounds 5
            have s0:IntKind.i64.wrap ((k:Int)+4)=(k:Int)+4:=IntWalk.i64_in _ (by omega)
            have s1:(0:Int)≤(k:Int)+4:=by omega
            have s2:(0:Int)≤(k:Int):=by omega
            have s3:(k:Int)≤(k:Int)+4:=by omega
            have s4:(k:Int)+4≤(b.size:Int):=by omega
            have s5:((k:Int)+4).toNat=k+4:=by omega
            go_quiet ((go_at_call 212;exact Calls.quiet_of_same ((hI _).mono fun _ _ h=>⟨h.1,h.2.symm⟩)))
            go_wp2
            go_roundw
            case rel=>exact⟨5,by omega,by omega,rfl,rel_more HNO.out HX.out,by first|assumption|exact below_drewN hbel _⟩
            case measure=>simp[intOf]
      · have HZ:Hid (nextG b k=(0,0)):=by rw[nextG_L hk];exact no_hit (fun t ha hb=>if h:t<s then HNO.out t ha h else hit_long (by omega) hk)
        have f1:(b.size:Int)-(k:Int)<(s:Int):=by omega
        have f2:(s:Int)≤4:=by omega
        go_wp2
        go_ret2
        exact⟨by rw[HZ.out];rfl,hbel⟩
set_option maxHeartbeats 1000000 in
theorem refNext_out (b:ByteArray)(a:Int)(ha:a<0∨(b.size:Int)≤a)(hs:b.size≤4000)(w:World) :
    Calls Tryz.prog 193 #[.string b,.int .i64 a] w fun e w'=>e=.returned (.tuple #[.int .i32 (nextG b a).1,.int .i64 (nextG b a).2])∧Below w.heap.size w w':=by
  rw[nextG_out ha]
  by_cases h0:a<0
  · clear ha
    go_enter Tryz.func193,Tryz.ntmps193
    go_wp2
    go_rounds 1
    go_ret2
    exact⟨rfl,Below.refl _ _⟩
  · have h1:(b.size:Int)≤a:=by omega
    clear ha
    go_enter Tryz.func193,Tryz.ntmps193
    go_wp2
    go_rounds 1
    go_ret2
    exact⟨rfl,Below.refl _ _⟩
theorem refNext_c (b:ByteArray)(a:Int)(hs:b.size≤4000)(w:World) :
    Calls Tryz.prog 193 #[.string b,.int .i64 a] w fun e w'=>e=.returned (.tuple #[.int .i32 (nextG b a).1,.int .i64 (nextG b a).2])∧Below w.heap.size w w':=by
  by_cases h:a<0∨(b.size:Int)≤a
  · exact refNext_out b a h hs w
  · obtain⟨k,rfl⟩:∃k:Nat,a=(k:Int):=⟨a.toNat,by omega⟩
    exact refNext_in b k (by omega) hs w
end Go.Proofs.YtfioknaadbgjlaaGreatDoor.F
namespace Go.Proofs.YtfioknaadbgjlaaGreatDoor.F
open Go.RowKit
def AllPost (o:Option (List Int))(w0:World)(e:Ending)(w':World):Prop:=
  ∃v,e=.returned (.tuple #[v,.bool o.isSome])∧SliceIs w' v (o.getD [])∧Below w0.heap.size w0 w'
theorem infoInt32:(Tryz.prog.info? 21).map (fun i=>(i.zero,i.size,i.bytes))=some (some (.int .i32 0),1,4):=by kernel_rfl
theorem grown_of_below {w w':World}(hb:Below w.heap.size w w')(row:Option Nat):w.grownBy w' row:=⟨hb.os,hb.tape,hb.output,hb.size,fun k hk _=>hb.block k hk⟩
def RelA (l:List UInt8)(w0:World)(ov av:Value)(wr:World):Prop:=
  ∃(k:Nat) (done:List Int),k≤l.length∧av=.int .i64 k∧done.length≤k∧runesL l=(runesL (l.drop k)).map (done++·) ∧
    wr.ownsRow w0.heap.size 21 1 ov done.length (done.map (Value.int .i32))∧Below w0.heap.size w0 wr
set_option maxHeartbeats 2000000 in
theorem refAll_c (b:ByteArray)(hs:b.size≤4000)(w:World) :
    Calls Tryz.prog 190 #[.string b] w (AllPost (runesL b.data.toList) w):=by
  obtain⟨i0,hi,hz0,hz1,hz2⟩:=info_parts infoInt32
  have hsz:b.data.toList.length=b.size:=by simp
  have HZ:=Lib.hid hsz
  clear hsz
  go_enter Tryz.func190,Tryz.ntmps190
  go_wp2
  go_loopw [4,5] (fun ov av wr=>RelA b.data.toList w ov av wr) (fun _ av _=>b.size-(intOf av).toNat)
  case atStart=>exact⟨0,[],by omega,rfl,by simp,by simp,World.ownsRow_nil _ _ _ _,Below.refl _ _⟩
  case round =>
    obtain⟨k,done,hk,rfl,hdk,hru,hown,hbel⟩:=hrel
    rw[HZ.out]at hk
    have HR:=Lib.hid hru
    have HO:=Lib.hid hown
    clear hru hown
    by_cases hlt:k<b.size
    · have hne:b.data.toList.drop k≠[]:=by
        intro h
        have:=congrArg List.length h
        rw[List.length_drop,HZ.out,List.length_nil]at this
        omega
      have hst:=runesL_step hne
      have hfa:=nextL_facts (b.data.toList.drop k)
      have cN:=fun w=>refNext_c b (k:Int) hs w
      rw[nextG_L hlt]at cN
      obtain⟨R,hRR⟩:∃R,(nextL (b.data.toList.drop k)).1=R:=⟨_,rfl⟩
      obtain⟨K,hKK⟩:∃K,(nextL (b.data.toList.drop k)).2=K:=⟨_,rfl⟩
      simp only[hRR,hKK]at cN
      rw[hRR,hKK]at hst
      have hK4:K≤b.size-k:=by
        rcases hfa with hz|⟨_,_,_,_,_,hle,_⟩
        · rw[←hKK,hz];omega
        · rw[hKK,List.length_drop,HZ.out]at hle;exact hle
      have hR0:(R:Int)≤1114111:=by
        rcases hfa with hz|⟨_,_,hr,_,_,_,_⟩
        · rw[←hRR,hz];decide
        · have:=isR_is hr;rw[hRR]at this;omega
      clear hRR hKK hfa hne
      have hltz:(k:Int)<(b.size:Int):=by omega
      by_cases h0:K=0
      · subst h0
        rw[if_pos rfl]at hst
        have HN:Hid (runesL b.data.toList=none):=by rw[HR.out,hst];rfl
        clear hst
        go_wp2_with fail
        refine(cN _).mono ?_
        rintro e w1 ⟨rfl,hb1⟩
        go_wp2
        go_ret2
        exact⟨_,by rw[HN.out];rfl,by rw[HN.out];exact SliceIs.nil _,hbel.trans (hb1.mono hbel.size)⟩
      · rw[if_neg h0,List.drop_drop]at hst
        have h0z:((K:Int)==0)=false:=by rw[beq_eq_false_iff_ne];omega
        have HN:Hid (runesL b.data.toList=(runesL (b.data.toList.drop (k+K))).map ((done++[(R:Int)])++·)):=by
          rw[HR.out,hst,Option.map_map]
          congr 1
          funext x
          simp
        clear hst
        have hw0:(0:Int)≤(k:Int)+(K:Int):=by omega
        have hw1:(k:Int)+(K:Int)≤4000:=by omega
        go_wp2_with fail
        refine(cN _).mono ?_
        rintro e w1 ⟨rfl,hb1⟩
        have hown1:=HO.out.kept (grown_of_below hb1 none) (by cases h:u4.ownBlock with|none=>exact Or.inl rfl|some x=>exact Or.inr (by simp))
        go_wp2_with (at_builtin;refine wpList_append_own _ rfl _ _ 113 rfl w.heap.size 21 i0 (.int .i32 0) 1 4 Tryz.underlying113 hi hz0 hz1 hz2 rfl (by decide) _ _ _ rfl (hown1.alloc _) ⟨w1.heap.size,0,none⟩ 1 1 [.int .i32 R] rfl rfl ?c1 ?c2 ?c3 ?c4 ?c5 ?_)
        case c1 =>
          intro j u hj
          match j,hj with
          | 0,hj=>simp at hj;subst hj;simp[Addr.add]
        case c2=>intro u hu;simp at hu;subst hu;rfl
        case c3=>unfold maxLen;omega
        case c4=>omega
        case c5=>have h1:=hb1.size;have h2:=hbel.size;simp;omega
        intro v' w2 hown' hgrow _
        have HO2:=Lib.hid hown'
        have HG:=Lib.hid hgrow
        clear hown' hgrow hown1
        go_wp2
        go_roundw
        case rel =>
          refine⟨k+K,done++[(R:Int)],by rw[HZ.out];omega,by go_num,by simp;omega,HN.out,by simpa using HO2.out,?_⟩
          exact((hbel.trans (hb1.mono hbel.size)).alloc (by have:=hb1.size;have:=hbel.size;omega) _).grown HG.out (by simp;have:=hb1.size;have:=hbel.size;omega) (fun j hj=>(HO.out.lt j hj).1)
        case measure=>simp[intOf];omega
    · have hkn:k=b.size:=by omega
      have HN:=Lib.hid (show runesL b.data.toList=some done by
        rw[HR.out,List.drop_eq_nil_of_le (by rw[HZ.out];omega),runesL_nil]
        simp)
      have hge:¬((k:Int)<(b.size:Int)):=by omega
      clear hkn
      go_wp2
      go_ret2
      exact⟨_,by rw[HN.out];rfl,by rw[HN.out];exact SliceIs.own HO.out,hbel⟩
end Go.Proofs.YtfioknaadbgjlaaGreatDoor.F
namespace Go.Proofs.YtfioknaadbgjlaaGreatDoor.F
open Go.RowKit
set_option maxHeartbeats 1000000 in
theorem same_len (a b:Option Addr)(n m c d:Nat)(hnm:n≠m)(w:World) :
    Calls Tryz.prog 191 #[.slice a n c,.slice b m d] w fun e w'=>e=.returned (.bool false)∧Below w.heap.size w w':=by
  have h1:((n:Int)==(m:Int))=false:=by rw[beq_eq_false_iff_ne];omega
  have h2:¬((n:Int)=(m:Int)):=by omega
  clear hnm
  go_enter Tryz.func191,Tryz.ntmps191
  go_wp2
  go_ret
  exact⟨rfl,Below.refl _ _⟩
set_option maxHeartbeats 1000000 in
theorem same_nil (a b:Option Addr)(c d:Nat)(w:World) :
    Calls Tryz.prog 191 #[.slice a 0 c,.slice b 0 d] w fun e w'=>e=.returned (.bool true)∧Below w.heap.size w w':=by
  go_enter Tryz.func191,Tryz.ntmps191
  go_wp2
  go_rounds 1
  go_ret
  exact⟨rfl,Below.refl _ _⟩
def RelS (la lb:List Int)(w0:World)(iv:Value)(wr:World):Prop:=
  ∃i:Nat,i≤la.length∧iv=.int .i64 i∧(∀j,j<i→la.getD j 0=lb.getD j 0)∧Below w0.heap.size w0 wr
set_option maxHeartbeats 1000000 in
theorem same_in (la lb:List Int)(hl:la.length=lb.length)(hs:la.length≤1000)(g off cap g' off' cap':Nat)(w:World)(hg:g<w.heap.size)(hg':g'<w.heap.size)
    (hc:∀j,j<la.length→w.cell? ⟨g,off+j,none⟩=some (.int .i32 (la.getD j 0))) (hc':∀j,j<la.length→w.cell? ⟨g',off'+j,none⟩=some (.int .i32 (lb.getD j 0))) :
    Calls Tryz.prog 191 #[.slice (some ⟨g,off,none⟩) la.length cap,.slice (some ⟨g',off',none⟩) la.length cap'] w fun e w'=>e=.returned (.bool (decide (la=lb)))∧Below w.heap.size w w':=by
  obtain⟨n,hn⟩:∃n,la.length=n:=⟨_,rfl⟩
  have HL:=Lib.hid hl
  have HC:=Lib.hid hc
  have HC':=Lib.hid hc'
  clear hl hc hc'
  obtain⟨R,hR⟩:∃R,decide (la=lb)=R:=⟨_,rfl⟩
  rw[hR,hn]
  rw[hn]at hs
  have HN:=Lib.hid hn
  have HR:=Lib.hid hR
  clear hn hR
  go_enter Tryz.func191,Tryz.ntmps191
  go_wp2
  go_loopw [5] (fun iv wr=>RelS la lb w iv wr) (fun iv _=>n-(intOf iv).toNat)
  case atStart=>exact⟨0,by omega,rfl,fun j hj=>by omega,Below.refl _ _⟩
  case round =>
    obtain⟨i,hi,rfl,heq,hbel⟩:=hrel
    rw[HN.out]at hi
    have HE:=Lib.hid heq
    clear heq
    by_cases hlt:i<n
    · obtain⟨x,hx⟩:∃x,la.getD i 0=x:=⟨_,rfl⟩
      obtain⟨y,hy⟩:∃y,lb.getD i 0=y:=⟨_,rfl⟩
      have c1:wr.cell? ⟨g,off+i,none⟩=some (.int .i32 x):=by rw[hbel.cell (p:=⟨g,off+i,none⟩) hg,HC.out i (by rw[HN.out];exact hlt),hx]
      have c2:wr.cell? ⟨g',off'+i,none⟩=some (.int .i32 y):=by rw[hbel.cell (p:=⟨g',off'+i,none⟩) hg',HC'.out i (by rw[HN.out];exact hlt),hy]
      have hltz:(i:Int)<(n:Int):=by omega
      by_cases hxy:x=y
      · have HS:=Lib.hid (same_step HE.out (hx.trans (hxy.trans hy.symm)))
        subst hxy
        clear hx hy
        go_wp2
        go_quiet (fail)
        go_wp2
        go_roundw
        case rel=>exact⟨i+1,by rw[HN.out];omega,by go_num,HS.out,below_drewN' hbel _⟩
        case measure=>simp[intOf];omega
      · have hne:(x==y)=false:=by rw[beq_eq_false_iff_ne];exact hxy
        have HF:Hid (R=false):=by
          rw[←HR.out]
          refine decide_eq_false fun h=>hxy ?_
          rw[←hx,←hy,h]
        clear hx hy hxy
        go_wp2
        go_quiet (fail)
        go_wp2
        go_ret
        exact⟨by rw[HF.out];rfl,below_drewN' hbel _⟩
    · have hin:i=n:=by omega
      have HT:Hid (R=true):=by
        rw[←HR.out]
        exact decide_eq_true (same_all HL.out (fun j hj=>HE.out j (by rw[HN.out]at hj;omega)))
      have hge:¬((i:Int)<(n:Int)):=by omega
      clear hin
      go_wp2
      go_ret
      exact⟨by rw[HT.out];rfl,hbel⟩
theorem same_c {va vb:Value}{la lb:List Int}{w:World}(ha:SliceIs w va la)(hb:SliceIs w vb lb)(hs:la.length≤1000) :
    Calls Tryz.prog 191 #[va,vb] w fun e w'=>e=.returned (.bool (decide (la=lb)))∧Below w.heap.size w w':=by
  by_cases hl:la.length=lb.length
  · rcases ha with⟨rfl,a,cap,rfl⟩|⟨g,off,cap,hg,rfl,hc⟩
    · have:lb=[]:=List.eq_nil_of_length_eq_zero (by rw[←hl];rfl)
      subst this
      obtain⟨b,d,rfl⟩:=hb.len
      exact same_nil a b cap d w
    · rcases hb with⟨rfl,b,cap',rfl⟩|⟨g',off',cap',hg',rfl,hc'⟩
      · have:la=[]:=List.eq_nil_of_length_eq_zero (by rw[hl];rfl)
        subst this
        exact same_nil _ b cap cap' w
      · rw[←hl]
        exact same_in la lb hl hs g off cap g' off' cap' w hg hg' hc (fun j hj=>hc' j (by omega))
  · obtain⟨a,c,rfl⟩:=ha.len
    obtain⟨b,d,rfl⟩:=hb.len
    have:decide (la=lb)=false:=decide_eq_false fun h=>hl (by rw[h])
    rw[this]
    exact same_len a b _ _ c d hl w
end Go.Proofs.YtfioknaadbgjlaaGreatDoor.F
namespace Go.Proofs.YtfioknaadbgjlaaGreatDoor.F
open Go.RowKit
theorem joinL_take {l:List Int}{i:Nat}{x:Int}(hi:i<l.length)(hx:l.getD i 0=x):joinL (l.take (i+1))=joinL (l.take i)++(if isR x=true then Lib.encodeRune x else []):=by
  have ht:l.take (i+1)=l.take i++[x]:=by
    rw[List.take_add_one,List.getElem?_eq_getElem hi]
    have:l[i]=x:=by rw[←hx];simp[List.getD_eq_getElem?_getD,List.getElem?_eq_getElem hi]
    rw[this];rfl
  rw[ht,joinL_snoc]
def RelK (l:List Int)(w0:World)(sv iv:Value)(wr:World):Prop:=
  ∃(i:Nat) (s:ByteArray),i≤l.length∧iv=.int .i64 i∧sv=.string s∧s.data.toList=joinL (l.take i)∧Below w0.heap.size w0 wr
theorem str_end {s:ByteArray}{l:List UInt8}(h:s.data.toList=l):s=⟨l.toArray⟩:=by
  apply ByteArray.ext
  apply Array.ext'
  rw[h]
set_option maxHeartbeats 1000000 in
theorem refJoin_in (l:List Int)(hs:l.length≤1000)(g off cap:Nat)(w:World)(hg:g<w.heap.size)
    (hc:∀j,j<l.length→w.cell? ⟨g,off+j,none⟩=some (.int .i32 (l.getD j 0))) :
    Calls Tryz.prog 198 #[.slice (some ⟨g,off,none⟩) l.length cap] w fun e w'=>e=.returned (.string ⟨(joinL l).toArray⟩)∧Below w.heap.size w w':=by
  obtain⟨n,hn⟩:∃n,l.length=n:=⟨_,rfl⟩
  have HC:=Lib.hid hc
  clear hc
  rw[hn]
  rw[hn]at hs
  have HN:=Lib.hid hn
  clear hn
  go_enter Tryz.func198,Tryz.ntmps198
  go_wp2
  go_loopw [3,4] (fun sv iv wr=>RelK l w sv iv wr) (fun _ iv _=>n-(intOf iv).toNat)
  case atStart=>exact⟨0,⟨#[]⟩,by omega,rfl,rfl,rfl,Below.refl _ _⟩
  case round =>
    obtain⟨i,s,hi,rfl,rfl,hsl,hbel⟩:=hrel
    rw[HN.out]at hi
    have HS:=Lib.hid hsl
    clear hsl
    by_cases hlt:i<n
    · obtain⟨x,hx⟩:∃x,l.getD i 0=x:=⟨_,rfl⟩
      have c1:wr.cell? ⟨g,off+i,none⟩=some (.int .i32 x):=by rw[hbel.cell (p:=⟨g,off+i,none⟩) hg,HC.out i (by rw[HN.out];exact hlt),hx]
      have hltz:(i:Int)<(n:Int):=by omega
      have HT:=Lib.hid (joinL_take (by rw[HN.out];exact hlt) hx)
      have hI:=refIs_c x
      clear hx
      by_cases hr:isR x=true
      · have hB:=refBytes_c x hr
        have HX:=Lib.hid (show joinL (l.take (i+1))=(s++Utf8.encode x).data.toList by
          rw[HT.out,if_pos hr,ByteArray.data_append,Array.toList_append,encode_toList x hr,HS.out])
        have hsz:s.size≤4000:=by
          have h1:=congrArg List.length HS.out
          have h2:=joinL_length (l.take i)
          have h3:(l.take i).length≤i:=List.length_take_le _ _
          have h4:s.data.toList.length=s.size:=by simp
          omega
        have hen:(Utf8.encode x).size≤4:=by
          have h1:=bsOf_size x
          unfold bsOf at h1
          rwa[if_pos hr]at h1
        rw[hr]at hI
        clear hr
        generalize Utf8.encode x=en at *
        have hsum:¬(9223372036854775807<s.size+en.size):=by omega
        go_wp2_with fail
        refine(hI _).mono ?_
        rintro e w' ⟨rfl,rfl⟩
        go_wp2_with fail
        refine(hB _).mono ?_
        rintro e w2 ⟨rfl,hb2⟩
        go_wp2
        go_roundw
        case rel=>exact⟨i+1,_,by rw[HN.out];omega,by go_num,rfl,HX.out.symm,hbel.trans (hb2.mono hbel.size)⟩
        case measure=>simp[intOf];omega
      · have hr':isR x=false:=by simpa using hr
        have HX:=Lib.hid (show s.data.toList=joinL (l.take (i+1)) by rw[HT.out,if_neg hr,List.append_nil,HS.out])
        rw[hr']at hI
        clear hr hr'
        go_wp2_with fail
        refine(hI _).mono ?_
        rintro e w' ⟨rfl,rfl⟩
        go_wp2
        go_roundw
        case rel=>exact⟨i+1,s,by rw[HN.out];omega,by go_num,rfl,HX.out,hbel⟩
        case measure=>simp[intOf];omega
    · have hin:i=n:=by omega
      have HT:Hid (s=⟨(joinL l).toArray⟩):=str_end (by rw[HS.out,List.take_of_length_le (by rw[HN.out];omega)])
      have hge:¬((i:Int)<(n:Int)):=by omega
      clear hin
      go_wp2
      go_ret
      exact⟨by rw[←HT.out];rfl,hbel⟩
set_option maxHeartbeats 1000000 in
theorem refJoin_nil (a:Option Addr)(cap:Nat)(w:World) :
    Calls Tryz.prog 198 #[.slice a 0 cap] w fun e w'=>e=.returned (.string ⟨#[]⟩)∧Below w.heap.size w w':=by
  go_enter Tryz.func198,Tryz.ntmps198
  go_wp2
  go_rounds 1
  go_ret
  exact⟨rfl,Below.refl _ _⟩
theorem refJoin_c {v:Value}{l:List Int}{w:World}(h:SliceIs w v l)(hs:l.length≤1000) :
    Calls Tryz.prog 198 #[v] w fun e w'=>e=.returned (.string ⟨(joinL l).toArray⟩)∧Below w.heap.size w w':=by
  rcases h with⟨rfl,a,cap,rfl⟩|⟨g,off,cap,hg,rfl,hc⟩
  · exact refJoin_nil a cap w
  · exact refJoin_in l hs g off cap w hg hc
end Go.Proofs.YtfioknaadbgjlaaGreatDoor.F
namespace Go.Proofs.YtfioknaadbgjlaaGreatDoor.F
open Go.RowKit
theorem line_0 (w:World):Calls Tryz.prog 196 #[.int .i64 0] w fun e w'=>e=.returned (.tuple #[.int .i32 768,.string ⟨#[65,69,73,79,85,97,101,105,111,117]⟩,.string ⟨#[195,128,195,136,195,140,195,146,195,153,195,160,195,168,195,172,195,178,195,185]⟩])∧w=w':=by
  go_enter Tryz.func196,Tryz.ntmps196
  go_wp2
  go_ret3
  exact⟨rfl,rfl⟩
theorem line_1 (w:World):Calls Tryz.prog 196 #[.int .i64 1] w fun e w'=>e=.returned (.tuple #[.int .i32 769,.string ⟨#[65,69,73,79,85,89,97,101,105,111,117,121,67,99,76,108,78,110,82,114,83,115,90,122]⟩,.string ⟨#[195,129,195,137,195,141,195,147,195,154,195,157,195,161,195,169,195,173,195,179,195,186,195,189,196,134,196,135,196,185,196,186,197,131,197,132,197,148,197,149,197,154,197,155,197,185,197,186]⟩])∧w=w':=by
  go_enter Tryz.func196,Tryz.ntmps196
  go_wp2
  go_ret3
  exact⟨rfl,rfl⟩
theorem line_2 (w:World):Calls Tryz.prog 196 #[.int .i64 2] w fun e w'=>e=.returned (.tuple #[.int .i32 770,.string ⟨#[65,69,73,79,85,97,101,105,111,117,67,99,71,103,72,104,74,106,83,115,87,119,89,121]⟩,.string ⟨#[195,130,195,138,195,142,195,148,195,155,195,162,195,170,195,174,195,180,195,187,196,136,196,137,196,156,196,157,196,164,196,165,196,180,196,181,197,156,197,157,197,180,197,181,197,182,197,183]⟩])∧w=w':=by
  go_enter Tryz.func196,Tryz.ntmps196
  go_wp2
  go_ret3
  exact⟨rfl,rfl⟩
theorem line_3 (w:World):Calls Tryz.prog 196 #[.int .i64 3] w fun e w'=>e=.returned (.tuple #[.int .i32 771,.string ⟨#[65,78,79,97,110,111,73,105,85,117]⟩,.string ⟨#[195,131,195,145,195,149,195,163,195,177,195,181,196,168,196,169,197,168,197,169]⟩])∧w=w':=by
  go_enter Tryz.func196,Tryz.ntmps196
  go_wp2
  go_ret3
  exact⟨rfl,rfl⟩
theorem line_4 (w:World):Calls Tryz.prog 196 #[.int .i64 4] w fun e w'=>e=.returned (.tuple #[.int .i32 772,.string ⟨#[65,97,69,101,73,105,79,111,85,117]⟩,.string ⟨#[196,128,196,129,196,146,196,147,196,170,196,171,197,140,197,141,197,170,197,171]⟩])∧w=w':=by
  go_enter Tryz.func196,Tryz.ntmps196
  go_wp2
  go_ret3
  exact⟨rfl,rfl⟩
theorem line_5 (w:World):Calls Tryz.prog 196 #[.int .i64 5] w fun e w'=>e=.returned (.tuple #[.int .i32 774,.string ⟨#[65,97,69,101,71,103,73,105,79,111,85,117]⟩,.string ⟨#[196,130,196,131,196,148,196,149,196,158,196,159,196,172,196,173,197,142,197,143,197,172,197,173]⟩])∧w=w':=by
  go_enter Tryz.func196,Tryz.ntmps196
  go_wp2
  go_ret3
  exact⟨rfl,rfl⟩
theorem line_6 (w:World):Calls Tryz.prog 196 #[.int .i64 6] w fun e w'=>e=.returned (.tuple #[.int .i32 775,.string ⟨#[67,99,69,101,71,103,73,90,122]⟩,.string ⟨#[196,138,196,139,196,150,196,151,196,160,196,161,196,176,197,187,197,188]⟩])∧w=w':=by
  go_enter Tryz.func196,Tryz.ntmps196
  go_wp2
  go_ret3
  exact⟨rfl,rfl⟩
theorem line_7 (w:World):Calls Tryz.prog 196 #[.int .i64 7] w fun e w'=>e=.returned (.tuple #[.int .i32 776,.string ⟨#[65,69,73,79,85,97,101,105,111,117,121,89]⟩,.string ⟨#[195,132,195,139,195,143,195,150,195,156,195,164,195,171,195,175,195,182,195,188,195,191,197,184]⟩])∧w=w':=by
  go_enter Tryz.func196,Tryz.ntmps196
  go_wp2
  go_ret3
  exact⟨rfl,rfl⟩
theorem line_8 (w:World):Calls Tryz.prog 196 #[.int .i64 8] w fun e w'=>e=.returned (.tuple #[.int .i32 778,.string ⟨#[65,97,85,117]⟩,.string ⟨#[195,133,195,165,197,174,197,175]⟩])∧w=w':=by
  go_enter Tryz.func196,Tryz.ntmps196
  go_wp2
  go_ret3
  exact⟨rfl,rfl⟩
theorem line_9 (w:World):Calls Tryz.prog 196 #[.int .i64 9] w fun e w'=>e=.returned (.tuple #[.int .i32 779,.string ⟨#[79,111,85,117]⟩,.string ⟨#[197,144,197,145,197,176,197,177]⟩])∧w=w':=by
  go_enter Tryz.func196,Tryz.ntmps196
  go_wp2
  go_ret3
  exact⟨rfl,rfl⟩
theorem line_10 (w:World):Calls Tryz.prog 196 #[.int .i64 10] w fun e w'=>e=.returned (.tuple #[.int .i32 780,.string ⟨#[67,99,68,100,69,101,78,110,82,114,83,115,84,116,90,122]⟩,.string ⟨#[196,140,196,141,196,142,196,143,196,154,196,155,197,135,197,136,197,152,197,153,197,160,197,161,197,164,197,165,197,189,197,190]⟩])∧w=w':=by
  go_enter Tryz.func196,Tryz.ntmps196
  go_wp2
  go_ret3
  exact⟨rfl,rfl⟩
theorem line_11 (w:World):Calls Tryz.prog 196 #[.int .i64 11] w fun e w'=>e=.returned (.tuple #[.int .i32 807,.string ⟨#[67,99,71,103,75,107,76,108,78,110,82,114,83,115,84,116]⟩,.string ⟨#[195,135,195,167,196,162,196,163,196,182,196,183,196,187,196,188,197,133,197,134,197,150,197,151,197,158,197,159,197,162,197,163]⟩])∧w=w':=by
  go_enter Tryz.func196,Tryz.ntmps196
  go_wp2
  go_ret3
  exact⟨rfl,rfl⟩
theorem line_12 (w:World):Calls Tryz.prog 196 #[.int .i64 12] w fun e w'=>e=.returned (.tuple #[.int .i32 808,.string ⟨#[65,97,69,101,73,105,85,117]⟩,.string ⟨#[196,132,196,133,196,152,196,153,196,174,196,175,197,178,197,179]⟩])∧w=w':=by
  go_enter Tryz.func196,Tryz.ntmps196
  go_wp2
  go_ret3
  exact⟨rfl,rfl⟩
theorem line_c (n:Nat)(h:n<13)(w:World):Calls Tryz.prog 196 #[.int .i64 n] w fun e w'=>e=.returned (.tuple #[.int .i32 (markN n),.string (txt (lettersN n)),.string (txt (madeN n))])∧w=w':=by
  by_cases h0:n=0
  · subst h0
    rw[show markN 0=768 from rfl,show txt (lettersN 0)=⟨#[65,69,73,79,85,97,101,105,111,117]⟩ by decide +kernel,show txt (madeN 0)=⟨#[195,128,195,136,195,140,195,146,195,153,195,160,195,168,195,172,195,178,195,185]⟩ by decide +kernel]
    exact line_0 w
  by_cases h1:n=1
  · subst h1
    rw[show markN 1=769 from rfl,show txt (lettersN 1)=⟨#[65,69,73,79,85,89,97,101,105,111,117,121,67,99,76,108,78,110,82,114,83,115,90,122]⟩ by decide +kernel,show txt (madeN 1)=⟨#[195,129,195,137,195,141,195,147,195,154,195,157,195,161,195,169,195,173,195,179,195,186,195,189,196,134,196,135,196,185,196,186,197,131,197,132,197,148,197,149,197,154,197,155,197,185,197,186]⟩ by decide +kernel]
    exact line_1 w
  by_cases h2:n=2
  · subst h2
    rw[show markN 2=770 from rfl,show txt (lettersN 2)=⟨#[65,69,73,79,85,97,101,105,111,117,67,99,71,103,72,104,74,106,83,115,87,119,89,121]⟩ by decide +kernel,show txt (madeN 2)=⟨#[195,130,195,138,195,142,195,148,195,155,195,162,195,170,195,174,195,180,195,187,196,136,196,137,196,156,196,157,196,164,196,165,196,180,196,181,197,156,197,157,197,180,197,181,197,182,197,183]⟩ by decide +kernel]
    exact line_2 w
  by_cases h3:n=3
  · subst h3
    rw[show markN 3=771 from rfl,show txt (lettersN 3)=⟨#[65,78,79,97,110,111,73,105,85,117]⟩ by decide +kernel,show txt (madeN 3)=⟨#[195,131,195,145,195,149,195,163,195,177,195,181,196,168,196,169,197,168,197,169]⟩ by decide +kernel]
    exact line_3 w
  by_cases h4:n=4
  · subst h4
    rw[show markN 4=772 from rfl,show txt (lettersN 4)=⟨#[65,97,69,101,73,105,79,111,85,117]⟩ by decide +kernel,show txt (madeN 4)=⟨#[196,128,196,129,196,146,196,147,196,170,196,171,197,140,197,141,197,170,197,171]⟩ by decide +kernel]
    exact line_4 w
  by_cases h5:n=5
  · subst h5
    rw[show markN 5=774 from rfl,show txt (lettersN 5)=⟨#[65,97,69,101,71,103,73,105,79,111,85,117]⟩ by decide +kernel,show txt (madeN 5)=⟨#[196,130,196,131,196,148,196,149,196,158,196,159,196,172,196,173,197,142,197,143,197,172,197,173]⟩ by decide +kernel]
    exact line_5 w
  by_cases h6:n=6
  · subst h6
    rw[show markN 6=775 from rfl,show txt (lettersN 6)=⟨#[67,99,69,101,71,103,73,90,122]⟩ by decide +kernel,show txt (madeN 6)=⟨#[196,138,196,139,196,150,196,151,196,160,196,161,196,176,197,187,197,188]⟩ by decide +kernel]
    exact line_6 w
  by_cases h7:n=7
  · subst h7
    rw[show markN 7=776 from rfl,show txt (lettersN 7)=⟨#[65,69,73,79,85,97,101,105,111,117,121,89]⟩ by decide +kernel,show txt (madeN 7)=⟨#[195,132,195,139,195,143,195,150,195,156,195,164,195,171,195,175,195,182,195,188,195,191,197,184]⟩ by decide +kernel]
    exact line_7 w
  by_cases h8:n=8
  · subst h8
    rw[show markN 8=778 from rfl,show txt (lettersN 8)=⟨#[65,97,85,117]⟩ by decide +kernel,show txt (madeN 8)=⟨#[195,133,195,165,197,174,197,175]⟩ by decide +kernel]
    exact line_8 w
  by_cases h9:n=9
  · subst h9
    rw[show markN 9=779 from rfl,show txt (lettersN 9)=⟨#[79,111,85,117]⟩ by decide +kernel,show txt (madeN 9)=⟨#[197,144,197,145,197,176,197,177]⟩ by decide +kernel]
    exact line_9 w
  by_cases h10:n=10
  · subst h10
    rw[show markN 10=780 from rfl,show txt (lettersN 10)=⟨#[67,99,68,100,69,101,78,110,82,114,83,115,84,116,90,122]⟩ by decide +kernel,show txt (madeN 10)=⟨#[196,140,196,141,196,142,196,143,196,154,196,155,197,135,197,136,197,152,197,153,197,160,197,161,197,164,197,165,197,189,197,190]⟩ by decide +kernel]
    exact line_10 w
  by_cases h11:n=11
  · subst h11
    rw[show markN 11=807 from rfl,show txt (lettersN 11)=⟨#[67,99,71,103,75,107,76,108,78,110,82,114,83,115,84,116]⟩ by decide +kernel,show txt (madeN 11)=⟨#[195,135,195,167,196,162,196,163,196,182,196,183,196,187,196,188,197,133,197,134,197,150,197,151,197,158,197,159,197,162,197,163]⟩ by decide +kernel]
    exact line_11 w
  obtain rfl:n=12:=by omega
  rw[show markN 12=808 from rfl,show txt (lettersN 12)=⟨#[65,97,69,101,73,105,85,117]⟩ by decide +kernel,show txt (madeN 12)=⟨#[196,132,196,133,196,152,196,153,196,174,196,175,197,178,197,179]⟩ by decide +kernel]
  exact line_12 w
theorem class_some {r:Int}{n:Nat}(h:n<13)(hr:markN n=r)(hno:∀k:Nat,k<n→markN k≠r):classI r=if n<11 then 230 else 202:=by
  unfold classI
  have:(List.range 13).find? (fun n=>decide (markN n=r))=some n:=by
    rw[List.find?_range_eq_some]
    exact⟨by simpa using hr,by simpa using h,fun j hj=>by simpa using hno j hj⟩
  rw[this]
theorem class_none {r:Int}(hno:∀k:Nat,k<13→markN k≠r):classI r=0:=by
  unfold classI
  have:(List.range 13).find? (fun n=>decide (markN n=r))=none:=by
    rw[List.find?_range_eq_none]
    exact fun j hj=>by simpa using hno j hj
  rw[this]
theorem mark_more {r:Int}{n:Nat}(h:∀k:Nat,k<n→markN k≠r)(h':markN n≠r):∀k:Nat,k<n+1→markN k≠r:=by
  intro k hk
  by_cases e:k=n
  · subst e;exact h'
  · exact h k (by omega)
def RelC (r:Int)(nv:Value):Prop:=∃n:Nat,n≤13∧nv=.int .i64 n∧∀k:Nat,k<n→markN k≠r
set_option maxHeartbeats 1000000 in
theorem class_c (r:Int)(w:World):Calls Tryz.prog 161 #[.int .i32 r] w fun e w'=>e=.returned (.int .i64 (classI r))∧w=w':=by
  go_enter Tryz.func161,Tryz.ntmps161
  go_wp2
  go_loop [3] (fun nv=>RelC r nv) (fun nv=>13-(intOf nv).toNat)
  case atStart=>exact⟨0,by omega,rfl,fun k hk=>by omega⟩
  case round =>
    obtain⟨n,hn,rfl,hno⟩:=hrel
    have HNO:=Lib.hid hno
    clear hno
    by_cases hlt:n<13
    · have hz:(n:Int)<13:=by omega
      have cL:=line_c n hlt
      generalize txt (lettersN n)=tx at *
      generalize txt (madeN n)=ty at *
      by_cases hr:markN n=r
      · have HX:=Lib.hid (class_some hlt hr HNO.out)
        rw[hr]at cL
        clear hr
        by_cases h11:n<11
        · rw[if_pos h11]at HX
          have hz1:(n:Int)<11:=by omega
          go_wp2_with fail
          refine(cL _).mono ?_
          rintro e w' ⟨rfl,rfl⟩
          go_wp2
          go_ret
          exact⟨by rw[HX.out];rfl,rfl⟩
        · rw[if_neg h11]at HX
          have hz1:¬((n:Int)<11):=by omega
          clear h11
          go_wp2_with fail
          refine(cL _).mono ?_
          rintro e w' ⟨rfl,rfl⟩
          go_wp2
          go_ret
          exact⟨by rw[HX.out];rfl,rfl⟩
      · have HM:=Lib.hid (mark_more HNO.out hr)
        obtain⟨m,hm⟩:∃m,markN n=m:=⟨_,rfl⟩
        rw[hm]at cL hr
        have hr':(m==r)=false:=by rw[beq_eq_false_iff_ne];exact hr
        clear hr hm
        go_wp2_with fail
        refine(cL _).mono ?_
        rintro e w' ⟨rfl,rfl⟩
        go_wp2
        go_round
        case rel=>exact⟨n+1,by omega,by go_num,HM.out⟩
        case measure=>simp[intOf];omega
    · have hne:n=13:=by omega
      subst hne
      have HX:=Lib.hid (class_none HNO.out)
      go_wp2
      go_ret
      exact⟨by rw[HX.out];rfl,rfl⟩
end Go.Proofs.YtfioknaadbgjlaaGreatDoor.F
namespace Go.Proofs.YtfioknaadbgjlaaGreatDoor.F
open Go.RowKit
theorem pairI_none {a b:Int}(h:pairT a b=none):pairI a b=(if 4352≤a∧a≤4370∧4449≤b∧b≤4469 then 44032+(a-4352)*588+(b-4449)*28 else if 44032≤a∧a≤55203∧(a-44032)%28=0∧4520≤b∧b≤4546 then a+(b-4519) else 0):=by unfold pairI;rw[h]
theorem none_next {α:Type}{f:Nat→Option α}{n:Nat}(h:∀j,j<n→f j=none)(h':f n=none):∀j,j<n+1→f j=none:=by
  intro j hj
  by_cases e:j=n
  · subst e;exact h'
  · exact h j (by omega)
theorem ne_next {l:List Int}{a:Int}{i:Nat}(h:∀j,j<i→l.getD j 0≠a)(h':l.getD i 0≠a):∀j,j<i+1→l.getD j 0≠a:=by
  intro j hj
  by_cases e:j=i
  · subst e;exact h'
  · exact h j (by omega)
theorem SliceIs.cells {w:World}{v:Value}{l:List Int}(h:SliceIs w v l)(hl:1≤l.length) :
    ∃g off cap,g<w.heap.size∧v=.slice (some ⟨g,off,none⟩) l.length cap∧∀j,j<l.length→w.cell? ⟨g,off+j,none⟩=some (.int .i32 (l.getD j 0)):=by
  rcases h with⟨rfl,_⟩|h
  · simp at hl
  · exact h
def RelP (a b:Int)(w0:World)(nv:Value)(wr:World):Prop:=
  ∃n:Nat,n≤13∧nv=.int .i64 n∧(∀k:Nat,k<n→pairF a b k=none)∧Below w0.heap.size w0 wr
def RelQ (l:List Int)(a:Int)(iv:Value):Prop:=
  ∃i:Nat,i≤l.length∧iv=.int .i64 i∧(∀j:Nat,j<i→l.getD j 0≠a)
set_option maxHeartbeats 4000000 in
theorem pair_c (a b:Int)(ha:-2147483648≤a)(ha':a≤2147483647)(hb:-2147483648≤b)(hb':b≤2147483647)(w:World) :
    Calls Tryz.prog 217 #[.int .i32 a,.int .i32 b] w fun e w'=>e=.returned (.int .i32 (pairI a b))∧Below w.heap.size w w':=by
  go_enter Tryz.func217,Tryz.ntmps217
  go_wp2
  go_loopw [5] (fun nv wr=>RelP a b w nv wr) (fun nv _=>13-(intOf nv).toNat)
  case atStart=>exact⟨0,by omega,rfl,fun k hk=>by omega,Below.refl _ _⟩
  case round =>
    obtain⟨n,hn,rfl,hno,hbel⟩:=hrel
    have HNO:=Lib.hid hno
    clear hno
    by_cases hlt:n<13
    · have hz:(n:Int)<13:=by omega
      have cL:=line_c n hlt
      obtain⟨t1,t2,t3,t4,t5,t6,t7⟩:=table_at hlt
      have cX:=fun w=>refAll_c (txt (lettersN n)) (by have:=txt_size (lettersN n);omega) w
      have cY:=fun w=>refAll_c (txt (madeN n)) (by have:=txt_size (madeN n);omega) w
      simp only[txt_runes t4]at cX
      simp only[txt_runes t5]at cY
      generalize txt (lettersN n)=tx at *
      generalize txt (madeN n)=ty at *
      clear t4 t5
      have hF:pairF a b n=if markN n=b then rowPair n a else none:=rfl
      have hrs:∀i,i<(lettersN n).length→(lettersN n).getD i 0=a→(∀j,j<i→(lettersN n).getD j 0≠a)→rowPair n a=some ((madeN n).getD i 0):=fun i h1 h2 h3=>zip_find1 t1 h1 h2 h3
      have hrn:(∀j,j<(lettersN n).length→(lettersN n).getD j 0≠a)→rowPair n a=none:=fun h=>zip_none1 h
      generalize lettersN n=lx at *
      generalize madeN n=ly at *
      obtain⟨m,hm⟩:∃m,markN n=m:=⟨_,rfl⟩
      rw[hm]at cL hF t6 t7
      clear hm
      obtain⟨N,hN⟩:∃N,lx.length=N:=⟨_,rfl⟩
      have HLN:=Lib.hid hN
      have HLY:=Lib.hid (t1.symm.trans hN)
      rw[hN]at t2 t3
      have HRS:=Lib.hid hrs
      have HRN:=Lib.hid hrn
      have HF:=Lib.hid hF
      clear hrs hrn hF hN t1
      go_wp2_with fail
      refine(cL _).mono ?_
      rintro e w' ⟨rfl,rfl⟩
      go_wp2_with fail
      refine(cX _).mono ?_
      rintro e w1 ⟨v1,he,hs1,hb1⟩
      have he':e=.returned (.tuple #[v1,.bool true]):=he
      subst he'
      have HS1:=Lib.hid hs1
      clear he hs1
      go_wp2_with fail
      refine(cY _).mono ?_
      rintro e w2 ⟨v2,he,hs2,hb2⟩
      have he':e=.returned (.tuple #[v2,.bool true]):=he
      subst he'
      obtain⟨g1,o1,c1,hg1,hv1,hc1⟩:=(HS1.out.kept hb2).cells (show 1≤lx.length by rw[HLN.out];exact t2)
      obtain⟨g2,o2,c2,hg2,hv2,hc2⟩:=SliceIs.cells hs2 (show 1≤ly.length by rw[HLY.out];exact t2)
      have hv1':v1=.slice (some ⟨g1,o1,none⟩) N c1:=by rw[hv1];exact congrArg (fun k=>Value.slice (some ⟨g1,o1,none⟩) k c1) HLN.out
      have hv2':v2=.slice (some ⟨g2,o2,none⟩) N c2:=by rw[hv2];exact congrArg (fun k=>Value.slice (some ⟨g2,o2,none⟩) k c2) HLY.out
      subst hv1' hv2'
      have HC1:=Lib.hid hc1
      have HC2:=Lib.hid hc2
      have hbb:=below_step (below_step hbel hb1) hb2
      clear he hs2 hv1 hv2 hc1 hc2 hb1 hb2 hbel cX cY cL HS1
      by_cases hmb:m=b
      · subst hmb
        obtain⟨wq,hwq⟩:∃wq:World,wq=w2:=⟨_,rfl⟩
        subst hwq
        go_wp2
        go_loop [13] (fun iv=>RelQ lx a iv) (fun iv=>N-(intOf iv).toNat)
        case atStart=>exact⟨0,by omega,rfl,fun j hj=>by omega⟩
        case round =>
          obtain⟨i,hi,rfl,hni⟩:=hrel
          rw[HLN.out]at hi
          have HNI:=Lib.hid hni
          clear hni
          by_cases hil:i<N
          · have hilz:(i:Int)<(N:Int):=by omega
            obtain⟨x,hx⟩:∃x,lx.getD i 0=x:=⟨_,rfl⟩
            obtain⟨y,hy⟩:∃y,ly.getD i 0=y:=⟨_,rfl⟩
            have d1:wq.cell? ⟨g1,o1+i,none⟩=some (.int .i32 x):=by rw[←hx];exact HC1.out i (by show i<lx.length;rw[HLN.out];exact hil)
            have d2:wq.cell? ⟨g2,o2+i,none⟩=some (.int .i32 y):=by rw[←hy];exact HC2.out i (by show i<ly.length;rw[HLY.out];exact hil)
            by_cases hxa:x=a
            · have HX:=Lib.hid (show pairI a m=y by
                unfold pairI pairT
                rw[firstSome_at hlt HNO.out ((HF.out.trans (if_pos (by first|trivial|rfl))).trans (HRS.out i (by rw[HLN.out];exact hil) (hx.trans hxa) HNI.out))]
                exact hy)
              subst hxa
              clear hx hy
              go_wp2
              go_ret
              exact⟨by rw[HX.out];rfl,hbb⟩
            · have HM:=Lib.hid (ne_next HNI.out (by rw[hx];exact hxa))
              have hxa':(x==a)=false:=by rw[beq_eq_false_iff_ne];exact hxa
              clear hx hy hxa
              go_wp2
              go_round
              case rel=>exact⟨i+1,by rw[HLN.out];omega,by go_num,HM.out⟩
              case measure=>simp[intOf];omega
          · have hie:i=N:=by omega
            have HM:=Lib.hid (none_next HNO.out ((HF.out.trans (if_pos (by first|trivial|rfl))).trans (HRN.out (fun j hj=>HNI.out j (by rw[HLN.out]at hj;omega)))))
            have hge:¬((i:Int)<(N:Int)):=by omega
            clear hie
            go_wp2
            go_roundw
            case rel=>exact⟨n+1,by omega,by go_num,HM.out,hbb⟩
            case measure=>simp[intOf];omega
      · have hmb':(m==b)=false:=by rw[beq_eq_false_iff_ne];exact hmb
        have HM:=Lib.hid (none_next HNO.out (by rw[HF.out,if_neg hmb]))
        clear hmb
        have hNz:(0:Int)<(N:Int):=by omega
        go_wp2
        refine wp_loop_rounds 1 ?_
        rw[rounds_succ]
        go_wp2
        go_roundw
        case rel=>exact⟨n+1,by omega,by go_num,HM.out,hbb⟩
        case measure=>simp[intOf];omega
    · have hne:n=13:=by omega
      subst hne
      have HP:=Lib.hid (show pairT a b=none from firstSome_none HNO.out)
      by_cases a1:a<4352
      · have HX:=Lib.hid (show pairI a b=0 by rw[pairI_none HP.out,if_neg (by omega),if_neg (by omega)])
        have f1:¬((4352:Int)≤a):=by omega
        have f2:¬((44032:Int)≤a):=by omega
        go_wp2
        go_ret
        exact⟨by rw[HX.out];rfl,hbel⟩
      have f1:(4352:Int)≤a:=by omega
      clear a1
      by_cases a2:a≤4370
      · have f2:¬((44032:Int)≤a):=by omega
        by_cases b1:b<4449
        · have HX:=Lib.hid (show pairI a b=0 by rw[pairI_none HP.out,if_neg (by omega),if_neg (by omega)])
          have f3:¬((4449:Int)≤b):=by omega
          go_wp2
          go_ret
          exact⟨by rw[HX.out];rfl,hbel⟩
        have f3:(4449:Int)≤b:=by omega
        clear b1
        by_cases b2:b≤4469
        · have HX:=Lib.hid (show pairI a b=44032+(a-4352)*588+(b-4449)*28 by rw[pairI_none HP.out,if_pos (by omega)])
          go_wp2
          go_ret
          exact⟨by rw[HX.out];rfl,hbel⟩
        have HX:=Lib.hid (show pairI a b=0 by rw[pairI_none HP.out,if_neg (by omega),if_neg (by omega)])
        go_wp2
        go_ret
        exact⟨by rw[HX.out];rfl,hbel⟩
      by_cases a3:a<44032
      · have HX:=Lib.hid (show pairI a b=0 by rw[pairI_none HP.out,if_neg (by omega),if_neg (by omega)])
        have f2:¬((44032:Int)≤a):=by omega
        go_wp2
        go_ret
        exact⟨by rw[HX.out];rfl,hbel⟩
      have f2:(44032:Int)≤a:=by omega
      clear a3
      by_cases a4:a≤55203
      · by_cases r0:(a-44032)%28=0
        · have f4:((a-44032)%28==0)=true:=by rw[beq_iff_eq];exact r0
          by_cases b1:b<4520
          · have HX:=Lib.hid (show pairI a b=0 by rw[pairI_none HP.out,if_neg (by omega),if_neg (by omega)])
            have f3:¬((4520:Int)≤b):=by omega
            clear r0
            go_wp2
            go_ret
            exact⟨by rw[HX.out];rfl,hbel⟩
          have f3:(4520:Int)≤b:=by omega
          clear b1
          by_cases b2:b≤4546
          · have HX:=Lib.hid (show pairI a b=a+(b-4519) by rw[pairI_none HP.out,if_neg (by omega),if_pos (by omega)])
            clear r0
            go_wp2
            go_ret
            exact⟨by rw[HX.out];rfl,hbel⟩
          have HX:=Lib.hid (show pairI a b=0 by rw[pairI_none HP.out,if_neg (by omega),if_neg (by omega)])
          clear r0
          go_wp2
          go_ret
          exact⟨by rw[HX.out];rfl,hbel⟩
        · have f4:((a-44032)%28==0)=false:=by rw[beq_eq_false_iff_ne];exact r0
          have HX:=Lib.hid (show pairI a b=0 by rw[pairI_none HP.out,if_neg (by omega),if_neg (by omega)])
          clear r0
          go_wp2
          go_ret
          exact⟨by rw[HX.out];rfl,hbel⟩
      have HX:=Lib.hid (show pairI a b=0 by rw[pairI_none HP.out,if_neg (by omega),if_neg (by omega)])
      go_wp2
      go_ret
      exact⟨by rw[HX.out];rfl,hbel⟩
end Go.Proofs.YtfioknaadbgjlaaGreatDoor.F
namespace Go.Proofs.YtfioknaadbgjlaaGreatDoor.F
open Go.RowKit
def splitR (r:Int):Int×Int×Bool:=match splitI r with
  | some x=>(x.1,x.2,true)
  | none=>(0,0,false)
theorem splitR_at {r:Int}{x:Int×Int}(h:splitT r=some x):splitR r=(x.1,x.2,true):=by unfold splitR splitI;rw[h]
theorem splitI_none {r:Int}(h:splitT r=none):splitI r=(if r<44032∨55203<r then none else if 0<(r-44032)%28 then some (r-(r-44032)%28,4519+(r-44032)%28) else some (4352+(r-44032)/588,4449+(r-44032)%588/28)):=by unfold splitI;rw[h]
def RelV (r:Int)(w0:World)(nv:Value)(wr:World):Prop:=
  ∃n:Nat,n≤13∧nv=.int .i64 n∧(∀k:Nat,k<n→splitF r k=none)∧Below w0.heap.size w0 wr
set_option maxHeartbeats 4000000 in
theorem split_c (r:Int)(ha:-2147483648≤r)(ha':r≤2147483647)(w:World) :
    Calls Tryz.prog 211 #[.int .i32 r] w fun e w'=>e=.returned (.tuple #[.int .i32 (splitR r).1,.int .i32 (splitR r).2.1,.bool (splitR r).2.2])∧Below w.heap.size w w':=by
  go_enter Tryz.func211,Tryz.ntmps211
  go_wp2
  go_loopw [5] (fun nv wr=>RelV r w nv wr) (fun nv _=>13-(intOf nv).toNat)
  case atStart=>exact⟨0,by omega,rfl,fun k hk=>by omega,Below.refl _ _⟩
  case round =>
    obtain⟨n,hn,rfl,hno,hbel⟩:=hrel
    have HNO:=Lib.hid hno
    clear hno
    by_cases hlt:n<13
    · have hz:(n:Int)<13:=by omega
      have cL:=line_c n hlt
      obtain⟨t1,t2,t3,t4,t5,t6,t7⟩:=table_at hlt
      have cX:=fun w=>refAll_c (txt (lettersN n)) (by have:=txt_size (lettersN n);omega) w
      have cY:=fun w=>refAll_c (txt (madeN n)) (by have:=txt_size (madeN n);omega) w
      simp only[txt_runes t4]at cX
      simp only[txt_runes t5]at cY
      generalize txt (lettersN n)=tx at *
      generalize txt (madeN n)=ty at *
      clear t4 t5
      have hF:splitF r n=(rowSplit n r).map fun a=>(a,markN n):=rfl
      have hrs:∀i,i<(madeN n).length→(madeN n).getD i 0=r→(∀j,j<i→(madeN n).getD j 0≠r)→rowSplit n r=some ((lettersN n).getD i 0):=fun i h1 h2 h3=>zip_find2 t1 h1 h2 h3
      have hrn:(∀j,j<(madeN n).length→(madeN n).getD j 0≠r)→rowSplit n r=none:=fun h=>zip_none2 h
      generalize lettersN n=lx at *
      generalize madeN n=ly at *
      obtain⟨m,hm⟩:∃m,markN n=m:=⟨_,rfl⟩
      rw[hm]at cL hF t6 t7
      clear hm
      obtain⟨N,hN⟩:∃N,lx.length=N:=⟨_,rfl⟩
      have HLN:=Lib.hid hN
      have HLY:=Lib.hid (t1.symm.trans hN)
      rw[hN]at t2 t3
      have HRS:=Lib.hid hrs
      have HRN:=Lib.hid hrn
      have HF:=Lib.hid hF
      clear hrs hrn hF hN t1
      go_wp2_with fail
      refine(cL _).mono ?_
      rintro e w' ⟨rfl,rfl⟩
      go_wp2_with fail
      refine(cX _).mono ?_
      rintro e w1 ⟨v1,he,hs1,hb1⟩
      have he':e=.returned (.tuple #[v1,.bool true]):=he
      subst he'
      have HS1:=Lib.hid hs1
      clear he hs1
      go_wp2_with fail
      refine(cY _).mono ?_
      rintro e w2 ⟨v2,he,hs2,hb2⟩
      have he':e=.returned (.tuple #[v2,.bool true]):=he
      subst he'
      obtain⟨g1,o1,c1,hg1,hv1,hc1⟩:=(HS1.out.kept hb2).cells (show 1≤lx.length by rw[HLN.out];exact t2)
      obtain⟨g2,o2,c2,hg2,hv2,hc2⟩:=SliceIs.cells hs2 (show 1≤ly.length by rw[HLY.out];exact t2)
      have hv1':v1=.slice (some ⟨g1,o1,none⟩) N c1:=by rw[hv1];exact congrArg (fun k=>Value.slice (some ⟨g1,o1,none⟩) k c1) HLN.out
      have hv2':v2=.slice (some ⟨g2,o2,none⟩) N c2:=by rw[hv2];exact congrArg (fun k=>Value.slice (some ⟨g2,o2,none⟩) k c2) HLY.out
      subst hv1' hv2'
      have HC1:=Lib.hid hc1
      have HC2:=Lib.hid hc2
      have hbb:=below_step (below_step hbel hb1) hb2
      clear he hs2 hv1 hv2 hc1 hc2 hb1 hb2 hbel cX cY cL HS1
      obtain⟨wq,hwq⟩:∃wq:World,wq=w2:=⟨_,rfl⟩
      subst hwq
      go_wp2
      go_loop [13] (fun iv=>RelQ ly r iv) (fun iv=>N-(intOf iv).toNat)
      case atStart=>exact⟨0,by omega,rfl,fun j hj=>by omega⟩
      case round =>
        obtain⟨i,hi,rfl,hni⟩:=hrel
        rw[HLY.out]at hi
        have HNI:=Lib.hid hni
        clear hni
        by_cases hil:i<N
        · have hilz:(i:Int)<(N:Int):=by omega
          obtain⟨x,hx⟩:∃x,lx.getD i 0=x:=⟨_,rfl⟩
          obtain⟨y,hy⟩:∃y,ly.getD i 0=y:=⟨_,rfl⟩
          have d1:wq.cell? ⟨g1,o1+i,none⟩=some (.int .i32 x):=by rw[←hx];exact HC1.out i (by show i<lx.length;rw[HLN.out];exact hil)
          have d2:wq.cell? ⟨g2,o2+i,none⟩=some (.int .i32 y):=by rw[←hy];exact HC2.out i (by show i<ly.length;rw[HLY.out];exact hil)
          by_cases hya:y=r
          · have HX:=Lib.hid (splitR_at (firstSome_at (x:=(x,m)) hlt HNO.out (by rw[HF.out,HRS.out i (by rw[HLY.out];exact hil) (hy.trans hya) HNI.out,hx];rfl)))
            subst hya
            clear hx hy
            go_wp2
            go_ret3
            exact⟨by rw[HX.out];rfl,hbb⟩
          · have HM:=Lib.hid (ne_next HNI.out (by rw[hy];exact hya))
            have hya':(y==r)=false:=by rw[beq_eq_false_iff_ne];exact hya
            clear hx hy hya
            go_wp2
            go_round
            case rel=>exact⟨i+1,by rw[HLY.out];omega,by go_num,HM.out⟩
            case measure=>simp[intOf];omega
        · have hie:i=N:=by omega
          have HM:=Lib.hid (none_next HNO.out (by rw[HF.out,HRN.out (fun j hj=>HNI.out j (by rw[HLY.out]at hj;omega))];rfl))
          have hge:¬((i:Int)<(N:Int)):=by omega
          clear hie
          go_wp2
          go_roundw
          case rel=>exact⟨n+1,by omega,by go_num,HM.out,hbb⟩
          case measure=>simp[intOf];omega
    · have hne:n=13:=by omega
      subst hne
      have HP:=Lib.hid (show splitT r=none from firstSome_none HNO.out)
      by_cases a1:r<44032
      · have HX:=Lib.hid (show splitR r=(0,0,false) by unfold splitR;rw[splitI_none HP.out,if_pos (Or.inl a1)])
        go_wp2
        go_ret3
        exact⟨by rw[HX.out];rfl,hbel⟩
      · by_cases a2:55203<r
        · have HX:=Lib.hid (show splitR r=(0,0,false) by unfold splitR;rw[splitI_none HP.out,if_pos (Or.inr a2)])
          go_wp2
          go_ret3
          exact⟨by rw[HX.out];rfl,hbel⟩
        · have f1:(44032:Int)≤r:=by omega
          have f2:r≤(55203:Int):=by omega
          obtain⟨K,hK⟩:∃K:Int,r-44032=K:=⟨_,rfl⟩
          have k0:0≤K:=by omega
          have k1:K≤11171:=by omega
          by_cases r0:0<K%28
          · have HX:=Lib.hid (show splitR r=(r-K%28,4519+K%28,true) by unfold splitR;rw[splitI_none HP.out,if_neg (by omega),hK,if_pos r0])
            have q0:0≤K%28:=by omega
            have q1:K%28<28:=by omega
            clear a1 a2
            go_wp2
            go_ret3
            exact⟨by rw[HX.out];rfl,hbel⟩
          · have HX:=Lib.hid (show splitR r=(4352+K/588,4449+K%588/28,true) by unfold splitR;rw[splitI_none HP.out,if_neg (by omega),hK,if_neg r0])
            clear a1 a2
            go_wp2
            go_ret3
            exact⟨by rw[HX.out];rfl,hbel⟩
end Go.Proofs.YtfioknaadbgjlaaGreatDoor.F
