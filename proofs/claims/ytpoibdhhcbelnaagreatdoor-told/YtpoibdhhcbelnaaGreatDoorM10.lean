/- The library's decoder, by its contract; whether a string of ASCII has a rune: walks. -/
import Derived.Deep.QuietTactic
import Derived.BigQuiet
import Derived.Laws.RangeString
import Derived.Laws.RangeAny
import Derived.WalkMore
import Derived.Deep.RegionHeld3
import Derived.Test.YtpoibdhhcbelnaaGreatDoorM00
import Derived.Test.YtpoibdhhcbelnaaGreatDoorM01
import Derived.Test.YtpoibdhhcbelnaaGreatDoorM04
import Derived.Test.YtpoibdhhcbelnaaGreatDoorM05
import Derived.Test.YtpoibdhhcbelnaaGreatDoorM06
import Derived.Test.YtpoibdhhcbelnaaGreatDoorM09
namespace Go.Proofs.YtpoibdhhcbelnaaGreatDoor
open Go.RowKit Brm
def DecW (W:World):Prop:=Lib.Utf8Tabs 0 1 W
def Tabs (w:World):Prop:=7<=w.heap.size/\∀ W:World,(∀ k,k<7->W.heap[k]?=w.heap[k]?)->DecW W
theorem Tabs.off {w w':World}{b:Nat}(h:Tabs w)(k:Off b w w')(hb:7<=b):Tabs w' :=
  ⟨Nat.le_trans h.1 k.size,fun W hW=>h.2 W (fun i hi=>(hW i hi).trans (k.block i (Nat.lt_of_lt_of_le hi h.1) (by omega)))⟩
theorem Tabs.below {w w':World}(h:Tabs w)(k:Below w.heap.size w w'):Tabs w' :=
  ⟨Nat.le_trans h.1 k.size,fun W hW=>h.2 W (fun i hi=>(hW i hi).trans (k.block i (Nat.lt_of_lt_of_le hi h.1)))⟩
theorem byte_get (s:ByteArray)(k:Nat):(s.get! k).toNat=byteAt (bytesOf s) k:=by
  unfold byteAt bytesOf
  rw [List.getD_eq_getElem?_getD]
  rcases Nat.lt_or_ge k s.data.size with h | h
  · rw [List.getElem?_eq_getElem (by simpa using h)]
    simp [ByteArray.get!]
    rw [getElem!_pos s.data k h]
  · rw [List.getElem?_eq_none (by simpa using h)]
    simp [ByteArray.get!,Array.getElem!_eq_getD]
    rw [Array.getElem?_eq_none h];rfl
theorem decodeGo_eq (s:ByteArray)(h:1<=s.size):Lib.decodeGo s=decL (bytesOf s):=by
  unfold Lib.decodeGo decL
  rw [if_neg (by omega),Lib.decode_at,byte_get,byte_get,byte_get,byte_get,bytes_len]
  simp
theorem dec_any (s:ByteArray)(w:World)(hT:Tabs w)(hs:1<=s.size):Calls Tryz.prog 103 #[.string s] w fun e w'=>e=.returned (.tuple #[.int .i32 (decL (bytesOf s)).1,.int .i64 (decL (bytesOf s)).2])/\Below w.heap.size w w':=by
  have:=Tryz.utf8_DecodeRuneInString s w (hT.2 w (fun _ _=>rfl))
  rw [decodeGo_eq s hs] at this
  exact this
theorem indexByte_mem (l:List UInt8)(c:UInt8):(0<=Lib.indexByte l c↔c∈l)/\-1<=Lib.indexByte l c:=by
  induction l with
  | nil=>simp [Lib.indexByte]
  | cons b l ih =>
    unfold Lib.indexByte
    by_cases hb:b=c
    · subst hb;simp
    · have hb2:(b == c)=false:=by simpa using hb
      rw [hb2]
      by_cases hi:Lib.indexByte l c=-1
      · rw [hi];rw [hi] at ih
        simp at ih ⊢
        exact ⟨fun e=>hb e.symm,ih⟩
      · have hi2:(Lib.indexByte l c == -1)=false:=by simpa using hi
        rw [hi2]
        simp only [Bool.false_eq_true,if_false,List.mem_cons]
        refine ⟨⟨fun h=>.inr (ih.1.1 (by omega)),fun h=>?_⟩,by omega⟩
        rcases h with h | h
        · exact absurd h.symm hb
        · have:=ih.1.2 h;omega
theorem contains_low (s:ByteArray)(r:Int)(w:World)(h0:0<=r)(h1:r<128):Calls Tryz.prog 163 #[.string s,.int .i32 r] w fun e w'=>e=.returned (.bool (amongB r s))/\Below w.heap.size w w':=by
  refine (Tryz.strings_ContainsRune_ascii s r w h0 h1).mono ?_
  rintro e w' ⟨rfl,rfl⟩
  refine ⟨ret_bool ?_,Below.refl _ _⟩
  rw [Bool.eq_iff_iff,decide_eq_true_eq,(indexByte_mem _ _).1]
  unfold amongB
  rw [List.any_eq_true]
  constructor
  · intro h
    refine ⟨_,h,?_⟩
    rw [UInt8.toNat_ofNat_of_lt' (by show _<256;omega)]
    simp;omega
  · rintro ⟨x,hx,he⟩
    have:(x.toNat:Int)=r:=by simpa using he
    have e:r.toNat.toUInt8=x:=by
      rw [<- this]
      simp
    rw [e];exact hx
theorem bytes_drop0 (s:ByteArray)(i:Nat):bytesOf (s.extract i s.size)=(bytesOf s).drop i:=by
  unfold bytesOf
  rw [ByteArray.data_extract]
  simp [Array.toList_extract,List.extract_eq_take_drop]
  rw [List.take_of_length_le]
  simp
theorem byte_low {s:ByteArray}(ha:∀ x∈bytesOf s,x.toNat<128){k:Nat}(h:k<s.size):s[k].toNat<128:=ha _ (by unfold bytesOf;exact Array.getElem_mem_toList (by simpa using h))
set_option maxRecDepth 100000 in
set_option maxHeartbeats 400000 in
theorem index_fffd (s:ByteArray)(w:World)(ha:∀ x∈bytesOf s,x.toNat<128):Calls Tryz.prog 212 #[.string s,.int .i32 65533] w fun e w'=>e=.returned (.int .i64 (-1))/\Below w.heap.size w w':=by
  have HA:=hide ha
  clear ha
  go_enter Tryz.func212,Tryz.ntmps212
  go_wp2
  go_loopw [5] (fun _ wr=>∃ pos,pos<=s.size/\wr=w.iter s pos) (fun _ wr=>s.size-wr.iterPos w.heap.size)
  case atStart=>exact ⟨0,Nat.zero_le _,rfl⟩
  case round =>
    obtain ⟨pos,hp,rfl⟩:=hrel
    by_cases hlt:pos<s.size
    · have hlow:=byte_low HA.out hlt
      have hnx:=fun ty=>run_next_ascii (P:=Tryz.prog) w s pos ty hlt hlow
      have hb:(((s[pos].toNat:Nat):Int) == 65533)=false:=beq_eq_false_iff_ne.2 (by omega)
      go_wp2
      go_roundw
      case rel=>exact ⟨pos+1,by omega,rfl⟩
      case measure=>simp;omega
    · have hnx:=fun ty=>run_next_end (P:=Tryz.prog) w s pos ty hlt
      go_wp2
      go_ret
      exact ⟨rfl,(Below.refl _ _).alloc (Nat.le_refl _) _⟩
theorem valid_rune {r:Int}(h:runeB r=true):Utf8.valid r=true/\Lib.validRune r=true:=by
  have:=(rune_iff r).1 h
  refine ⟨?_,?_⟩
  · unfold Utf8.valid;simp;omega
  · unfold Lib.validRune;simp;omega
theorem index_none {l:List UInt8}(h:∀ x∈l,x.toNat<128)(c:UInt8)(hc:128<=c.toNat):Lib.indexByte l c=-1:=by
  have:=indexByte_mem l c
  by_cases hm:c∈l
  · have:=h c hm;omega
  · have h1:¬ 0<=Lib.indexByte l c:=fun e=>hm (this.1.1 e)
    omega
set_option maxRecDepth 100000 in
set_option maxHeartbeats 1000000 in
theorem index_high (s:ByteArray)(r:Int)(w:World)(h5:5<=s.size)(hs:s.size<=1000)(ha:∀ x∈bytesOf s,x.toNat<128)(hr:runeB r=true)(h128:128<=r)(hne:r≠65533):Calls Tryz.prog 212 #[.string s,.int .i32 r] w fun e w'=>e=.returned (.int .i64 (-1))/\Below w.heap.size w w':=by
  obtain ⟨hv1,hv2⟩:=valid_rune hr
  have HV:=hide (fun w=>Tryz.utf8_ValidRune r w)
  rw [hv2] at HV
  obtain ⟨e1,e2,e3⟩:=encode_facts r hv1 h128
  have HX:=hide (fun t c w=>Tryz.strings_IndexByte t c w)
  generalize hE:Utf8.encode r=E at e1 e2 e3
  have hcv:∀ w,(convert 21 9 (.int .i32 r)).run Tryz.prog w=.ok (.string E) w:=fun w=>by rw [run_convert_int_string w 21 9 .i32 r (by rw [Tryz.underlying21];rfl) Tryz.underlying9,hE]
  have d1:decide (r<128)=false:=decide_eq_false (by omega)
  have hb:(r == 65533)=false:=beq_eq_false_iff_ne.2 hne
  obtain ⟨K,hK⟩:∃ K,E.size=K+1:=⟨E.size-1,by omega⟩
  have hKs:K<E.size:=by omega
  have hlast:128<=(E[K]'hKs).toNat:=by
    have:=e3 (by omega)
    simpa [hK] using this
  have hks:K<s.size:=by omega
  have hlow:=byte_low ha hks
  have hr0:(0:Int)<=r:=by omega
  have HA:=hide ha
  clear hr hv1 hv2 e3 ha hne hE
  go_enter Tryz.func212,Tryz.ntmps212
  go_wp2_with fail
  refine (HV.out _).mono ?_
  rintro e w0 ⟨rfl,hw0⟩
  have hw1:=hw0.symm
  subst hw1
  clear hw0
  go_wp2_with fail
  go_step3
  go_wp2_with fail
  clear hK
  have i0:(0:Int)<=(K:Int):=Int.natCast_nonneg _
  have i1:(K:Int)<(s.size:Int):=by omega
  have i2:(K:Int)<(E.size:Int):=by omega
  have i4:(0:Int)<=(K:Int)+1:=by omega
  have i3:(K:Int)+1<=(s.size:Int):=by omega
  have hwrap:IntKind.i64.wrap ((K:Int)+1)=(K:Int)+1:=wrap_small _ (by omega) (by omega)
  have q0:(0:Int)<=((E[K]'hKs).toNat:Int):=Int.natCast_nonneg _
  have q1:((E[K]'hKs).toNat:Int)<=255:=by have:=(E[K]'hKs).toNat_lt;omega
  have hbb:((s[K].toNat:Int) == ((E[K]'hKs).toNat:Int))=false:=beq_eq_false_iff_ne.2 (by omega)
  have HIX:Hid (∀ w,Calls Tryz.prog 245 #[.string (s.extract (K+1) s.size),.int .u8 ((E[K]'hKs).toNat:Int)] w fun e w'=>e=.returned (.int .i64 (-1))/\w'=w):=fun w=>by
    have h1:=HX.out (s.extract (K+1) s.size) ((E[K]'hKs).toNat:Int) w
    have h2:Lib.indexByte (s.extract (K+1) s.size).data.toList ((((E[K]'hKs).toNat:Int)).toNat.toUInt8)=-1:=by
      refine index_none (fun x hx=>HA.out x ?_) _ ?_
      · have hm:x∈(bytesOf s).drop (K+1):=by rw [<- bytes_drop0];exact hx
        exact List.mem_of_mem_drop hm
      · simpa using hlast
    rw [h2] at h1
    exact h1
  go_loop [9,10] (fun i f=>i=.int .i64 K/\f=.int .i64 0) (fun _ _=>0)
  case atStart=>exact ⟨rfl,rfl⟩
  case round =>
    obtain ⟨rfl,rfl⟩:=hrel
    go_wp2_with fail
    go_step3
    go_wp2_with fail
    go_quiet (fail)
    go_wp2_with fail
    go_region_held3 (fun w'=>Below w.heap.size w w')
      (first | exact (below_drawn (Below.refl _ _)).drew | assumption)
      ((first
        | (go_at_call 245;refine (HIX.out _).mono ?_;rintro e w5 ⟨rfl,hw5⟩;have hw6:=hw5.symm;subst hw6)))
    all_goals
      go_wp2_with fail
      refine (show bodyPost Tryz.prog Tryz.f212 (fun e w'=>e=Ending.returned (Value.int IntKind.i64 (-1))/\Below w.heap.size w w') Exit.ret _ _ from ?_)
      go_ret
      exact ⟨rfl,by assumption⟩
set_option maxRecDepth 100000 in
set_option maxHeartbeats 400000 in
theorem contains_high (s:ByteArray)(r:Int)(w:World)(h5:5<=s.size)(hs:s.size<=1000)(ha:∀ x∈bytesOf s,x.toNat<128)(hr:runeB r=true)(h128:128<=r):Calls Tryz.prog 163 #[.string s,.int .i32 r] w fun e w'=>e=.returned (.bool false)/\Below w.heap.size w w':=by
  have HC:Hid (Calls Tryz.prog 212 #[.string s,.int .i32 r] w fun e w'=>e=.returned (.int .i64 (-1))/\Below w.heap.size w w'):=by
    by_cases hf:r=65533
    · subst hf;exact index_fffd s w ha
    · exact index_high s r w h5 hs ha hr h128 hf
  clear h5 hs ha hr h128
  go_enter Tryz.func163,Tryz.ntmps163
  go_wp2_with fail
  refine HC.out.mono ?_
  rintro e w1 ⟨rfl,hb⟩
  have HB:=hide hb
  clear hb
  go_wp2
  go_ret
  exact ⟨rfl,HB.out⟩
theorem contains_any (s:ByteArray)(r:Int)(w:World)(h5:5<=s.size)(hs:s.size<=1000)(ha:∀ x∈bytesOf s,x.toNat<128)(hr:runeB r=true):Calls Tryz.prog 163 #[.string s,.int .i32 r] w fun e w'=>e=.returned (.bool (amongB r s))/\Below w.heap.size w w':=by
  have h:=(rune_iff r).1 hr
  by_cases h1:r<128
  · exact contains_low s r w (by omega) h1
  · have:amongB r s=false:=by
      unfold amongB
      rw [List.any_eq_false]
      intro x hx
      have:=ha x hx
      simp;omega
    rw [this]
    exact contains_high s r w h5 hs ha hr (by omega)
end Go.Proofs.YtpoibdhhcbelnaaGreatDoor
