/- A text's runes: whether it is UTF-8, and what a conversion makes of it: plain. -/
import Derived.Lib.TrimUEq
import Derived.Lib.ValidU
import Derived.Laws.IdiomStrings
import Derived.Test.YtpoibdhhcbelnaaGreatDoorM16
import Derived.Test.YtpoibdhhcbelnaaGreatDoorM10
namespace Go.Proofs.YtpoibdhhcbelnaaGreatDoor
open Go.Shelf Go.RowKit Go.Lib Brm
theorem byte_drop (bs:List UInt8)(i k:Nat):byteAt (bs.drop i) k=byteAt bs (i+k):=by
  unfold byteAt
  rw [List.getD_eq_getElem?_getD,List.getD_eq_getElem?_getD,List.getElem?_drop]
theorem decode_drop (s:ByteArray)(i:Nat):Utf8.decode s i=decL ((bytesOf s).drop i):=by
  unfold decL
  rw [Lib.decode_at,byte_get,byte_get,byte_get,byte_get,List.length_drop,bytes_len,byte_drop,byte_drop,byte_drop,byte_drop]
  rfl
theorem decodeL_eq (l:List UInt8):Lib.decodeL l=decL l:=by
  have h:=Lib.decodeL_drop ⟨l.toArray⟩ 0
  rw [decode_drop] at h
  simpa [bytesOf] using h
theorem valid_step {bs:List UInt8}{n:Nat}(hne:bs≠[]):Lib.validGoD (n+1) bs=if decL bs=noRune then false else Lib.validGoD n (bs.drop (decL bs).2):=by
  have e:((decL bs).1=65533/\(decL bs).2=1)↔decL bs=noRune:=by
    unfold noRune
    constructor
    · rintro ⟨h1,h2⟩;exact Prod.ext h1 h2
    · intro h;rw [h];exact ⟨rfl,rfl⟩
  show (if bs=[] then true else if (Lib.decodeL bs).1=65533/\(Lib.decodeL bs).2=1 then false else Lib.validGoD n (bs.drop (Lib.decodeL bs).2))=_
  rw [if_neg hne,decodeL_eq]
  simp only [e]
theorem valid_runes {bs:List UInt8}{l:List Int}(h:Runes bs l):∀ n,bs.length<=n->Lib.validGoD n bs=true:=by
  induction h with
  | nil=>intro n _;cases n<;>simp [Lib.validGoD]
  | cons hne hd hn hr ih =>
    intro n hn'
    have hf:=decL_fit hne
    rw [hd] at hf
    cases n with
    | zero=>exact absurd (List.length_eq_zero_iff.1 (by omega)) hne
    | succ n =>
      rw [valid_step hne,hd,if_neg hn]
      exact ih n (by rw [List.length_drop];omega)
theorem valid_broken {bs:List UInt8}{k:Nat}(h:Broken bs k):∀ n,bs.length<=n->Lib.validGoD n bs=false:=by
  induction h with
  | here hne hd =>
    intro n hn'
    cases n with
    | zero=>exact absurd (List.length_eq_zero_iff.1 (by omega)) hne
    | succ n=>rw [valid_step hne,if_pos hd]
  | later hne hd hn hr ih =>
    intro n hn'
    have hf:=decL_fit hne
    rw [hd] at hf
    cases n with
    | zero=>exact absurd (List.length_eq_zero_iff.1 (by omega)) hne
    | succ n =>
      rw [valid_step hne,hd,if_neg hn]
      exact ih n (by rw [List.length_drop];omega)
theorem runesFrom_eq (s:ByteArray){bs:List UInt8}{l:List Int}(h:Runes bs l):∀ (n i:Nat) (acc:Array Value),bs=(bytesOf s).drop i->bs.length<=n->Conv.runesFrom s n i acc=acc++(l.map (Value.int .i32)).toArray:=by
  induction h with
  | nil =>
    intro n i acc he hn
    have hi:¬ i<s.size:=by
      have:=congrArg List.length he
      rw [List.length_drop,bytes_len] at this
      simp at this;omega
    cases n with
    | zero=>simp [Conv.runesFrom]
    | succ n=>unfold Conv.runesFrom;rw [if_neg hi];simp
  | cons hne hd hn hr ih =>
    rename_i bs c w l
    intro n i acc he hn'
    have hf:=decL_fit hne
    rw [hd] at hf
    have hlen:=congrArg List.length he
    rw [List.length_drop,bytes_len] at hlen
    have h0:0<bs.length:=List.length_pos_iff.2 hne
    cases n with
    | zero=>omega
    | succ n =>
      unfold Conv.runesFrom
      rw [if_pos (by omega),decode_drop,<- he,hd]
      show Conv.runesFrom s n (i+w) (acc.push (.int .i32 (Int.ofNat c)))=_
      rw [ih n (i+w) _ (by rw [he,List.drop_drop]) (by rw [List.length_drop];omega)]
      simp
theorem runes_conv (s:ByteArray){l:List Int}(h:Runes (bytesOf s) l):Conv.runesFrom s s.size 0 #[]=(l.map (Value.int .i32)).toArray:=by
  have:=runesFrom_eq s h s.size 0 #[] (by simp) (by rw [bytes_len];exact Nat.le_refl _)
  simpa using this
end Go.Proofs.YtpoibdhhcbelnaaGreatDoor
