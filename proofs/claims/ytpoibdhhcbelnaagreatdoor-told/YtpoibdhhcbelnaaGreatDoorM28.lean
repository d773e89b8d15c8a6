/- Numbers as text, every one: the library's contract laid at this program. -/
import Derived.Lib.ItoaLen
import Derived.Lib.AppendIntMem
import Derived.Test.YtpoibdhhcbelnaaGreatDoorM22
import Derived.Test.YtpoibdhhcbelnaaGreatDoorM06
namespace Go.Proofs.YtpoibdhhcbelnaaGreatDoor
open Go.Shelf Go.RowKit Go.Lib
theorem Tryz.laysM171:Go.Proofs.LaysM.n171 Tryz.prog Tryz.lays171_ren:={ Tryz.lays171 with
  i0:=by kernel_rfl
  i2:=by kernel_rfl
  i3:=by kernel_rfl
  i4:=by kernel_rfl
  i5:=by kernel_rfl
  i9:=by kernel_rfl
  i20:=by kernel_rfl
  i37:=by kernel_rfl
  i46:=by kernel_rfl
  i51:=by kernel_rfl
  i53:=by kernel_rfl
  i171:=by kernel_rfl
  i173:=by kernel_rfl
  i212:=by kernel_rfl
  i232:=by kernel_rfl
  i233:=by kernel_rfl
  m17:=by kernel_rfl
  m18:=by kernel_rfl
  m19:=by kernel_rfl }
def PowT (w : World) : Prop := Lib.TabIs Tryz.prog w "internal/strconv.uint64pow10" .u64 Lib.pow10Tab
theorem PowT.same {w w':World}(h:PowT w)(k:∀ i,i<w.heap.size->i<7->w'.heap[i]?=w.heap[i]?):PowT w':=by
  unfold PowT Lib.TabIs World.var? at *
  have hg : Tryz.prog.globalNamed "internal/strconv.uint64pow10" = some 4 := by kernel_rfl
  rw [hg] at h ⊢
  simp only [Option.bind_some] at h ⊢
  have hlt:4<w.heap.size:=by
    rcases Nat.lt_or_ge 4 w.heap.size with hl | hl
    · exact hl
    · rw [Array.getElem?_eq_none hl] at h;simp at h
  rw [k 4 hlt (by decide)]
  exact h
theorem PowT.below {w w':World}(h:PowT w)(k:Below w.heap.size w w'):PowT w':=h.same fun i hi _=>k.block i hi
def itoaB (n:Int):ByteArray:=⟨(Lib.itoa n).toArray⟩
theorem itoaB_bytes (n:Int):bytesOf (itoaB n)=Lib.itoa n:=rfl
theorem itoaB_size (n:Int)(h0:-9223372036854775808<=n)(h1:n<=9223372036854775807):(itoaB n).size<=21:=by rw [<- bytes_len,itoaB_bytes];exact Lib.itoa_length_le n h0 h1
theorem itoa_gen (n:Int)(h0:-9223372036854775808<=n)(h1:n<=9223372036854775807)(w:World)(hP:PowT w):Calls Tryz.prog 114 #[.int .i64 n] w fun e w'=>e=.returned (.string (itoaB n))/\Below w.heap.size w w':=by
  refine (Any.strconv_Itoa Tryz.laysM171 n h0 h1 w hP).mono ?_
  rintro e w' ⟨rfl,k,os,rfl⟩
  exact ⟨rfl,below_grow _ w (Nat.le_refl _) k os⟩
end Go.Proofs.YtpoibdhhcbelnaaGreatDoor
