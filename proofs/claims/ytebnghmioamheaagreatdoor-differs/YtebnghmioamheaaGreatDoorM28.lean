import Derived.Lib.ItoaLen
import Derived.Lib.AppendIntMem
import Derived.Test.YtebnghmioamheaaGreatDoorM24
import Derived.Test.YtebnghmioamheaaGreatDoorM06
set_option maxRecDepth 100000
set_option linter.all false
namespace Go.Proofs.YtebnghmioamheaaGreatDoor
open Go.Shelf Go.RowKit Go.Lib Tryz
variable {w:World}
theorem Dw:Go.Proofs.LaysM.n171 prog nT:=by constructor<;>(try intro)<;>first|kernel_rfl|exact FI
def aZ (w:World):Prop:=Lib.TabIs prog w "internal/strconv.uint64pow10" .u64 Lib.pow10Tab
theorem aZ.same {w':World}(h:aZ w)(k:∀i,i<w.heap.size->i<7->w'.heap[i]?=w.heap[i]?):aZ w':=by
 unfold aZ Lib.TabIs World.var? at *;have hg:prog.globalNamed "internal/strconv.uint64pow10"=some 3:=by kernel_rfl
 rw[hg]at h ⊢;simp only[Option.bind_some]at h ⊢;have hlt:3<w.heap.size:=by
  rcases Nat.lt_or_ge 3 w.heap.size with hl|hl
  ·exact hl
  ·rw[xI hl]at h;simp at h
 rw[k 3 hlt (by decide)];exact h
theorem aZ.below {w':World}(h:aZ w)(k:Bw w w'):aZ w':=h.same λi a _=>k.block i a
def kK (n:Int):ByteArray:=⟨(Lib.itoa n).toArray⟩
theorem lS (n:Int):af (kK n)=Lib.itoa n:=rfl
theorem rj (n:Int)(h0:-9223372036854775808<=n)(h1:n<=9223372036854775807):(kK n).size<=21:=by rw[<-aL,lS];exact Lib.itoa_length_le n h0 h1
theorem wM (n:Int)(h0:-9223372036854775808<=n)(h1:n<=9223372036854775807)(hP:aZ w):Calls prog 106 #[Vi n] w λe w'=>e=.returned (.string (kK n))/\Bw w w':=by
 refine (Any.strconv_Itoa Dw n h0 h1 w hP).mono ?_;rintro e w' ⟨rfl,k,a,rfl⟩;exact⟨rfl,below_grow _ w (zA _) k a⟩
