/- Walks and plain laws, some texts in one. -/
import Derived.Laws.IdiomStrings
import Derived.Laws.StructEq
import Derived.BigRegion
import Derived.BigQuiet
import Derived.Deep.QuietTactic
import Derived.Deep.RegionHeld3
import Derived.Test.YtpoibdhhcbelnaaGreatDoorM17
import Derived.Test.YtpoibdhhcbelnaaGreatDoorM22
import Derived.Test.YtpoibdhhcbelnaaGreatDoorM09
import Derived.Test.YtpoibdhhcbelnaaGreatDoorM03
import Derived.Test.YtpoibdhhcbelnaaGreatDoorM05
import Derived.Test.YtpoibdhhcbelnaaGreatDoorM06
import Derived.Test.YtpoibdhhcbelnaaGreatDoorM16
namespace Go.Proofs.YtpoibdhhcbelnaaGreatDoor
open Go.RowKit Brm
def WriteOk (p:Pat):Prop:=∀ (A:Nat->Prop) (x:Nat) (w:World),PN w A p x->p.wr.length<=4000->p.Ok->Calls Tryz.prog 35 #[Ptr x] w fun e w'=>Str p.wr w e w'
theorem Blk.five {w:World}{b:Nat}{v0 v1 v2 v3 v4:Value}{T:TypeId}(h:Blk w b [v0,v1,v2,v3,v4] T):w.cell? ⟨b,0,none⟩=some v0/\w.cell? ⟨b,1,none⟩=some v1/\w.cell? ⟨b,2,none⟩=some v2/\w.cell? ⟨b,3,none⟩=some v3/\w.cell? ⟨b,4,none⟩=some v4/\b<w.heap.size :=
  ⟨h.cell 0,h.cell 1,h.cell 2,h.cell 3,h.cell 4,h.lt⟩
end Go.Proofs.YtpoibdhhcbelnaaGreatDoor
namespace Go.Proofs.YtpoibdhhcbelnaaGreatDoor
open Go.RowKit Brm
theorem ascii_runes:∀ (bs:List UInt8),(∀ x∈bs,x.toNat<128)->Runes bs (bs.map fun x=>(x.toNat:Int))
  | [],_=>.nil
  | b::bs,h=>by
    have hb:b.toNat<128:=h b (by simp)
    have hd:decL (b::bs)=(b.toNat,1):=decL_low (bs:=b::bs) hb
    refine .cons (by simp) hd ?_ ?_
    · intro e;simp [noRune] at e;omega
    · simpa using ascii_runes bs (fun x hx=>h x (by simp [hx]))
def exampleIn:List UInt8:=[97,123,48,44,49,125,91,98,45,98,120,93,124,92,100,123,50,44,50,125]
def exampleOut:List UInt8:=[97,63,91,98,120,93,124,91,48,45,57,93,123,50,125]
def examplePat:Pat:=match orN false 21 (exampleIn.map fun x=>(x.toNat:Int)) with | .ok p _=>p | .bad _=>.row []
end Go.Proofs.YtpoibdhhcbelnaaGreatDoor
