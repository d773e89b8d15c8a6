import Derived.Test.YtebnghmioamheaaGreatDoorM19
import Derived.Test.YtebnghmioamheaaGreatDoorM24
set_option linter.all false
namespace Go.Proofs.YtebnghmioamheaaGreatDoor
open Go.RowKit Brm
theorem AA:(Tryz.prog.info? 9).map (λi=>(i.zero,i.size,i.bytes))=some (some (.string ⟨#[]⟩),1,16):=by kernel_rfl
theorem ag.five {w:World}{b:Nat}{v0 v1 v2 v3 v4:Value}{T:TypeId}(h:ag w b [v0,v1,v2,v3,v4] T):w.cell? (aD b 0)=some v0/\w.cell? (aD b 1)=some v1/\w.cell? (aD b 2)=some v2/\w.cell? (aD b 3)=some v3/\w.cell? (aD b 4)=some v4/\b<w.heap.size :=
 ⟨h.cell 0,h.cell 1,h.cell 2,h.cell 3,h.cell 4,h.lt⟩
theorem lN:∀(bs:List UInt8),(∀x∈bs,x.toNat<128)->Runes bs (bs.map λx=>(x.toNat:Int))
 | [],_=>.nil
 |b::bs,h=>by
  have a:b.toNat<128:=h b (by simp);have d:aS (b::bs)=(b.toNat,1):=En (bs:=b::bs) a;refine .cons (by simp) d ?_ ?_
  ·intro e;simp[cx]at e;omega
  ·simpa using lN bs (λx c=>h x (by simp[c]))
def Ol:List UInt8:=[97,123,48,44,49,125,91,98,45,98,120,93,124,92,100,123,50,44,50,125]
def Yx:List UInt8:=[97,63,91,98,120,93,124,91,48,45,57,93,123,50,125]
def Yy:Pat:=match aU false 21 (Ol.map λx=>(x.toNat:Int))with|.ok p _=>p|.bad _=>.row []
