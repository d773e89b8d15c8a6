/- A row of ranges as the source of an append. -/
import Derived.Laws.AppendOwnNone
import Derived.Test.YtpoibdhhcbelnaaGreatDoorM06
namespace Go.Proofs.YtpoibdhhcbelnaaGreatDoor
open Go.RowKit
theorem src_cells {w W:World}{ao:Option Addr}{l:List (Int×Int)}(h:Rd w ao l)(hb:Below w.heap.size w W){ad:Addr}(ha:ao=some ad):∀ j u,(cellsR l)[j]?=some u->W.cell? (ad.add j)=some u:=by
  intro j u hj
  have hlt:j<(cellsR l).length:=(List.getElem?_eq_some_iff.1 hj).1
  rw [cellsR_length] at hlt
  have hi:j / 2<l.length:=by omega
  obtain ⟨b,off,e,hbl,h1,h2⟩:=h.below hb (j / 2) l[j / 2] (List.getElem?_eq_getElem hi)
  have e2:ad=⟨b,off,none⟩:=by rw [ha] at e;exact Option.some.inj e
  subst e2
  have hg:=cellsR_get (List.getElem?_eq_getElem hi)
  rcases Nat.mod_two_eq_zero_or_one j with h0 | h0
  · have hd:j / 2*2=j:=by omega
    rw [hd] at hg h1
    rw [hg.1] at hj
    rw [Addr.add_lit,<- hj];exact h1
  · have hd:j / 2*2+1=j:=by omega
    rw [Nat.add_assoc,hd] at h2
    rw [hd] at hg
    rw [hg.2] at hj
    rw [Addr.add_lit,<- hj];exact h2
theorem src_one (l:List (Int×Int)):∀ u∈cellsR l,u.oneCell'=true:=by
  intro u hu
  simp only [cellsR,List.mem_flatMap] at hu
  obtain ⟨x,_,hx⟩:=hu
  simp at hx;rcases hx with rfl | rfl<;>rfl
end Go.Proofs.YtpoibdhhcbelnaaGreatDoor
