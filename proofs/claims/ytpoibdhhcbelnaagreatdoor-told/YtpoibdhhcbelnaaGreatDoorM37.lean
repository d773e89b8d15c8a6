/- The library's Compact on a row of rests: a walk. -/
import Derived.Lib.SlicesCompact
import Derived.Lib.SliceRun
import Derived.Lib.Builder
import Derived.Test.YtpoibdhhcbelnaaGreatDoorM30
import Derived.Test.YtpoibdhhcbelnaaGreatDoorM36
namespace Go.Proofs.YtpoibdhhcbelnaaGreatDoor
open Go.Shelf Go.RowKit Go.Lib Go.Sort Brm
theorem ptr_nsame (a:Nat)(w:World):(binOp .neq 159 (.pointer (some ⟨a,0,none⟩)) (.pointer (some ⟨a,0,none⟩))).run Tryz.prog w=.ok (.bool false) w:=by
  obtain ⟨j,hj,_⟩:=rest_info
  exact run_neq_ptr_same w _ Tryz.underlying159 hj
theorem ptr_nother {w:World}{a b:Nat}{ca cb:List Value}{ta tb:TypeId}(ha:Blk w a ca ta)(hb:Blk w b cb tb)(hne:a≠b):(binOp .neq 159 (.pointer (some ⟨a,0,none⟩)) (.pointer (some ⟨b,0,none⟩))).run Tryz.prog w=.ok (.bool true) w:=by
  have h:=ptr_other ha hb hne
  simp only [binOp,Sem.run_bind,Sem.run_pure] at h ⊢
  cases he:(Op.equal 159 (.pointer (some ⟨a,0,none⟩)) (.pointer (some ⟨b,0,none⟩))).run Tryz.prog w with
  | ok v w' =>
    rw [he] at h
    simp only [Result.andThen_ok,Result.ok.injEq,Value.bool.injEq] at h ⊢
    exact ⟨by rw [h.1];rfl,h.2⟩
  | _=>rw [he] at h;cases h
structure RowP (w:World)(g:Nat)(R:Nat->Nat)(d:Array Nat)(wr:World):Prop where
  but:But (fun k=>k=g) w wr
  cell:∀ j,j<d.size->wr.cell? ⟨g,j,none⟩=some (PtrB (R d[j]!))/\wr.frozen? ⟨g,j,none⟩=false
theorem RowP.set {w wr:World}{g:Nat}{R:Nat->Nat}{d:Array Nat}(h:RowP w g R d wr){k x:Nat}(hk:k<d.size):RowP w g R (d.setIfInBounds k x) (wr.setCell ⟨g,k,none⟩ (PtrB (R x))):=by
  refine ⟨h.but.setCell (p:=⟨g,k,none⟩) (.inl rfl) _,fun j hj=>?_⟩
  have hj':j<d.size:=by simpa using hj
  by_cases e:j=k
  · subst e
    rw [getElem!_set_same d j x hk]
    exact ⟨World.cell?_setCell_same _ _ _ (h.cell j hj').1,(World.frozen?_setCell _ _ _ _).trans (h.cell j hj').2⟩
  · rw [getElem!_set_other d k j x e]
    exact ⟨(World.cell?_setCell_other _ _ _ _ (by intro e';simp only [Addr.mk.injEq] at e';omega)).trans (h.cell j hj').1,(World.frozen?_setCell _ _ _ _).trans (h.cell j hj').2⟩
theorem RowP.drew {w wr:World}{g:Nat}{R:Nat->Nat}{d:Array Nat}(h:RowP w g R d wr)(n:Nat):RowP w g R d (wr.drewN n):=⟨⟨h.but.os,h.but.tape,h.but.output,h.but.size,h.but.block⟩,h.cell⟩
theorem lt_of_cell {w:World}{b o:Nat}{v:Value}(h:w.cell? ⟨b,o,none⟩=some v):b<w.heap.size:=by
  rcases Nat.lt_or_ge b w.heap.size with h' | h'
  · exact h'
  · simp [World.cell?,Array.getElem?_eq_none h'] at h
theorem wrap_nat {n:Nat}(h:n<=9000000000000000):IntKind.i64.wrap (n:Int)=(n:Int):=by
  simp [IntKind.wrap,IntKind.bits,IntKind.signed];omega
theorem But.setCells_at {S:Nat->Prop}{w:World}(b:Nat):∀ (vs:List Value) {o:Nat} {wr:World},But S w wr->S b->But S w (wr.setCells b o vs)
  | [],_,_,h,_=>h
  | v::vs,o,wr,h,hb=>by
    unfold World.setCells
    exact But.setCells_at b vs (h.setCell (p:=⟨b,o,none⟩) (.inl hb) v) hb
theorem cell_setCells_below {b j:Nat}:∀ (vs:List Value) (o:Nat) (wr:World),j<o->(wr.setCells b o vs).cell? ⟨b,j,none⟩=wr.cell? ⟨b,j,none⟩
  | [],_,_,_=>rfl
  | v::vs,o,wr,h=>by
    unfold World.setCells
    rw [cell_setCells_below vs (o+1) _ (by omega)]
    exact World.cell?_setCell_other _ _ _ _ (by intro e';simp only [Addr.mk.injEq] at e';omega)
set_option maxRecDepth 100000 in
set_option maxHeartbeats 4000000 in
theorem compact_any (R:Nat->Nat)(g cap:Nat)(d:Array Nat)(w:World)(hr:RowP w g R d w)(hbk:∀ j,j<d.size->R d[j]!≠g/\∃ cs t,Blk w (R d[j]!) cs t)(hinj:∀ i j,i<d.size->j<d.size->R d[i]! = R d[j]!->d[i]! = d[j]!)(hsz:d.size<=9000000000000000)(hcap:d.size<=cap) :
    Calls Tryz.prog 176 #[.slice (some ⟨g,0,none⟩) d.size cap] w fun e w'=>e=.returned (.slice (some ⟨g,0,none⟩) (compactUpTo d d.size).length cap)/\But (fun k=>k=g) w w'/\∀ j p,(compactUpTo d d.size)[j]?=some p->w'.cell? ⟨g,j,none⟩=some (PtrB (R p)):=by
  have hall:(∀ j,j<d.size->keeps d j=true)->(compactUpTo d d.size)=d.toList:=fun h=>by rw [compactUpTo_all d _ h,range_map_get]
  have HALL:=hide hall
  have HBK:=hide hbk
  have HINJ:=hide hinj
  have HE:Hid (∀ (wr:World) (i j n:Nat),But (fun k=>k=g) w wr->i<d.size->j<d.size->d[i]!≠d[j]!->(binOp .eql 159 (PtrB (R d[i]!)) (PtrB (R d[j]!))).run Tryz.prog (wr.drewN n)=.ok (.bool false) (wr.drewN n)/\(binOp .neq 159 (PtrB (R d[i]!)) (PtrB (R d[j]!))).run Tryz.prog (wr.drewN n)=.ok (.bool true) (wr.drewN n)):=fun wr i j n hb hi hj hne=>by
    obtain ⟨n1,cs1,t1,b1⟩:=hbk i hi
    obtain ⟨n2,cs2,t2,b2⟩:=hbk j hj
    have hR:R d[i]!≠R d[j]!:=fun h=>hne (hinj i j hi hj h)
    exact ⟨ptr_other ((b1.but hb n1).drewN n) ((b2.but hb n2).drewN n) hR,ptr_nother ((b1.but hb n1).drewN n) ((b2.but hb n2).drewN n) hR⟩
  clear hall hbk hinj
  by_cases h2:d.size<2
  · have HR:=hide hr
    have d1:decide ((d.size:Int)<2)=true:=decide_eq_true (by omega)
    clear hr HE
    go_enter Tryz.func176,Tryz.ntmps176
    go_wp2_with fail
    go_ret
    have e:=HALL.out (fun j hj=>keeps_lt_one d j (by omega))
    rw [e]
    refine ⟨by simp,But.refl _ _,fun j p hj=>?_⟩
    have hj':j<d.size:=by simpa using (List.getElem?_eq_some_iff.1 hj).1
    have:=(HR.out.cell j hj').1
    rw [getElem!_pos d j hj'] at this
    rw [List.getElem?_eq_getElem (by simpa using hj')] at hj
    simp at hj
    rw [this,hj]
  · go_enter Tryz.func176,Tryz.ntmps176
    have d1:decide ((d.size:Int)<2)=false:=decide_eq_false (by omega)
    have HR:=hide hr
    clear hr
    go_wp2_with fail
    go_loopg [3] d.size (fun gk s3 wr=>∃ k:Nat,1<=k/\k<=d.size/\d.size-k<=gk/\s3=.int .i64 k/\RowP w g R d wr/\∀ j,j<k->keeps d j=true)
    case atStart=>exact ⟨1,Nat.le_refl _,by omega,by omega,rfl,HR.out,keeps_lt_one d⟩
    case round =>
      obtain ⟨k,hk1,hk,hg,rfl,hrow,hkeep⟩:=hrel
      have HROW:=hide hrow
      have HKEEP:=hide hkeep
      by_cases hlt:k<d.size
      · have d2:decide ((k:Int)<(d.size:Int))=true:=decide_eq_true (by omega)
        obtain ⟨c1,f1⟩:=hrow.cell k hlt
        obtain ⟨c0,f0⟩:=hrow.cell (k-1) (by omega)
        have hgl:g<wr.heap.size:=lt_of_cell c1
        have hwk:IntKind.i64.wrap ((k:Int)-1)=((k-1:Nat):Int):=by rw [show (k:Int)-1=((k-1:Nat):Int) by omega];exact wrap_nat (by omega)
        have hk0:(0:Int)<=((k-1:Nat):Int):=Int.natCast_nonneg _
        have hkl:((k-1:Nat):Int)<(d.size:Int):=by omega
        have hkm:k-1<d.size:=by omega
        by_cases hdup:d[k]! = d[k-1]!
        · rw [hdup] at c1
          have he:=ptr_same (R d[k-1]!)
          have HDUP:=hide hdup
          generalize hx:d[k-1]! = x at c1 c0 he
          have HX:=hide hx
          clear hrow hkeep hdup hx
          go_wp2_with fail
          go_quiet (fail)
          go_wp2_with fail
          clear c0 c1 f0 f1 he
          go_loopg [3,5] d.size (fun gk s3 s5 wx=>∃ (kk k2:Nat) (dk:Array Nat),s3=.int .i64 kk/\s5=.int .i64 k2/\1<=k2/\k+k2<=d.size/\d.size-(k+k2)<=gk/\RowP w g R dk wx/\CompInv d (k+k2) kk dk)
          case atStart=>exact ⟨k,1,d,rfl,rfl,Nat.le_refl _,by omega,by omega,HROW.out.drew _,CompInv.start HKEEP.out (keeps_neg (by omega) HDUP.out)⟩
          case round =>
            obtain ⟨kk,k2,dk,rfl,rfl,h1,hle,hg2,hrow2,hCI⟩:=hrel
            have hkk:=hCI.lt
            have hds:=hCI.size
            have HR2:=hide hrow2
            have HCI:=hide hCI
            by_cases hlt2:k+k2<d.size
            · have d3:decide ((k2:Int)<((d.size-k:Nat):Int))=true:=decide_eq_true (by omega)
              obtain ⟨cm,fm⟩:=hrow2.cell (k+k2) (by omega)
              obtain ⟨cp,fp⟩:=hrow2.cell (k+(k2-1)) (by omega)
              obtain ⟨ck,fk⟩:=hrow2.cell kk (by omega)
              rw [hCI.high (k+k2) (by omega)] at cm
              rw [hCI.high (k+(k2-1)) (by omega)] at cp
              have hgl2:=lt_of_cell cm
              have hwk2:IntKind.i64.wrap ((k2:Int)-1)=((k2-1:Nat):Int):=by rw [show (k2:Int)-1=((k2-1:Nat):Int) by omega];exact wrap_nat (by omega)
              have hk20:(0:Int)<=((k2-1:Nat):Int):=Int.natCast_nonneg _
              have hk2l:((k2-1:Nat):Int)<((d.size-k:Nat):Int):=by omega
              have hk2a:k2-1<d.size-k:=by omega
              have hk2b:k2<d.size-k:=by omega
              have hkd:kk<d.size:=by omega
              have hkd2:(kk:Int)<(d.size:Int):=by omega
              by_cases huv:d[k+k2]! = d[k+(k2-1)]!
              · rw [huv] at cm
                have he2:=ptr_nsame (R d[k+(k2-1)]!)
                have HUV:=hide huv
                generalize hx:d[k+(k2-1)]! = u at cm cp he2
                generalize dk[kk]! = old at ck
                clear hrow2 hCI huv hx
                go_wp2_with fail
                go_quiet (fail)
                go_wp2_with fail
                go_roundg (d.size-(k+(k2+1)))
                case measure=>omega
                case rel=>exact ⟨kk,k2+1,dk,rfl,by go_num,by omega,by omega,Nat.le_refl _,HR2.out.drew _,HCI.out.skip (keeps_neg (by omega) (by rw [HUV.out,show k+k2-1=k+(k2-1) by omega]))⟩
              · have he2:=fun n=>(HE.out wr (k+k2) (k+(k2-1)) n hrow2.but hlt2 (by omega) huv).2
                have HUV:=hide huv
                generalize hx:d[k+k2]! = u at cm he2
                generalize hy:d[k+(k2-1)]! = v at cp he2
                generalize dk[kk]! = old at ck
                have HX:=hide hx
                clear hrow2 hCI huv hx hy
                go_wp2_with fail
                go_quiet (fail)
                go_wp2_with fail
                go_roundg (d.size-(k+(k2+1)))
                case measure=>omega
                case rel =>
                  have hc:=HCI.out.keep hlt2 (keeps_pos (by rw [show k+k2-1=k+(k2-1) by omega];exact HUV.out))
                  rw [HX.out] at hc
                  exact ⟨kk+1,k2+1,_,by go_num,by go_num,by omega,by omega,Nat.le_refl _,(HR2.out.drew _).set (by omega),hc⟩
            · have d3:decide ((k2:Int)<((d.size-k:Nat):Int))=false:=decide_eq_false (by omega)
              have hend:k+k2=d.size:=by omega
              have hcl:∀ ty,(Builtin.clear_ #[166] ty #[.slice (some ⟨g,kk,none⟩) (d.size-kk) (cap-kk)]).run Tryz.prog wr=.ok (.tuple #[]) (wr.setCells g kk (List.replicate (d.size-kk) (.pointer none))) :=
                fun ty=>Lib.run_clear_slice wr _ _ ty _ Tryz.underlying166 Tryz.zeroValue159 rfl rfl g kk _ _ (by omega) (fun j hj=>by rw [(hrow2.cell (kk+j) (by omega)).1];rfl) (fun j hj=>(hrow2.cell (kk+j) (by omega)).2)
              have hkd:kk<=d.size:=by omega
              have hkd2:(kk:Int)<=(d.size:Int):=by omega
              have hkc:(kk:Int)<=(cap:Int):=by omega
              have hkc2:kk<=cap:=by omega
              clear hrow2 hCI
              go_wp2_with fail
              go_ret
              have hC:=HCI.out
              rw [hend] at hC
              refine ⟨by rw [hC.len];rfl,But.setCells_at g _ HR2.out.but rfl,fun j p hj=>?_⟩
              have hjk:j<kk:=by have:=(List.getElem?_eq_some_iff.1 hj).1;rw [hC.len] at this;exact this
              rw [hC.low j hjk] at hj
              cases hj
              exact (cell_setCells_below _ _ _ hjk).trans (HR2.out.cell j (by omega)).1
        · have he:=fun n=>(HE.out wr k (k-1) n hrow.but hlt (by omega) hdup).1
          have HDUP:=hide hdup
          generalize hx:d[k]! = x at c1 he
          generalize hy:d[k-1]! = y at c0 he
          clear hrow hkeep hdup hx hy
          go_wp2_with fail
          go_quiet (fail)
          go_wp2_with fail
          go_roundg (d.size-(k+1))
          case measure=>omega
          case rel =>
            refine ⟨k+1,by omega,by omega,Nat.le_refl _,by go_num,HROW.out.drew _,fun j hj=>?_⟩
            by_cases e:j=k
            · subst e
              exact keeps_pos HDUP.out
            · exact HKEEP.out j (by omega)
      · have d2:decide ((k:Int)<(d.size:Int))=false:=decide_eq_false (by omega)
        have hke:k=d.size:=by omega
        subst hke
        clear hrow hkeep
        go_wp2_with fail
        go_ret
        have e:=HALL.out HKEEP.out
        rw [e]
        refine ⟨by simp,HROW.out.but,fun j p hj=>?_⟩
        have hj':j<d.size:=by simpa using (List.getElem?_eq_some_iff.1 hj).1
        have:=(HROW.out.cell j hj').1
        rw [getElem!_pos d j hj'] at this
        rw [List.getElem?_eq_getElem (by simpa using hj')] at hj
        simp at hj
        rw [this,hj]
end Go.Proofs.YtpoibdhhcbelnaaGreatDoor
