/- Walks and plain laws, some texts in one. -/
import Derived.Laws.EntriesVeiled
import Derived.Test.YtpoibdhhcbelnaaGreatDoorM19
namespace Go.Proofs.YtpoibdhhcbelnaaGreatDoor
open Go.Shelf Go.RowKit Go.Lib Brm
theorem parts_at {c:Cx}{ps:List Pat}{xs:List Value}{lv:Value}{w:World}(ho:Own w c.A 180 2 lv ps.length xs)(hl:EVL w c.A c.L ps xs)(ih:∀ p∈ps,EOk c p)(hok:∀ p∈ps,p.Ok)(k:Nat)(hk:k<ps.length)(w':World)(hw':KR c.R w w') :
    ∃ F cp G tc b cap,lv=.slice (some ⟨b,0,none⟩) ps.length cap/\b<w'.heap.size/\w'.cell? ⟨b,k*2,none⟩=some (.func (.func F) #[] cp)/\w'.cell? ⟨b,k*2+1,none⟩=some (.func (.func G) #[] tc)/\(∀ args w,(callFunc F args).run Tryz.prog w=.ok (.enter F args) w) /\
      ∀ w2 j,KR c.R w w2->Inv c w2->j<=c.l.length->Calls Tryz.prog F (#[.pointer (some ⟨c.bt,0,none⟩),.int .i64 j]++cp) w2 fun e w3=>e=.returned (.int .u64 ((mk (mT ps[k] c.l j) (c.l.length+1):Nat):Int))/\Inv c w3/\KR c.R w2 w3:=by
  obtain ⟨f,t,⟨G,tc,rfl⟩,hE,hx⟩:=EVL.at ps xs hl k ps[k] (List.getElem?_eq_getElem hk)
  obtain ⟨F,cp,rfl,eg⟩:=EV.form ps[k] f (hok _ (List.getElem_mem hk)) hE
  have hkp:=hw'.keeps (A:=c.A) (fun g h=>h)
  obtain ⟨b,cap,rfl,hb,_,c0,c1⟩:=own_two (ho.keep hkp) hk hx
  exact ⟨F,cp,G,tc,b,cap,rfl,hb,c0,c1,eg,fun w2 j hw2 hI2 hj=>ih ps[k] (List.getElem_mem hk) w2 F cp j hI2 (EV.keep (hw2.keeps (A:=c.A) (fun g h=>h)) ps[k] _ hE) hj⟩
theorem goOn_later (c:Cx)(p:Pat)(F:Nat)(cp:Array Value)(t:Value)(eg:∀ args w,(callFunc F args).run Tryz.prog w=.ok (.enter F args) w)(g:Nat->Bool)(w0 w w':World)(hK:KR c.R w0 w)(hI:Inv c w)(hb:Below w.heap.size w w')
    (hc:∀ w2 k,KR c.R w w2->Inv c w2->k<=c.l.length->Calls Tryz.prog F (#[.pointer (some ⟨c.bt,0,none⟩),.int .i64 k]++cp) w2 fun e w''=>e=.returned (.int .u64 ((mk (mT p c.l k) (c.l.length+1):Nat):Int))/\Inv c w''/\KR c.R w2 w'') :
    Calls Tryz.prog 194 #[.agg #[.func (.func F) #[] cp,t],.pointer (some ⟨c.bt,0,none⟩),.int .u64 ((mk g (c.l.length+1):Nat):Int)] w' fun e w5=>e=.returned (.int .u64 ((mk (goB p c.l g) (c.l.length+1):Nat):Int))/\Inv c w5/\KR c.R w0 w5 :=
  (goOn_any c p F cp t eg g w' (hI.below hb) (fun w2 j hk hi hj=>hc w2 j ((KR.below hb).trans hk) hi hj)).mono (fun _ _ h5=>⟨h5.1,h5.2.1,hK.trans ((KR.below hb).trans h5.2.2)⟩)
theorem ends_later (c:Cx)(p:Pat)(F:Nat)(cp:Array Value)(k:Nat)(w0 w w':World)(hK:KR c.R w0 w)(hI:Inv c w)(hb:Below w.heap.size w w')(hk:k<=c.l.length)
    (hc:∀ w2 k,KR c.R w w2->Inv c w2->k<=c.l.length->Calls Tryz.prog F (#[.pointer (some ⟨c.bt,0,none⟩),.int .i64 k]++cp) w2 fun e w''=>e=.returned (.int .u64 ((mk (mT p c.l k) (c.l.length+1):Nat):Int))/\Inv c w''/\KR c.R w2 w'') :
    Calls Tryz.prog F (#[.pointer (some ⟨c.bt,0,none⟩),.int .i64 k]++cp) w' fun e w5=>e=.returned (.int .u64 ((mk (mT p c.l k) (c.l.length+1):Nat):Int))/\Inv c w5/\KR c.R w0 w5 :=
  (hc w' k (KR.below hb) (hI.below hb) hk).mono (fun _ _ h5=>⟨h5.1,h5.2.1,hK.trans ((KR.below hb).trans h5.2.2)⟩)
set_option maxRecDepth 100000 in
set_option maxHeartbeats 4000000 in
theorem row1_any (c:Cx)(ps:List Pat)(ih:∀ p∈ps,EOk c p)(hok:∀ p∈ps,p.Ok)(w:World)(i:Nat)(hI:Inv c w)(hi:i<=c.l.length)(bi:Nat)(lv:Value)(xs:List Value)(hbi:Blk w bi [lv] 242)(ho:Own w c.A 180 2 lv ps.length xs)(hl:EVL w c.A c.L ps xs)(h100:ps.length<=100) :
    Calls Tryz.prog 193 #[.pointer (some ⟨c.bt,0,none⟩),.int .i64 i,.pointer (some ⟨bi,0,none⟩)] w fun e w'=>e=.returned (.int .u64 ((mk (mT (.row ps) c.l i) (c.l.length+1):Nat):Int))/\Inv c w'/\KR c.R w w':=by
  have HCALL:=hide (parts_at ho hl ih hok)
  obtain ⟨lo,lc,rfl⟩:=ownP_form ho.1
  have y0:=one hbi
  have h40:=hI.len
  have HI:=hide hI
  have HI2:=hide hi
  have HZ:Hid (mk (restT (ps.take 0) c.l i) (c.l.length+1)=mk (oneB i) (c.l.length+1)):=mk_ext (fun j hj=>by rw [List.take_zero,<- rest_nil (by omega)];unfold emptyB oneB;rw [Bool.eq_iff_iff];simp only [decide_eq_true_eq];exact ⟨fun h=>h.symm,fun h=>h.symm⟩)
  clear hI hbi ho hl ih hok
  go_enter Tryz.func193,Tryz.ntmps193
  go_wp2_with (go_at_call 172;refine (place_any i (c.l.length+1) _ (by omega) (by omega)).mono ?_;rintro e w' ⟨rfl,hw9⟩;have hw8:=hw9.symm;subst hw8;clear hw9)
  go_loopw [6,13] (fun now ix wr=>∃ k:Nat,k<=ps.length/\ix=.int .i64 k/\now=.int .u64 ((mk (restT (ps.take k) c.l i) (c.l.length+1):Nat):Int)/\Inv c wr/\KR c.R w wr) (fun _ ix _=>ps.length-(intOf ix).toNat)
  case atStart=>exact ⟨0,Nat.zero_le _,rfl,by rw [HZ.out],HI.out,KR.refl _ _⟩
  case round =>
    obtain ⟨k,hk,rfl,rfl,hI,hK⟩:=hrel
    have HIr:=hide hI
    have HKr:=hide hK
    have k0:(0:Int)<=(k:Int):=Int.natCast_nonneg _
    by_cases hlt:k<ps.length
    · obtain ⟨F,cp,G9,tc,b,cap,hlv,hbl,c0,c1,eg,hcall⟩:=HCALL.out k hlt wr hK
      cases hlv
      have HTS:Hid (ps.take (k+1)=ps.take k++[ps[k]]):=List.take_succ_eq_append_getElem hlt
      generalize ps[k]=p at hcall HTS
      have HC:=hide (fun (w2:World) (j:Nat) (hb:KR c.R wr w2) (hI2:Inv c w2) (hj:j<=c.l.length)=>hcall w2 j (HKr.out.trans hb) hI2 hj)
      have k1:(k:Int)<(ps.length:Int):=by omega
      have HBE:Hid (b≠wr.heap.size):=by show _≠_;omega
      have HST:=hide (fun j (hj:j<c.l.length+1)=>rest_snoc (p:=p) (ps:=ps.take k) (l:=c.l) (i:=i) (j:=j) (by omega))
      generalize restT (ps.take k) c.l i=G at HST ⊢
      clear hI hK hcall
      go_wp2_with (go_at_call 194;refine (goOn_later c p F cp _ eg G w wr _ HKr.out HIr.out (by first | exact Below.refl _ _ | exact (Below.refl _ _).alloc (Nat.le_refl _) _) HC.out).mono ?_;rintro e w5 ⟨rfl,hI5,hK5⟩;have HI5:=hide hI5;have HK5:=hide hK5;clear hI5 hK5)
      go_roundw
      case rel=>exact ⟨k+1,by omega,by go_num,by rw [HTS.out];exact congrArg (fun x:Nat=>Value.int .u64 (x:Int)) (mk_ext (fun j hj=>HST.out j hj)),HI5.out,HK5.out⟩
      case measure=>simp [intOf];omega
    · have hke:k=ps.length:=by omega
      have HE:Hid (mk (restT (ps.take k) c.l i) (c.l.length+1)=mk (mT (.row ps) c.l i) (c.l.length+1)):=by show _=_;rw [hke,List.take_length];exact mk_ext (fun j _=>mT_row)
      generalize mk (restT (ps.take k) c.l i) (c.l.length+1)=X at HE ⊢
      have k1:decide (k<ps.length)=false:=decide_eq_false hlt
      clear hI hK hke
      go_wp2
      go_ret
      exact ⟨by rw [<- HE.out];rfl,HIr.out,HKr.out⟩
theorem or_snoc2 {p:Pat}{ps:List Pat}{l:List Int}{i j:Nat}:(orT ps l i j || mT p l i j)=orT (ps++[p]) l i j:=by
  rw [Bool.eq_iff_iff]
  unfold orT mT
  simp only [Bool.or_eq_true,decide_eq_true_eq,mtOr_iff,List.mem_append,List.mem_singleton]
  constructor
  · rintro (⟨h1,q,hq,hm⟩ | ⟨h1,hm⟩)
    · exact ⟨h1,q,.inl hq,hm⟩
    · exact ⟨h1,p,.inr rfl,hm⟩
  · rintro ⟨h1,q,hq | rfl,hm⟩
    · exact .inl ⟨h1,q,hq,hm⟩
    · exact .inr ⟨h1,hm⟩
theorem and_snoc2 {p:Pat}{ps:List Pat}{l:List Int}{i j:Nat}:(andT ps l i j && mT p l i j)=andT (ps++[p]) l i j:=by
  rw [Bool.eq_iff_iff]
  unfold andT mT
  simp only [Bool.and_eq_true,decide_eq_true_eq,mtAnd_iff,List.mem_append,List.mem_singleton]
  constructor
  · rintro ⟨⟨h1,h2⟩,_,h3⟩
    exact ⟨h1,fun q hq=>by rcases hq with hq | rfl;exact h2 q hq;exact h3⟩
  · rintro ⟨h1,h2⟩
    exact ⟨⟨h1,fun q hq=>h2 q (.inl hq)⟩,h1,h2 p (.inr rfl)⟩
set_option maxRecDepth 100000 in
set_option maxHeartbeats 4000000 in
theorem or1_any (c:Cx)(ps:List Pat)(ih:∀ p∈ps,EOk c p)(hok:∀ p∈ps,p.Ok)(w:World)(i:Nat)(hI:Inv c w)(hi:i<=c.l.length)(bi:Nat)(lv:Value)(xs:List Value)(hbi:Blk w bi [lv] 242)(ho:Own w c.A 180 2 lv ps.length xs)(hl:EVL w c.A c.L ps xs)(h100:ps.length<=100) :
    Calls Tryz.prog 198 #[.pointer (some ⟨c.bt,0,none⟩),.int .i64 i,.pointer (some ⟨bi,0,none⟩)] w fun e w'=>e=.returned (.int .u64 ((mk (mT (.or ps) c.l i) (c.l.length+1):Nat):Int))/\Inv c w'/\KR c.R w w':=by
  have HCALL:=hide (parts_at ho hl ih hok)
  obtain ⟨lo,lc,rfl⟩:=ownP_form ho.1
  have y0:=one hbi
  have h40:=hI.len
  have HI:=hide hI
  have HI2:=hide hi
  have HZ:Hid (mk (orT (ps.take 0) c.l i) (c.l.length+1)=0):=mk_zero.2 (fun j hj=>by rw [List.take_zero];unfold orT;simp [MtOr])
  clear hI hbi ho hl ih hok
  go_enter Tryz.func198,Tryz.ntmps198
  go_wp2_with fail
  go_loopw [6,11] (fun now ix wr=>∃ k:Nat,k<=ps.length/\ix=.int .i64 k/\now=.int .u64 ((mk (orT (ps.take k) c.l i) (c.l.length+1):Nat):Int)/\Inv c wr/\KR c.R w wr) (fun _ ix _=>ps.length-(intOf ix).toNat)
  case atStart=>exact ⟨0,Nat.zero_le _,rfl,by rw [HZ.out];rfl,HI.out,KR.refl _ _⟩
  case round =>
    obtain ⟨k,hk,rfl,rfl,hI,hK⟩:=hrel
    have HIr:=hide hI
    have HKr:=hide hK
    have k0:(0:Int)<=(k:Int):=Int.natCast_nonneg _
    by_cases hlt:k<ps.length
    · obtain ⟨F,cp,G9,tc,b,cap,hlv,hbl,c0,c1,eg,hcall⟩:=HCALL.out k hlt wr hK
      cases hlv
      have HTS:Hid (ps.take (k+1)=ps.take k++[ps[k]]):=List.take_succ_eq_append_getElem hlt
      generalize ps[k]=p at hcall HTS
      have HC:=hide (fun (w2:World) (j:Nat) (hb:KR c.R wr w2) (hI2:Inv c w2) (hj:j<=c.l.length)=>hcall w2 j (HKr.out.trans hb) hI2 hj)
      have k1:(k:Int)<(ps.length:Int):=by omega
      have HBE:Hid (b≠wr.heap.size):=by show _≠_;omega
      have HST:=hide (fun j=>or_snoc2 (p:=p) (ps:=ps.take k) (l:=c.l) (i:=i) (j:=j))
      generalize orT (ps.take k) c.l i=G at HST ⊢
      clear hI hK hcall
      go_wp2_with (go_at_fn F;refine (ends_later c p F cp i w wr _ HKr.out HIr.out (by first | exact Below.refl _ _ | exact (Below.refl _ _).alloc (Nat.le_refl _) _) HI2.out HC.out).mono ?_;rintro e w5 ⟨rfl,hI5,hK5⟩;have HI5:=hide hI5;have HK5:=hide hK5;clear hI5 hK5)
      go_roundw
      case rel=>exact ⟨k+1,by omega,by go_num,by rw [HTS.out];exact congrArg (fun x:Int=>Value.int .u64 x) ((or_num (show c.l.length+1<=42 by omega)).trans (congrArg (fun x:Nat=>(x:Int)) (mk_ext (fun j _=>HST.out j)))),HI5.out,HK5.out⟩
      case measure=>simp [intOf];omega
    · have hke:k=ps.length:=by omega
      have HE:Hid (mk (orT (ps.take k) c.l i) (c.l.length+1)=mk (mT (.or ps) c.l i) (c.l.length+1)):=by show _=_;rw [hke,List.take_length];exact mk_ext (fun j _=>mT_or)
      generalize mk (orT (ps.take k) c.l i) (c.l.length+1)=X at HE ⊢
      have k1:decide (k<ps.length)=false:=decide_eq_false hlt
      clear hI hK hke
      go_wp2
      go_ret
      exact ⟨by rw [<- HE.out];rfl,HIr.out,HKr.out⟩
set_option maxRecDepth 100000 in
set_option maxHeartbeats 4000000 in
theorem and1_any (c:Cx)(ps:List Pat)(ih:∀ p∈ps,EOk c p)(hok:∀ p∈ps,p.Ok)(w:World)(i:Nat)(hI:Inv c w)(hi:i<=c.l.length)(bi:Nat)(lv:Value)(xs:List Value)(hbi:Blk w bi [lv] 242)(ho:Own w c.A 180 2 lv ps.length xs)(hl:EVL w c.A c.L ps xs)(h100:ps.length<=100) :
    Calls Tryz.prog 200 #[.pointer (some ⟨c.bt,0,none⟩),.int .i64 i,.pointer (some ⟨bi,0,none⟩)] w fun e w'=>e=.returned (.int .u64 ((mk (mT (.and ps) c.l i) (c.l.length+1):Nat):Int))/\Inv c w'/\KR c.R w w':=by
  have HCALL:=hide (parts_at ho hl ih hok)
  obtain ⟨lo,lc,rfl⟩:=ownP_form ho.1
  have y0:=one hbi
  have h40:=hI.len
  have HI:=hide hI
  have HI2:=hide hi
  have HZ:Hid (mk (andT (ps.take 0) c.l i) (c.l.length+1)=mk (fromB i) (c.l.length+1)):=mk_ext (fun j hj=>by rw [List.take_zero];unfold andT fromB;simp [MtAnd])
  clear hI hbi ho hl ih hok
  go_enter Tryz.func200,Tryz.ntmps200
  go_wp2_with (go_at_call 201;refine (onward_any c _ i HI.out HI2.out).mono ?_;rintro e w' ⟨rfl,hw9⟩;have hw8:=hw9.symm;subst hw8;clear hw9)
  go_loopw [6,14] (fun now ix wr=>∃ k:Nat,k<=ps.length/\ix=.int .i64 k/\now=.int .u64 ((mk (andT (ps.take k) c.l i) (c.l.length+1):Nat):Int)/\Inv c wr/\KR c.R w wr) (fun _ ix _=>ps.length-(intOf ix).toNat)
  case atStart=>exact ⟨0,Nat.zero_le _,rfl,by rw [HZ.out],HI.out,KR.refl _ _⟩
  case round =>
    obtain ⟨k,hk,rfl,rfl,hI,hK⟩:=hrel
    have HIr:=hide hI
    have HKr:=hide hK
    have k0:(0:Int)<=(k:Int):=Int.natCast_nonneg _
    by_cases hlt:k<ps.length
    · obtain ⟨F,cp,G9,tc,b,cap,hlv,hbl,c0,c1,eg,hcall⟩:=HCALL.out k hlt wr hK
      cases hlv
      have HTS:Hid (ps.take (k+1)=ps.take k++[ps[k]]):=List.take_succ_eq_append_getElem hlt
      generalize ps[k]=p at hcall HTS
      have HC:=hide (fun (w2:World) (j:Nat) (hb:KR c.R wr w2) (hI2:Inv c w2) (hj:j<=c.l.length)=>hcall w2 j (HKr.out.trans hb) hI2 hj)
      have k1:(k:Int)<(ps.length:Int):=by omega
      have HBE:Hid (b≠wr.heap.size):=by show _≠_;omega
      have HST:=hide (fun j=>and_snoc2 (p:=p) (ps:=ps.take k) (l:=c.l) (i:=i) (j:=j))
      generalize andT (ps.take k) c.l i=G at HST ⊢
      clear hI hK hcall
      go_wp2_with (go_at_fn F;refine (ends_later c p F cp i w wr _ HKr.out HIr.out (by first | exact Below.refl _ _ | exact (Below.refl _ _).alloc (Nat.le_refl _) _) HI2.out HC.out).mono ?_;rintro e w5 ⟨rfl,hI5,hK5⟩;have HI5:=hide hI5;have HK5:=hide hK5;clear hI5 hK5)
      go_roundw
      case rel=>exact ⟨k+1,by omega,by go_num,by rw [HTS.out];exact congrArg (fun x:Int=>Value.int .u64 x) ((and_num (show c.l.length+1<=42 by omega)).trans (congrArg (fun x:Nat=>(x:Int)) (mk_ext (fun j _=>HST.out j)))),HI5.out,HK5.out⟩
      case measure=>simp [intOf];omega
    · have hke:k=ps.length:=by omega
      have HE:Hid (mk (andT (ps.take k) c.l i) (c.l.length+1)=mk (mT (.and ps) c.l i) (c.l.length+1)):=by show _=_;rw [hke,List.take_length];exact mk_ext (fun j _=>mT_and)
      generalize mk (andT (ps.take k) c.l i) (c.l.length+1)=X at HE ⊢
      have k1:decide (k<ps.length)=false:=decide_eq_false hlt
      clear hI hK hke
      go_wp2
      go_ret
      exact ⟨by rw [<- HE.out];rfl,HIr.out,HKr.out⟩
end Go.Proofs.YtpoibdhhcbelnaaGreatDoor
namespace Go.Proofs.YtpoibdhhcbelnaaGreatDoor
open Go.Shelf Go.RowKit Go.Lib Brm
theorem not_mask {p:Pat}{l:List Int}{i:Nat}:mk (fun j=>fromB i j && !mT p l i j) (l.length+1)=mk (mT (.not p) l i) (l.length+1):=mk_ext (fun j _=>by rw [<- mT_not];rfl)
set_option maxRecDepth 100000 in
set_option maxHeartbeats 4000000 in
theorem not1_any (c:Cx)(p:Pat)(F:Nat)(cp:Array Value)(t:Value)(eg:∀ args w,(callFunc F args).run Tryz.prog w=.ok (.enter F args) w)(w:World)(i:Nat)(hI:Inv c w)(hi:i<=c.l.length)(bi:Nat)(hA:c.A bi)(hbi:Blk w bi [.func (.func F) #[] cp,t] 180)
    (hc:∀ w2 k,KR c.R w w2->Inv c w2->k<=c.l.length->Calls Tryz.prog F (#[.pointer (some ⟨c.bt,0,none⟩),.int .i64 k]++cp) w2 fun e w''=>e=.returned (.int .u64 ((mk (mT p c.l k) (c.l.length+1):Nat):Int))/\Inv c w''/\KR c.R w2 w'') :
    Calls Tryz.prog 202 #[.pointer (some ⟨c.bt,0,none⟩),.int .i64 i,.pointer (some ⟨bi,0,none⟩)] w fun e w'=>e=.returned (.int .u64 ((mk (mT (.not p) c.l i) (c.l.length+1):Nat):Int))/\Inv c w'/\KR c.R w w':=by
  obtain ⟨y0,y1⟩:=two hbi
  have hbl:=hbi.lt
  have HA:=hide hA
  have HI:=hide hI
  have HON:=hide (fun (w':World) (h':Inv c w')=>onward_any c w' i h' hi)
  have HC:=hide (fun (w':World) (hk:KR c.R w w') (h':Inv c w')=>hc w' i hk h' hi)
  have HE:=hide ((andNot_num (f:=fromB i) (g:=mT p c.l i) (show c.l.length+1<=42 by have:=hI.len;omega)).trans (congrArg (fun x:Nat=>(x:Int)) not_mask))
  generalize mk (fromB i) (c.l.length+1)=X at HE HON
  generalize mk (mT p c.l i) (c.l.length+1)=Y at HE HC
  generalize mk (mT (.not p) c.l i) (c.l.length+1)=Z at HE ⊢
  clear hI hbi hc hA
  go_enter Tryz.func202,Tryz.ntmps202
  go_wp2_with fail
  go_region_held3 (fun w'=>Inv c w'/\KR c.R w w'/\w'.cell? ⟨bi,0,none⟩=some (.func (.func F) #[] cp))
    (first | exact ⟨HI.out.drew,(KR.refl _ _).drew,y0⟩ | exact ⟨HI5.out,HK5.out,(HK5.out.cell (p:=⟨bi,0,none⟩) hbl HA.out).trans y0⟩)
    (first
      | (go_at_call 201;refine (HON.out _ (‹Inv c _/\KR c.R w _/\_›.1)).mono ?_;rintro e w6 ⟨rfl,hw9⟩;have hw8:=hw9.symm;subst hw8;clear hw9)
      | (go_at_fn F;refine (HC.out _ (‹Inv c _/\KR c.R w _/\_›.2.1) (‹Inv c _/\KR c.R w _/\_›.1)).mono ?_;rintro e w5 ⟨rfl,hI5,hK5⟩;have HI5:=hide hI5;have HK5:=hide ((‹Inv c _/\KR c.R w _/\_›.2.1).trans hK5);clear hI5 hK5))
  all_goals (go_wp2_with fail;go_ret;exact ⟨congrArg (fun x:Int=>Ending.returned (Value.int .u64 x)) HE.out,HI5.out,HK5.out⟩)
end Go.Proofs.YtpoibdhhcbelnaaGreatDoor
namespace Go.Proofs.YtpoibdhhcbelnaaGreatDoor
open Go.Shelf Go.RowKit Go.Lib Brm
theorem or_grow {f F:Nat->Bool}{n:Nat}(hd:∀ j,j<n->F j=true->f j=false)(h:mk F n≠0):mk f n<mk (fun j=>f j || F j) n:=by
  rw [<- mk_or]
  have h1:mk f n<=mk f n ||| mk F n:=Nat.left_le_or
  apply Nat.lt_of_le_of_ne h1
  intro e
  apply h
  apply mk_zero.2
  intro j hj
  apply Bool.eq_false_iff.2
  intro hF
  have hb:=congrArg (fun x:Nat=>x.testBit j) e
  simp only [Nat.testBit_or,mk_bit,hj,decide_true,Bool.true_and,hF,Bool.or_true,hd j hj hF] at hb
  cases hb
theorem rep_inv1 {p:Pat}{m d:Nat}{l:List Int}{i:Nat}{F:Nat->Bool}(h1:∀ k,k<=l.length->F k=true->repU p m d l i k=true)
    (h2:∀ k,k<=l.length->repU p m d l i k=true->F k=true\/∀ j,j<=l.length->mT p l k j=true->repU p m d l i j=true) :
    (∀ k,k<=l.length->(goB p l F k && !repU p m d l i k)=true->repU p m (d+1) l i k=true) /\
    (∀ k,k<=l.length->repU p m (d+1) l i k=true->(goB p l F k && !repU p m d l i k)=true\/∀ j,j<=l.length->mT p l k j=true->repU p m (d+1) l i j=true):=by
  have hs:=fun j (hj:j<=l.length)=>repU_succ (i:=i) hj h1 h2
  refine ⟨fun k hk h=>by rw [<- hs k hk,h,Bool.or_true],fun k hk h=>?_⟩
  rw [<- hs k hk,Bool.or_eq_true] at h
  rcases h with h | h
  · right
    intro j hj hm
    rw [<- hs j hj]
    rcases h2 k hk h with hF | hc
    · have hg:goB p l F j=true:=goB_iff.2 ⟨k,hk,hF,hm⟩
      rw [hg];cases repU p m d l i j<;>rfl
    · rw [hc j hj hm];rfl
  · exact .inl h
set_option maxRecDepth 100000 in
set_option maxHeartbeats 4000000 in
theorem many1_any (c:Cx)(p:Pat)(M:Nat)(n:Int)(hM:M<=5)(hn:n=-1\/((M:Int)<=n/\n<=5))(F:Nat)(cp:Array Value)(t:Value)(eg:∀ args w,(callFunc F args).run Tryz.prog w=.ok (.enter F args) w)(w:World)(i:Nat)(hI:Inv c w)(hi:i<=c.l.length)(b0 b1 b2:Nat)(hA0:c.A b0)(hA1:c.A b1)(hA2:c.A b2)(hb0:Blk w b0 [.int .i64 M] 3)(hb1:Blk w b1 [.func (.func F) #[] cp,t] 180)(hb2:Blk w b2 [.int .i64 n] 3)
    (hc:∀ w2 k,KR c.R w w2->Inv c w2->k<=c.l.length->Calls Tryz.prog F (#[.pointer (some ⟨c.bt,0,none⟩),.int .i64 k]++cp) w2 fun e w''=>e=.returned (.int .u64 ((mk (mT p c.l k) (c.l.length+1):Nat):Int))/\Inv c w''/\KR c.R w2 w'') :
    Calls Tryz.prog 203 #[.pointer (some ⟨c.bt,0,none⟩),.int .i64 i,.pointer (some ⟨b0,0,none⟩),.pointer (some ⟨b1,0,none⟩),.pointer (some ⟨b2,0,none⟩)] w fun e w'=>e=.returned (.int .u64 ((mk (mT (.many p M n) c.l i) (c.l.length+1):Nat):Int))/\Inv c w'/\KR c.R w w':=by
  have h40:=hI.len
  have HI:=hide hI
  have HI2:=hide hi
  have HC:=hide hc
  have HCE:Hid (∀ w',KR c.R w w'->w'.cell? ⟨b0,0,none⟩=some (.int .i64 M)/\w'.cell? ⟨b1,0,none⟩=some (.func (.func F) #[] cp)/\w'.cell? ⟨b1,1,none⟩=some t/\w'.cell? ⟨b2,0,none⟩=some (.int .i64 n)):=fun w' hk =>
    ⟨one (hb0.kr hk hA0),(two (hb1.kr hk hA1)).1,(two (hb1.kr hk hA1)).2,one (hb2.kr hk hA2)⟩
  have HZ:Hid (mk (repT p 0 c.l i) (c.l.length+1)=mk (oneB i) (c.l.length+1)):=mk_ext (fun j hj=>by rw [repT_zero (by omega)];rfl)
  have HN:=hide hn
  have HM:=hide hM
  obtain ⟨y0,_,_,_⟩:=HCE.out w (KR.refl _ _)
  clear hI hb0 hb1 hb2 hc hA0 hA1 hA2 hn
  go_enter Tryz.func203,Tryz.ntmps203
  go_wp2_with (go_at_call 172;refine (place_any i (c.l.length+1) _ (by omega) (by omega)).mono ?_;rintro e w' ⟨rfl,hw9⟩;have hw8:=hw9.symm;subst hw8;clear hw9)
  go_loopw [8,14] (fun now ix wr=>∃ k:Nat,k<=M/\ix=.int .i64 k/\now=.int .u64 ((mk (repT p k c.l i) (c.l.length+1):Nat):Int)/\Inv c wr/\KR c.R w wr) (fun _ ix _=>M-(intOf ix).toNat)
  case atStart=>exact ⟨0,Nat.zero_le _,rfl,by rw [HZ.out],HI.out,KR.refl _ _⟩
  case round =>
    obtain ⟨k,hk,rfl,rfl,hIr,hKr⟩:=hrel
    have HIr:=hide hIr
    have HKr:=hide hKr
    obtain ⟨z0,z1,z2,z3⟩:=HCE.out wr hKr
    have k0:(0:Int)<=(k:Int):=Int.natCast_nonneg _
    by_cases hlt:k<M
    · have HS:=hide (fun j (hj:j<c.l.length+1)=>repT_succ (p:=p) (m:=k) (l:=c.l) (i:=i) (j:=j) (by omega))
      have HCr:=hide (fun (w2:World) (j:Nat) (hb:KR c.R wr w2) (hI2:Inv c w2) (hj:j<=c.l.length)=>HC.out w2 j (HKr.out.trans hb) hI2 hj)
      generalize repT p k c.l i=G at HS ⊢
      clear hIr hKr
      go_wp2_with (go_at_call 194;refine (goOn_later c p F cp _ eg G w wr _ HKr.out HIr.out (by first | exact Below.refl _ _ | exact (Below.refl _ _).alloc (Nat.le_refl _) _) HCr.out).mono ?_;rintro e w5 ⟨rfl,hI5,hK5⟩;have HI5:=hide hI5;have HK5:=hide hK5;clear hI5 hK5)
      go_roundw
      case rel=>exact ⟨k+1,by omega,by go_num,congrArg (fun x:Nat=>Value.int .u64 (x:Int)) (mk_ext (fun j hj=>HS.out j hj)),HI5.out,HK5.out⟩
      case measure=>simp [intOf];omega
    · have hke:k=M:=by omega
      subst hke
      have k1:decide (k<k)=false:=decide_eq_false hlt
      have HU:Hid (mk (repU p k 0 c.l i) (c.l.length+1)=mk (repT p k c.l i) (c.l.length+1)):=mk_ext (fun j hj=>repU_zero)
      clear hIr hKr
      go_wp2_with fail
      go_loopw [8,9,10] (fun now out turn wr=>∃ (d:Nat) (G:Nat->Bool),turn=.int .i64 ((k+d:Nat):Int)/\(n=-1\/((k+d:Nat):Int)<=n)/\now=.int .u64 ((mk G (c.l.length+1):Nat):Int)/\out=.int .u64 ((mk (repU p k d c.l i) (c.l.length+1):Nat):Int) /\
        (∀ q,q<=c.l.length->G q=true->repU p k d c.l i q=true)/\(∀ q,q<=c.l.length->repU p k d c.l i q=true->G q=true\/∀ j,j<=c.l.length->mT p c.l q j=true->repU p k d c.l i j=true) /\
        (mk G (c.l.length+1)≠0->d<mk (repU p k d c.l i) (c.l.length+1))/\d<=mk (repU p k d c.l i) (c.l.length+1)+1/\Inv c wr/\KR c.R w wr)
        (fun now out _ _=>2*(4398046511104-(intOf out).toNat)+(if intOf now=0 then 0 else 1))
      case atStart=>exact ⟨0,repT p k c.l i,rfl,by have:=HN.out;omega,rfl,by rw [HU.out],fun q _ h=>by rw [repU_zero];exact h,fun q _ h=>by rw [repU_zero] at h;exact .inl h,fun h=>by rw [HU.out];omega,Nat.zero_le _,HIr.out,HKr.out⟩
      case round =>
        clear HIr HKr z0 z1 z2 z3 HU
        obtain ⟨d,G,rfl,hnd,rfl,rfl,h1,h2,h3,h4,hIr,hKr⟩:=hrel
        have HIr:=hide hIr
        have HKr:=hide hKr
        have H1:=hide h1
        have H2:=hide h2
        have H3:=hide h3
        have H4:=hide h4
        have HND:=hide hnd
        obtain ⟨z0,z1,z2,z3⟩:=HCE.out wr hKr
        have hUl:=mk_le63 (repU p k d c.l i) (show c.l.length+1<=42 by omega)
        have d0:(0:Int)<=((k+d:Nat):Int):=Int.natCast_nonneg _
        have d1:k+d<4398046511200:=by omega
        by_cases hmost:((k+d:Nat):Int)=n
        · have HE:Hid (mk (repU p k d c.l i) (c.l.length+1)=mk (mT (.many p k n) c.l i) (c.l.length+1)):=mk_ext (fun j _=>mT_many_most (by omega))
          generalize mk (repU p k d c.l i) (c.l.length+1)=X at HE ⊢
          have hq:(((k+d:Nat):Int) != n)=false:=by rw [hmost];simp
          generalize ((k+d:Nat):Int)=td at hq d0 ⊢
          clear hIr hKr h1 h2 h3 h4 hnd hmost d1 hUl HND
          go_wp2
          go_ret
          exact ⟨by rw [<- HE.out];rfl,HIr.out,HKr.out⟩
        · have hq:(((k+d:Nat):Int) != n)=true:=bne_iff_ne.2 hmost
          by_cases hz:mk G (c.l.length+1)=0
          · have HE:Hid (mk (repU p k d c.l i) (c.l.length+1)=mk (mT (.many p k n) c.l i) (c.l.length+1)):=mk_ext (fun j hj=>mT_many_shut (by omega) (by have:=HND.out;omega) (fun q hq hr=>by
              rcases H2.out q hq hr with hG | hc
              · rw [mk_zero.1 hz q (by omega)] at hG;cases hG
              · exact hc))
            generalize mk (repU p k d c.l i) (c.l.length+1)=X at HE ⊢
            rw [hz]
            generalize ((k+d:Nat):Int)=td at hq d0 ⊢
            clear hIr hKr h1 h2 h3 h4 hnd hmost d1 hUl hz HND
            go_wp2
            go_ret
            exact ⟨by rw [<- HE.out];rfl,HIr.out,HKr.out⟩
          · have hz2:(((mk G (c.l.length+1):Nat):Int) != 0)=true:=bne_iff_ne.2 (by omega)
            have HZ2:=hide hz
            have HCr:=hide (fun (w2:World) (j:Nat) (hb:KR c.R wr w2) (hI2:Inv c w2) (hj:j<=c.l.length)=>HC.out w2 j (HKr.out.trans hb) hI2 hj)
            have HAN:=hide (andNot_num (f:=goB p c.l G) (g:=repU p k d c.l i) (show c.l.length+1<=42 by omega))
            have HOR:=hide (or_num (f:=repU p k d c.l i) (g:=fun j=>goB p c.l G j && !repU p k d c.l i j) (show c.l.length+1<=42 by omega))
            have HUS:Hid (mk (fun j=>repU p k d c.l i j || (goB p c.l G j && !repU p k d c.l i j)) (c.l.length+1)=mk (repU p k (d+1) c.l i) (c.l.length+1)):=mk_ext (fun j hj=>repU_succ (by omega) H1.out H2.out)
            have HGR:Hid (mk (fun j=>goB p c.l G j && !repU p k d c.l i j) (c.l.length+1)≠0->mk (repU p k d c.l i) (c.l.length+1)<mk (repU p k (d+1) c.l i) (c.l.length+1)):=fun h=>by
              rw [<- HUS.out]
              exact or_grow (fun j _ hF=>by rw [Bool.and_eq_true,Bool.not_eq_true'] at hF;exact hF.2) h
            have HLE:Hid (mk (repU p k d c.l i) (c.l.length+1)<=mk (repU p k (d+1) c.l i) (c.l.length+1)):=by show _<=_;rw [<- HUS.out,<- mk_or];exact Nat.left_le_or
            have HLT:=hide (mk_le63 (repU p k (d+1) c.l i) (show c.l.length+1<=42 by omega))
            have HMO:=hide hmost
            have HD1:=hide d1
            have dt:((k+d:Nat):Int)<4398046511200:=by omega
            generalize htd:((k+d:Nat):Int)=td at hq d0 dt ⊢
            have HTD:=hide htd
            clear hIr hKr h1 h2 h3 h4 hnd hmost d1 hUl hz htd
            go_wp2_with (go_at_call 194;refine (goOn_later c p F cp _ eg G w wr _ HKr.out HIr.out (by first | exact Below.refl _ _ | exact (Below.refl _ _).alloc (Nat.le_refl _) _) HCr.out).mono ?_;rintro e w5 ⟨rfl,hI5,hK5⟩;have HI5:=hide hI5;have HK5:=hide hK5;clear hI5 hK5)
            go_roundw
            case rel =>
              have r1:=H3.out HZ2.out
              have r2:=HLE.out
              have r3:=HND.out
              have r4:=HMO.out
              have r5:=HTD.out
              exact ⟨d+1,fun j=>goB p c.l G j && !repU p k d c.l i j,congrArg (Value.int .i64) (by omega),by omega,by rw [HAN.out],by rw [HAN.out,HOR.out,HUS.out],(rep_inv1 H1.out H2.out).1,(rep_inv1 H1.out H2.out).2,fun h=>by have:=HGR.out h;omega,by omega,HI5.out,HK5.out⟩
            case measure =>
              rw [HAN.out,HOR.out,HUS.out]
              have r2:=HLE.out
              have r3:=HGR.out
              have r4:=HLT.out
              have r5:=HZ2.out
              simp only [intOf,Int.toNat_natCast]
              generalize mk (repU p k (d+1) c.l i) (c.l.length+1)=U' at r2 r3 r4 ⊢
              generalize mk (repU p k d c.l i) (c.l.length+1)=U at r2 r3 ⊢
              generalize mk (fun j=>goB p c.l G j && !repU p k d c.l i j) (c.l.length+1)=X at r3 ⊢
              generalize mk G (c.l.length+1)=Y at r5 ⊢
              show 2*(4398046511104-U')+(if (X:Int)=0 then 0 else 1)<2*(4398046511104-U)+(if (Y:Int)=0 then 0 else 1)
              rw [if_neg (show ¬ ((Y:Int)=0) by omega)]
              by_cases hX:X=0
              · rw [if_pos (by omega)];omega
              · rw [if_neg (by omega)];have:=r3 hX;omega
end Go.Proofs.YtpoibdhhcbelnaaGreatDoor
namespace Go.Proofs.YtpoibdhhcbelnaaGreatDoor
open Go.Shelf Go.RowKit Go.Lib Brm
theorem canon_len:∀ (l:List (Int×Int)) (a:Int),a<=1114112->Canon l->(∀ y∈l,a<=y.1)->(l.length:Int)<=1114112-a
  | [],a,ha,_,_=>by simp;omega
  | x::l,a,ha,h,hy=>by
    obtain ⟨hg,hl⟩:=canon_head h
    have h1:=hy x (by simp)
    have h2:x.1<=x.2:=hg.2.2
    have h3:x.2<=1114111:=by have:=hg.2.1;simp only [runeB,decide_eq_true_eq] at this;omega
    have h4:x.2+1<=after x.2:=by unfold after;split<;>omega
    have:=canon_len l (a+1) (by omega) (canon_tail h) (fun y hm=>by have:=hl y hm;omega)
    simp only [List.length_cons]
    omega
theorem canon_len' {l:List (Int×Int)}(h:Canon l):l.length<=1200000:=by
  have:=canon_len l 0 (by omega) h (fun y hy=>by have:=(h.1 y hy).1;simp only [runeB,decide_eq_true_eq] at this;omega)
  omega
theorem or_single {p:Pat}{l:List Int}{i:Nat}:mk (mT p l i) (l.length+1)=mk (mT (.or [p]) l i) (l.length+1):=mk_ext (fun _ _=>or_one.trans mT_or)
theorem and_single {p:Pat}{l:List Int}{i:Nat}:mk (mT p l i) (l.length+1)=mk (mT (.and [p]) l i) (l.length+1):=mk_ext (fun _ _=>and_one.trans mT_and)
mutual
theorem ends_all (c:Cx):∀ (p:Pat),p.Ok->EOk c p
  | .set s,h=>eset_any c s (canon_len' h)
  | .row l,h=>by
    have ih:=ends_allL c l h
    intro w F cp i hI hE hi
    obtain ⟨h100,xs,hl,bn,be,e,num,hf,hAn,hAe,hbn,hbe,hL,_,bi,lv,rfl,hAi,hbi,ho⟩:=hE
    cases hf
    exact rem_any c (.row l) 193 #[Ptr bi] (enters_of Tryz.func193 (by kernel_rfl) rfl) bn be num i w hI hbn hbe hL hi
      (fun w' hw'=>row1_any c l ih ((okL_iff l).1 h) w' i (hI.below hw') hi bi lv xs (hbi.below hw') (ho.below hw') (EVL.keep (Keeps.below hw') l xs hl) h100)
  | .or l,h=>by
    have ih:=ends_allL c l h.1
    intro w F cp i hI hE hi
    obtain ⟨h100,xs,hl,⟨h1,t,hx⟩ | ⟨_,bn,be,e,num,hf,hAn,hAe,hbn,hbe,hL,_,bi,lv,rfl,hAi,hbi,ho⟩⟩:=hE
    · obtain ⟨p,rfl⟩:=List.length_eq_one_iff.1 h1
      obtain ⟨f',t',r,e,_,hp,_⟩:=hl
      rw [hx] at e
      cases e
      rw [<- or_single]
      exact ih p (by simp) w F cp i hI hp hi
    · cases hf
      exact rem_any c (.or l) 198 #[Ptr bi] (enters_of Tryz.func198 (by kernel_rfl) rfl) bn be num i w hI hbn hbe hL hi
        (fun w' hw'=>or1_any c l ih ((okL_iff l).1 h.1) w' i (hI.below hw') hi bi lv xs (hbi.below hw') (ho.below hw') (EVL.keep (Keeps.below hw') l xs hl) h100)
  | .and l,h=>by
    have ih:=ends_allL c l h.1
    intro w F cp i hI hE hi
    obtain ⟨h100,xs,hl,⟨h1,t,hx⟩ | ⟨_,bn,be,e,num,hf,hAn,hAe,hbn,hbe,hL,_,bi,lv,rfl,hAi,hbi,ho⟩⟩:=hE
    · obtain ⟨p,rfl⟩:=List.length_eq_one_iff.1 h1
      obtain ⟨f',t',r,e,_,hp,_⟩:=hl
      rw [hx] at e
      cases e
      rw [<- and_single]
      exact ih p (by simp) w F cp i hI hp hi
    · cases hf
      exact rem_any c (.and l) 200 #[Ptr bi] (enters_of Tryz.func200 (by kernel_rfl) rfl) bn be num i w hI hbn hbe hL hi
        (fun w' hw'=>and1_any c l ih ((okL_iff l).1 h.1) w' i (hI.below hw') hi bi lv xs (hbi.below hw') (ho.below hw') (EVL.keep (Keeps.below hw') l xs hl) h100)
  | .not p,h=>by
    have ih:=ends_all c p h
    intro w F cp i hI hE hi
    obtain ⟨g,t,hp,bn,be,e,num,hf,hAn,hAe,hbn,hbe,hL,_,bi,rfl,hAi,hbi⟩:=hE
    cases hf
    obtain ⟨F',cp',rfl,eg⟩:=EV.form p g h hp
    exact rem_any c (.not p) 202 #[Ptr bi] (enters_of Tryz.func202 (by kernel_rfl) rfl) bn be num i w hI hbn hbe hL hi
      (fun w' hw'=>not1_any c p F' cp' t eg w' i (hI.below hw') hi bi hAi (hbi.below hw') (fun w2 k hk hI2 hk2=>ih w2 F' cp' k hI2 (EV.keep ((hk.keeps (A:=c.A) (fun g h=>h))) p _ (EV.keep (Keeps.below hw') p _ hp)) hk2))
  | .many p m n,h=>by
    have ih:=ends_all c p h.1
    intro w F cp i hI hE hi
    obtain ⟨g,t,hp,bn,be,e,num,hf,hAn,hAe,hbn,hbe,hL,_,b0,b1,b2,rfl,hA0,hA1,hA2,hb0,hb1,hb2⟩:=hE
    cases hf
    obtain ⟨F',cp',rfl,eg⟩:=EV.form p g h.1 hp
    obtain ⟨h1,h2,h3,h4⟩:=h
    obtain ⟨M,rfl⟩:=Int.eq_ofNat_of_zero_le h2
    exact rem_any c (.many p M n) 203 #[Ptr b0,Ptr b1,Ptr b2] (enters_of Tryz.func203 (by kernel_rfl) rfl) bn be num i w hI hbn hbe hL hi
      (fun w' hw'=>many1_any c p M n (by omega) h4 F' cp' t eg w' i (hI.below hw') hi b0 b1 b2 hA0 hA1 hA2 (hb0.below hw') (hb1.below hw') (hb2.below hw') (fun w2 k hk hI2 hk2=>ih w2 F' cp' k hI2 (EV.keep ((hk.keeps (A:=c.A) (fun g h=>h))) p _ (EV.keep (Keeps.below hw') p _ hp)) hk2))
  | .group p,h=>by
    have ih:=ends_all c p h
    exact ih
theorem ends_allL (c:Cx):∀ (l:List Pat),OkL l->∀ p∈l,EOk c p
  | [],_=>fun p h=>by cases h
  | q::l,hk=>by
    have hq:=ends_all c q hk.1
    have hl:=ends_allL c l hk.2
    intro p h
    rcases List.mem_cons.1 h with rfl | h
    · exact hq
    · exact hl p h
end
end Go.Proofs.YtpoibdhhcbelnaaGreatDoor
