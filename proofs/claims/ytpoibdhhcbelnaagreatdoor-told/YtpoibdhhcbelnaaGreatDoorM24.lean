/- Walks and plain laws, some texts in one. -/
import Derived.Test.YtpoibdhhcbelnaaGreatDoorM21
import Derived.Test.YtpoibdhhcbelnaaGreatDoorM23
import Derived.Test.YtpoibdhhcbelnaaGreatDoorM17
import Derived.Test.YtpoibdhhcbelnaaGreatDoorM16
namespace Go.Proofs.YtpoibdhhcbelnaaGreatDoor
open Go.Shelf Go.RowKit Go.Lib Brm
abbrev NN:List Value:=[.nilFunc,.nilFunc]
abbrev put2 (w:World)(r:Nat)(f t:Value):World:=(w.setCell ⟨r,0,none⟩ f).setCell ⟨r,1,none⟩ t
theorem Off.put2 {b r:Nat}{a w:World}(h:Off b a w)(hr:a.heap.size<=r)(f t:Value):Off b a (put2 w r f t):=(h.setNew hr _).setNew hr _
theorem Keeps.put2 {A:Nat->Prop}{w:World}{r:Nat}(hr:¬ A r)(f t:Value):Keeps A w (put2 w r f t):=(Keeps.set _ hr).trans (Keeps.set _ hr)
theorem Blk.put2 {w:World}{b r:Nat}{cs:List Value}{T:TypeId}(h:Blk w b cs T)(hr:b≠r)(f t:Value):Blk (put2 w r f t) b cs T:=(h.setOther hr _).setOther hr _
theorem cells_put2 {w:World}{r:Nat}{f t:Value}(h:Blk w r NN 180):(put2 w r f t).cell? ⟨r,0,none⟩=some f/\(put2 w r f t).cell? ⟨r,1,none⟩=some t:=two ((h.set 0 f).set 1 t)
theorem rem_built {W1 w2 w3 w4 w5:World}{lo B bm num r:Nat}{L:List Pat}{p:Pat}{e f t:Value}{Q:Value->Prop}(hB:B<=bm)(hbm:bm<W1.heap.size)(hr1:B<=r)(hr2:r<W1.heap.size)(h23:Below w2.heap.size w2 w3)(hs:W1.heap.size<=w2.heap.size)(hO:Off bm w3 w4)
    (hbe:Blk w4 w3.heap.size [e] 176) (hbn:Blk w4 (w3.heap.size+1) [.int .i64 num] 3) (h45:Below w4.heap.size w4 w5) (hL:L[num]?=some p) (hn:num<1000000) (hf:f=.func (.func 192) #[] #[Ptr (w3.heap.size+1),Ptr w3.heap.size])
    (hQ:Keeps (AB lo B W1) w2 (put2 w5 r f t)->Keeps (AB lo B W1) w3 (put2 w5 r f t)->Q e):Rem (put2 w5 r f t) (AB lo B W1) L p f Q/\Keeps (AB lo B W1) w2 (put2 w5 r f t):=by
  have hr:¬ AB lo B W1 r:=fun h=>by rcases h with h | h<;>omega
  have hb:¬ AB lo B W1 bm:=fun h=>by rcases h with h | h<;>omega
  have k4:Keeps (AB lo B W1) w4 (put2 w5 r f t):=(Keeps.below h45).trans (Keeps.put2 hr f t)
  have k3:Keeps (AB lo B W1) w3 (put2 w5 r f t):=(Keeps.off hO hb).trans k4
  have k2:Keeps (AB lo B W1) w2 (put2 w5 r f t):=(Keeps.below h23).trans k3
  have hs3:=h23.size
  have a1:AB lo B W1 (w3.heap.size+1):=.inr (by omega)
  have a2:AB lo B W1 w3.heap.size:=.inr (by omega)
  exact ⟨⟨_,_,e,num,hf,a1,a2,hbn.keep k4 a1,hbe.keep k4 a2,hL,hn,hQ k2 k3⟩,k2⟩
theorem AB.up {lo B:Nat}{w W1:World}(h:w.heap.size<=W1.heap.size)(g:Nat)(ha:AB lo B W1 g):AB lo B w g:=by rcases ha with ha | ha;exact .inl ha;exact .inr (Nat.le_trans h ha)
set_option maxRecDepth 100000 in
set_option maxHeartbeats 4000000 in
theorem part_row (l:List Pat)(ih:∀ p∈l,PartOk p)(lo B bm b k g:Nat)(L:List Pat)(w:World)(hB:B<=bm)(hb:lo<=b/\b<B)(lv:Value)(xs:List Nat)(hnb:Blk w b [.int .i64 1,.slice none 0 0,lv,.int .i64 0,.int .i64 0] 76)(ho:Own w (fun x=>lo<=x/\x<B) 65 1 lv l.length (xs.map Ptr))(hP:PL w (fun x=>lo<=x/\x<B) l xs)(h100:l.length<=100)(hm:Mkr w bm k g)(hL:Pre L k (subsL l++[.row l]))(hk:k+(subsL l).length+1<=1000)(hg:g+groupsL l<=1000) :
    Calls Tryz.prog 96 #[.pointer (some ⟨bm,0,none⟩),.pointer (some ⟨b,0,none⟩)] w fun e w'=>∃ F cp G tc,e=.returned (.agg #[.func (.func F) #[] cp,.func (.func G) #[] tc])/\(∃ ys,EVL w' (AB lo B w) L l ys/\Rem w' (AB lo B w) L (.row l) (.func (.func F) #[] cp) (Bx w' (AB lo B w) 193 l.length ys)/\TVL w' (AB lo B w) L l g ys/\Bx w' (AB lo B w) 195 l.length ys (.func (.func G) #[] tc))/\Off bm w w'/\Mkr w' bm (k+(subsL l).length+1) (g+groupsL l):=by
  have hbm:=hm.lt
  have hbw:=hnb.lt
  obtain ⟨lo9,lc,rfl⟩:=own65_form ho.1
  have hN1:Below w.heap.size w (w.alloc (.cells #[.nilFunc,.nilFunc] 180)):=(Below.refl _ _).alloc (Nat.le_refl _) _
  have HN1:=hide hN1
  have HR1:=hide (Blk.new w NN 180)
  have hs1:(w.alloc (.cells #[.nilFunc,.nilFunc] 180)).heap.size=w.heap.size+1:=by simp
  have HC:=hide (all_any l ih lo B bm k g L (w.alloc (.cells #[.nilFunc,.nilFunc] 180)) _ xs hB (ho.below hN1) (PL.keep (Keeps.below hN1) l xs hP) (hm.below hN1) hL.left (by omega) hg h100)
  obtain ⟨c0,c1,c2,c3,c4,_⟩:=hnb.five
  have HNB:=hide (hnb.below hN1)
  have HL:=hide hL
  have HB:=hide hB
  have HK:=hide hk
  have hbn:b≠w.heap.size:=by omega
  clear hnb ho hP hm hL hN1 ih
  go_enter Tryz.func96,Tryz.ntmps96
  go_wp2_with fail
  generalize hW:w.alloc (.cells #[.nilFunc,.nilFunc] 180)=W1 at HN1 HR1 hs1 HC HNB ⊢
  clear hW c0 c1 c2 c3 c4
  refine HC.out.mono ?_
  rintro e w2 ⟨plo,plc,ys,rfl,ho2,hE2,hT2,hO2,hM2⟩
  have HT2:=hide hT2
  have hr2:=HR1.out.off hO2 (by omega)
  have hn2:=HNB.out.off hO2 (by omega)
  obtain ⟨c0,c1,c2,c3,c4,_⟩:=hn2.five
  have HO2:=hide ho2
  have HE2:=hide hE2
  have HF2:=hide hO2
  have HM2:=hide hM2
  have HR2:=hide hr2
  have hs2:=hO2.size
  have hrl:=hr2.lt
  clear ho2 hE2 hT2 hO2 hM2 hr2 hn2
  go_wp2_with (first
    | (go_at_call 147;refine (mk147 _ _ _ _).mono ?_;rintro e w3 ⟨rfl,hw3⟩;have hb3:Below w2.heap.size w2 w3:=(by rw [hw3];exact (Below.refl _ _).alloc (Nat.le_refl _) _);have hbx3:Blk w3 w2.heap.size [.slice plo l.length plc] 242:=(by rw [hw3];exact Blk.new w2 [.slice plo l.length plc] 242);have HB3:=hide hb3;have HX3:=hide hbx3;have HM3:=hide (HM2.out.below hb3);have HR3:=hide (HR2.out.below hb3);have hs3:=hb3.size;clear hw3 hb3 hbx3)
    | (go_at_call 146;refine (mk146 bm (k+(subsL l).length) (g+groupsL l:Nat) _ _ _ (by omega) HM3.out).mono ?_;rintro e w4 ⟨rfl,hO4,hM4,hbe4,hbn4⟩;have HO4:=hide hO4;have HM4:=hide hM4;have HE4:=hide hbe4;have HN4:=hide hbn4;have hr4:=HR3.out.off hO4 (by omega);obtain ⟨p0,p1⟩:=two hr4;have p2:=hr4.frozen 0;have p3:=hr4.frozen 1;have HR4:=hide hr4;have hs4:=hO4.size;clear hO4 hM4 hbe4 hbn4 hr4)
    | (go_at_call 148;refine (mk148 _ _ _ _).mono ?_;rintro e w5 ⟨rfl,hw5⟩;have hb5:Below w4.heap.size w4 w5:=(by rw [hw5];exact (Below.refl _ _).alloc (Nat.le_refl _) _);have hx5:Blk w5 w4.heap.size [.slice plo l.length plc] 242:=(by rw [hw5];exact Blk.new w4 [.slice plo l.length plc] 242);have HX5:=hide hx5;have hr5:=HR4.out.below hb5;obtain ⟨q0,q1⟩:=two hr5;have q2:=hr5.frozen 0;have q3:=hr5.frozen 1;have HR5:=hide hr5;have HB5:=hide hb5;clear hw5 hb5 hr5 hx5))
  have hz:=cells_put2 (f:=.func (.func 192) #[] #[Ptr (w3.heap.size+1),Ptr w3.heap.size]) (t:=.func (.func 195) #[] #[Ptr w4.heap.size]) HR5.out
  obtain ⟨hrem,hk2⟩:=rem_built (W1:=W1) (w2:=w2) (r:=w.heap.size) (t:=.func (.func 195) #[] #[Ptr w4.heap.size]) (Q:=Bx (put2 w5 w.heap.size (.func (.func 192) #[] #[Ptr (w3.heap.size+1),Ptr w3.heap.size]) (.func (.func 195) #[] #[Ptr w4.heap.size])) (AB lo B W1) 193 l.length ys) HB.out (by omega) (by omega) (by omega) HB3.out hs2 HO4.out HE4.out HN4.out HB5.out HL.out.one (by omega) rfl (fun k2 k3=>⟨w2.heap.size,_,rfl,.inr hs2,HX3.out.keep k3 (.inr hs2),HO2.out.keep k2⟩)
  refine bodyPost_ret (v:=.agg #[.func (.func 192) #[] #[Ptr (w3.heap.size+1),Ptr w3.heap.size],.func (.func 195) #[] #[Ptr w4.heap.size]]) (by simp [results,Tryz.results96,go_sem,hz.1,hz.2]) rfl ?_
  exact ⟨_,_,_,_,rfl,⟨ys,EVL.mono (fun q _ ha=>AB.up (by omega) q ha) l ys (EVL.keep hk2 l ys HE2.out),Rem.mono (fun q _ ha=>AB.up (by omega) q ha) (Bx.mono (fun q _ ha=>AB.up (by omega) q ha)) hrem,TVL.mono (fun q _ ha=>AB.up (by omega) q ha) l g ys (TVL.keep hk2 l g ys HT2.out),⟨w4.heap.size,_,rfl,.inr (by omega),HX5.out.put2 (by omega) _ _,(HO2.out.keep hk2).mono (fun q _ ha=>AB.up (by omega) q ha)⟩⟩,((((Off.below HN1.out).trans HF2.out).trans ((Off.below HB3.out).trans HO4.out)).trans (Off.below HB5.out)).put2 (Nat.le_refl _) _ _,(HM4.out.below HB5.out).put2 (by omega) _ _⟩
set_option maxRecDepth 100000 in
set_option maxHeartbeats 4000000 in
theorem part_or (l:List Pat)(ih:∀ p∈l,PartOk p)(lo B bm b k g:Nat)(L:List Pat)(w:World)(hB:B<=bm)(hb:lo<=b/\b<B)(lv:Value)(xs:List Nat)(hnb:Blk w b [.int .i64 2,.slice none 0 0,lv,.int .i64 0,.int .i64 0] 76)(ho:Own w (fun x=>lo<=x/\x<B) 65 1 lv l.length (xs.map Ptr))(hP:PL w (fun x=>lo<=x/\x<B) l xs)(h100:l.length<=100)(hm:Mkr w bm k g)(hL:Pre L k (subsL l++[.or l]))(hk:k+(subsL l).length+1<=1000)(hg:g+groupsL l<=1000) :
    Calls Tryz.prog 96 #[.pointer (some ⟨bm,0,none⟩),.pointer (some ⟨b,0,none⟩)] w fun e w'=>∃ F cp G tc,e=.returned (.agg #[.func (.func F) #[] cp,.func (.func G) #[] tc])/\(∃ ys,EVL w' (AB lo B w) L l ys/\Rem w' (AB lo B w) L (.or l) (.func (.func F) #[] cp) (Bx w' (AB lo B w) 198 l.length ys)/\TVL w' (AB lo B w) L l g ys/\Bx w' (AB lo B w) 199 l.length ys (.func (.func G) #[] tc))/\Off bm w w'/\Mkr w' bm (k+(subsL l).length+1) (g+groupsL l):=by
  have hbm:=hm.lt
  have hbw:=hnb.lt
  obtain ⟨lo9,lc,rfl⟩:=own65_form ho.1
  have hN1:Below w.heap.size w (w.alloc (.cells #[.nilFunc,.nilFunc] 180)):=(Below.refl _ _).alloc (Nat.le_refl _) _
  have HN1:=hide hN1
  have HR1:=hide (Blk.new w NN 180)
  have hs1:(w.alloc (.cells #[.nilFunc,.nilFunc] 180)).heap.size=w.heap.size+1:=by simp
  have HC:=hide (all_any l ih lo B bm k g L (w.alloc (.cells #[.nilFunc,.nilFunc] 180)) _ xs hB (ho.below hN1) (PL.keep (Keeps.below hN1) l xs hP) (hm.below hN1) hL.left (by omega) hg h100)
  obtain ⟨c0,c1,c2,c3,c4,_⟩:=hnb.five
  have HNB:=hide (hnb.below hN1)
  have HL:=hide hL
  have HB:=hide hB
  have HK:=hide hk
  have hbn:b≠w.heap.size:=by omega
  clear hnb ho hP hm hL hN1 ih
  go_enter Tryz.func96,Tryz.ntmps96
  go_wp2_with fail
  generalize hW:w.alloc (.cells #[.nilFunc,.nilFunc] 180)=W1 at HN1 HR1 hs1 HC HNB ⊢
  clear hW c0 c1 c2 c3 c4
  refine HC.out.mono ?_
  rintro e w2 ⟨plo,plc,ys,rfl,ho2,hE2,hT2,hO2,hM2⟩
  have HT2:=hide hT2
  have hr2:=HR1.out.off hO2 (by omega)
  have hn2:=HNB.out.off hO2 (by omega)
  obtain ⟨c0,c1,c2,c3,c4,_⟩:=hn2.five
  have HO2:=hide ho2
  have HE2:=hide hE2
  have HF2:=hide hO2
  have HM2:=hide hM2
  have HR2:=hide hr2
  have hs2:=hO2.size
  have hrl:=hr2.lt
  clear ho2 hE2 hT2 hO2 hM2 hr2 hn2
  go_wp2_with (first
    | (go_at_call 149;refine (mk149 _ _ _ _).mono ?_;rintro e w3 ⟨rfl,hw3⟩;have hb3:Below w2.heap.size w2 w3:=(by rw [hw3];exact (Below.refl _ _).alloc (Nat.le_refl _) _);have hbx3:Blk w3 w2.heap.size [.slice plo l.length plc] 242:=(by rw [hw3];exact Blk.new w2 [.slice plo l.length plc] 242);have HB3:=hide hb3;have HX3:=hide hbx3;have HM3:=hide (HM2.out.below hb3);have HR3:=hide (HR2.out.below hb3);have hs3:=hb3.size;clear hw3 hb3 hbx3)
    | (go_at_call 146;refine (mk146 bm (k+(subsL l).length) (g+groupsL l:Nat) _ _ _ (by omega) HM3.out).mono ?_;rintro e w4 ⟨rfl,hO4,hM4,hbe4,hbn4⟩;have HO4:=hide hO4;have HM4:=hide hM4;have HE4:=hide hbe4;have HN4:=hide hbn4;have hr4:=HR3.out.off hO4 (by omega);obtain ⟨p0,p1⟩:=two hr4;have p2:=hr4.frozen 0;have p3:=hr4.frozen 1;have HR4:=hide hr4;have hs4:=hO4.size;clear hO4 hM4 hbe4 hbn4 hr4)
    | (go_at_call 150;refine (mk150 _ _ _ _).mono ?_;rintro e w5 ⟨rfl,hw5⟩;have hb5:Below w4.heap.size w4 w5:=(by rw [hw5];exact (Below.refl _ _).alloc (Nat.le_refl _) _);have hx5:Blk w5 w4.heap.size [.slice plo l.length plc] 242:=(by rw [hw5];exact Blk.new w4 [.slice plo l.length plc] 242);have HX5:=hide hx5;have hr5:=HR4.out.below hb5;obtain ⟨q0,q1⟩:=two hr5;have q2:=hr5.frozen 0;have q3:=hr5.frozen 1;have HR5:=hide hr5;have HB5:=hide hb5;clear hw5 hb5 hr5 hx5))
  have hz:=cells_put2 (f:=.func (.func 192) #[] #[Ptr (w3.heap.size+1),Ptr w3.heap.size]) (t:=.func (.func 199) #[] #[Ptr w4.heap.size]) HR5.out
  obtain ⟨hrem,hk2⟩:=rem_built (W1:=W1) (w2:=w2) (r:=w.heap.size) (t:=.func (.func 199) #[] #[Ptr w4.heap.size]) (Q:=Bx (put2 w5 w.heap.size (.func (.func 192) #[] #[Ptr (w3.heap.size+1),Ptr w3.heap.size]) (.func (.func 199) #[] #[Ptr w4.heap.size])) (AB lo B W1) 198 l.length ys) HB.out (by omega) (by omega) (by omega) HB3.out hs2 HO4.out HE4.out HN4.out HB5.out HL.out.one (by omega) rfl (fun k2 k3=>⟨w2.heap.size,_,rfl,.inr hs2,HX3.out.keep k3 (.inr hs2),HO2.out.keep k2⟩)
  refine bodyPost_ret (v:=.agg #[.func (.func 192) #[] #[Ptr (w3.heap.size+1),Ptr w3.heap.size],.func (.func 199) #[] #[Ptr w4.heap.size]]) (by simp [results,Tryz.results96,go_sem,hz.1,hz.2]) rfl ?_
  exact ⟨_,_,_,_,rfl,⟨ys,EVL.mono (fun q _ ha=>AB.up (by omega) q ha) l ys (EVL.keep hk2 l ys HE2.out),Rem.mono (fun q _ ha=>AB.up (by omega) q ha) (Bx.mono (fun q _ ha=>AB.up (by omega) q ha)) hrem,TVL.mono (fun q _ ha=>AB.up (by omega) q ha) l g ys (TVL.keep hk2 l g ys HT2.out),⟨w4.heap.size,_,rfl,.inr (by omega),HX5.out.put2 (by omega) _ _,(HO2.out.keep hk2).mono (fun q _ ha=>AB.up (by omega) q ha)⟩⟩,((((Off.below HN1.out).trans HF2.out).trans ((Off.below HB3.out).trans HO4.out)).trans (Off.below HB5.out)).put2 (Nat.le_refl _) _ _,(HM4.out.below HB5.out).put2 (by omega) _ _⟩
set_option maxRecDepth 100000 in
set_option maxHeartbeats 4000000 in
theorem part_and (l:List Pat)(ih:∀ p∈l,PartOk p)(lo B bm b k g:Nat)(L:List Pat)(w:World)(hB:B<=bm)(hb:lo<=b/\b<B)(lv:Value)(xs:List Nat)(hnb:Blk w b [.int .i64 3,.slice none 0 0,lv,.int .i64 0,.int .i64 0] 76)(ho:Own w (fun x=>lo<=x/\x<B) 65 1 lv l.length (xs.map Ptr))(hP:PL w (fun x=>lo<=x/\x<B) l xs)(h100:l.length<=100)(hm:Mkr w bm k g)(hL:Pre L k (subsL l++[.and l]))(hk:k+(subsL l).length+1<=1000)(hg:g+groupsL l<=1000) :
    Calls Tryz.prog 96 #[.pointer (some ⟨bm,0,none⟩),.pointer (some ⟨b,0,none⟩)] w fun e w'=>∃ F cp G tc,e=.returned (.agg #[.func (.func F) #[] cp,.func (.func G) #[] tc])/\(∃ ys,EVL w' (AB lo B w) L l ys/\Rem w' (AB lo B w) L (.and l) (.func (.func F) #[] cp) (Bx w' (AB lo B w) 200 l.length ys)/\TVL w' (AB lo B w) L l g ys/\(.func (.func G) #[] tc:Value)=.func (.func 152) #[] #[])/\Off bm w w'/\Mkr w' bm (k+(subsL l).length+1) (g+groupsL l):=by
  have hbm:=hm.lt
  have hbw:=hnb.lt
  obtain ⟨lo9,lc,rfl⟩:=own65_form ho.1
  have hN1:Below w.heap.size w (w.alloc (.cells #[.nilFunc,.nilFunc] 180)):=(Below.refl _ _).alloc (Nat.le_refl _) _
  have HN1:=hide hN1
  have HR1:=hide (Blk.new w NN 180)
  have hs1:(w.alloc (.cells #[.nilFunc,.nilFunc] 180)).heap.size=w.heap.size+1:=by simp
  have HC:=hide (all_any l ih lo B bm k g L (w.alloc (.cells #[.nilFunc,.nilFunc] 180)) _ xs hB (ho.below hN1) (PL.keep (Keeps.below hN1) l xs hP) (hm.below hN1) hL.left (by omega) hg h100)
  obtain ⟨c0,c1,c2,c3,c4,_⟩:=hnb.five
  have HNB:=hide (hnb.below hN1)
  have HL:=hide hL
  have HB:=hide hB
  have HK:=hide hk
  have hbn:b≠w.heap.size:=by omega
  clear hnb ho hP hm hL hN1 ih
  go_enter Tryz.func96,Tryz.ntmps96
  go_wp2_with fail
  generalize hW:w.alloc (.cells #[.nilFunc,.nilFunc] 180)=W1 at HN1 HR1 hs1 HC HNB ⊢
  clear hW c0 c1 c2 c3 c4
  refine HC.out.mono ?_
  rintro e w2 ⟨plo,plc,ys,rfl,ho2,hE2,hT2,hO2,hM2⟩
  have HT2:=hide hT2
  have hr2:=HR1.out.off hO2 (by omega)
  have hn2:=HNB.out.off hO2 (by omega)
  obtain ⟨c0,c1,c2,c3,c4,_⟩:=hn2.five
  have HO2:=hide ho2
  have HE2:=hide hE2
  have HF2:=hide hO2
  have HM2:=hide hM2
  have HR2:=hide hr2
  have hs2:=hO2.size
  have hrl:=hr2.lt
  clear ho2 hE2 hT2 hO2 hM2 hr2 hn2
  go_wp2_with (first
    | (go_at_call 151;refine (mk151 _ _ _ _).mono ?_;rintro e w3 ⟨rfl,hw3⟩;have hb3:Below w2.heap.size w2 w3:=(by rw [hw3];exact (Below.refl _ _).alloc (Nat.le_refl _) _);have hbx3:Blk w3 w2.heap.size [.slice plo l.length plc] 242:=(by rw [hw3];exact Blk.new w2 [.slice plo l.length plc] 242);have HB3:=hide hb3;have HX3:=hide hbx3;have HM3:=hide (HM2.out.below hb3);have HR3:=hide (HR2.out.below hb3);have hs3:=hb3.size;clear hw3 hb3 hbx3)
    | (go_at_call 146;refine (mk146 bm (k+(subsL l).length) (g+groupsL l:Nat) _ _ _ (by omega) HM3.out).mono ?_;rintro e w4 ⟨rfl,hO4,hM4,hbe4,hbn4⟩;have HO4:=hide hO4;have HM4:=hide hM4;have HE4:=hide hbe4;have HN4:=hide hbn4;have hr4:=HR3.out.off hO4 (by omega);obtain ⟨p0,p1⟩:=two hr4;have p2:=hr4.frozen 0;have p3:=hr4.frozen 1;have HR4:=hide hr4;have hs4:=hO4.size;clear hO4 hM4 hbe4 hbn4 hr4))
  have hz:=cells_put2 (f:=.func (.func 192) #[] #[Ptr (w3.heap.size+1),Ptr w3.heap.size]) (t:=.func (.func 152) #[] #[]) HR4.out
  obtain ⟨hrem,hk2⟩:=rem_built (W1:=W1) (w2:=w2) (r:=w.heap.size) (t:=.func (.func 152) #[] #[]) (Q:=Bx (put2 w4 w.heap.size (.func (.func 192) #[] #[Ptr (w3.heap.size+1),Ptr w3.heap.size]) (.func (.func 152) #[] #[])) (AB lo B W1) 200 l.length ys) HB.out (by omega) (by omega) (by omega) HB3.out hs2 HO4.out HE4.out HN4.out (Below.refl _ _) HL.out.one (by omega) rfl (fun k2 k3=>⟨w2.heap.size,_,rfl,.inr hs2,HX3.out.keep k3 (.inr hs2),HO2.out.keep k2⟩)
  refine bodyPost_ret (v:=.agg #[.func (.func 192) #[] #[Ptr (w3.heap.size+1),Ptr w3.heap.size],.func (.func 152) #[] #[]]) (by simp [results,Tryz.results96,go_sem,hz.1,hz.2]) rfl ?_
  exact ⟨_,_,_,_,rfl,⟨ys,EVL.mono (fun q _ ha=>AB.up (by omega) q ha) l ys (EVL.keep hk2 l ys HE2.out),Rem.mono (fun q _ ha=>AB.up (by omega) q ha) (Bx.mono (fun q _ ha=>AB.up (by omega) q ha)) hrem,TVL.mono (fun q _ ha=>AB.up (by omega) q ha) l g ys (TVL.keep hk2 l g ys HT2.out),rfl⟩,((((Off.below HN1.out).trans HF2.out).trans ((Off.below HB3.out).trans HO4.out)).trans (Off.below (Below.refl _ _))).put2 (Nat.le_refl _) _ _,(HM4.out.below (Below.refl _ _)).put2 (by omega) _ _⟩
end Go.Proofs.YtpoibdhhcbelnaaGreatDoor
namespace Go.Proofs.YtpoibdhhcbelnaaGreatDoor
open Go.Shelf Go.RowKit Go.Lib Brm
theorem SlA.form {w:World}{A:Nat->Prop}{v:Value}{l:List (Int×Int)}(h:SlA w A v l):∃ so sc,v=.slice so l.length sc:=by
  rcases h with ⟨rfl,rfl⟩ | ⟨b,off,cap,rfl,_⟩
  · exact ⟨none,0,rfl⟩
  · exact ⟨_,_,rfl⟩
theorem own_none (w:World)(A:Nat->Prop):Own w A 65 1 (.slice none 0 0) 0 (([]:List Nat).map Ptr):=⟨World.ownsRow_nil _ _ _ _,fun g h=>by simp [Value.ownBlock] at h⟩
set_option maxRecDepth 100000 in
set_option maxHeartbeats 4000000 in
theorem part_set (s:List (Int×Int)):PartOk (.set s):=by
  intro lo B bm b k g L w hB hN hm hL hk hg
  obtain ⟨hb,sv,hnb,hS⟩:=hN
  obtain ⟨so,sc,rfl⟩:=hS.form
  have hbm:=hm.lt
  have hbw:=hnb.lt
  have hN1:Below w.heap.size w (w.alloc (.cells #[.nilFunc,.nilFunc] 180)):=(Below.refl _ _).alloc (Nat.le_refl _) _
  have HN1:=hide hN1
  have HR1:=hide (Blk.new w NN 180)
  have hs1:(w.alloc (.cells #[.nilFunc,.nilFunc] 180)).heap.size=w.heap.size+1:=by simp
  have HC:=hide (all_any [] (fun p hp=>by cases hp) lo B bm k g L (w.alloc (.cells #[.nilFunc,.nilFunc] 180)) _ [] hB (own_none _ _) (show PL _ _ [] [] from rfl) (hm.below hN1) (fun i q hi=>by simp [subsL] at hi) (by simp [subsL,subs] at *;omega) (by simp [groupsL,Pat.groups] at *;omega) (by simp))
  obtain ⟨c0,c1,c2,c3,c4,_⟩:=hnb.five
  have HNB:=hide (hnb.below hN1)
  have HL:=hide hL
  have HB:=hide hB
  have HK:=hide hk
  have hbn:b≠w.heap.size:=by omega
  have HS:=hide (hS.keep (Keeps.below hN1))
  clear hnb hm hL hN1 hS
  go_enter Tryz.func96,Tryz.ntmps96
  go_wp2_with fail
  generalize hW:w.alloc (.cells #[.nilFunc,.nilFunc] 180)=W1 at HN1 HR1 hs1 HC HNB HS ⊢
  clear hW c0 c1 c2 c3 c4
  refine HC.out.mono ?_
  rintro e w2 ⟨plo,plc,ys,rfl,ho2,hE2,_,hO2,hM2⟩
  have hr2:=HR1.out.off hO2 (by omega)
  have hn2:=HNB.out.off hO2 (by omega)
  obtain ⟨c0,c1,c2,c3,c4,_⟩:=hn2.five
  have HO2:=hide ho2
  have HE2:=hide hE2
  have HF2:=hide hO2
  have HM2:=hide hM2
  have HR2:=hide hr2
  have hs2:=hO2.size
  have hrl:=hr2.lt
  clear ho2 hE2 hO2 hM2 hr2 hn2
  replace HS:=hide (HS.out.keep (Keeps.off HF2.out (show ¬ (lo<=bm/\bm<B) by omega)))
  go_wp2_with (go_at_call 156;refine (mk156 _ _ _ _).mono ?_;rintro e w3 ⟨rfl,hw3⟩;have hb3:Below w2.heap.size w2 w3:=(by rw [hw3];exact (Below.refl _ _).alloc (Nat.le_refl _) _);have hbx3:Blk w3 w2.heap.size [.slice so s.length sc] 29:=(by rw [hw3];exact Blk.new w2 [.slice so s.length sc] 29);have hr3:=HR2.out.below hb3;obtain ⟨p0,p1⟩:=two hr3;have p2:=hr3.frozen 0;have p3:=hr3.frozen 1;have HR3:=hide hr3;have HB3:=hide hb3;have HX3:=hide hbx3;have HM3:=hide (HM2.out.below hb3);have hs3:=hb3.size;clear hw3 hb3 hbx3 hr3)
  have hz:=cells_put2 (f:=.func (.func 206) #[] #[Ptr w2.heap.size]) (t:=.func (.func 152) #[] #[]) HR3.out
  have hr:¬ AB lo B W1 w.heap.size:=fun h=>by rcases h with h | h<;>omega
  have k3:Keeps (AB lo B W1) w3 (put2 w3 w.heap.size (.func (.func 206) #[] #[Ptr w2.heap.size]) (.func (.func 152) #[] #[])):=Keeps.put2 hr _ _
  refine bodyPost_ret (v:=.agg #[.func (.func 206) #[] #[Ptr w2.heap.size],.func (.func 152) #[] #[]]) (by simp [results,Tryz.results96,go_sem,hz.1,hz.2]) rfl ?_
  refine ⟨_,_,_,_,rfl,EV.mono (A:=AB lo B W1) (fun q _ ha=>AB.up (by omega) q ha) (.set s) _ ⟨_,_,rfl,.inr hs2,HX3.out.keep k3 (.inr hs2),((HS.out.keep (Keeps.below HB3.out)).mono (fun q _ hq=>(.inl hq:AB lo B W1 q))).keep k3⟩,rfl,(((Off.below HN1.out).trans HF2.out).trans (Off.below HB3.out)).put2 (Nat.le_refl _) _ _,?_⟩
  have:=HM3.out.put2 (show bm≠w.heap.size by omega) (.func (.func 206) #[] #[Ptr w2.heap.size]) (.func (.func 152) #[] #[])
  have e8:k+(subs (.set s)).length=k+(subsL []).length:=by simp [subs,subsL]
  have e9:g+(Pat.set s).groups=g+groupsL []:=by simp [groupsL,Pat.groups]
  rw [e8,e9]
  exact this
set_option maxRecDepth 100000 in
set_option maxHeartbeats 4000000 in
theorem part_not (p:Pat)(hok:p.Ok)(ih:PartOk p):PartOk (.not p):=by
  intro lo B bm b k g L w hB hN hm hL hk hg
  obtain ⟨hb,lv,x,hnb,ho,hp⟩:=hN
  obtain ⟨lo9,lc,rfl⟩:=own65_form ho.1
  have hk':k+(subs p).length+1<=1000:=by simp [subs] at hk;omega
  have hbm:=hm.lt
  have hbw:=hnb.lt
  have hN1:Below w.heap.size w (w.alloc (.cells #[.nilFunc,.nilFunc] 180)):=(Below.refl _ _).alloc (Nat.le_refl _) _
  have HN1:=hide hN1
  have HR1:=hide (Blk.new w NN 180)
  have hs1:(w.alloc (.cells #[.nilFunc,.nilFunc] 180)).heap.size=w.heap.size+1:=by simp
  have HC:=hide (all_any [p] (fun q hq=>by rw [List.mem_singleton.1 hq];exact ih) lo B bm k g L (w.alloc (.cells #[.nilFunc,.nilFunc] 180)) _ [x] hB (ho.below hN1) (⟨x,[],rfl,PN.keep (Keeps.below hN1) p x hp,rfl⟩) (hm.below hN1) (show Pre L k (subsL [p]) by simpa [subsL] using hL.left) (by simp [subsL];omega) (by simpa [groupsL,Pat.groups] using hg) (by simp))
  obtain ⟨c0,c1,c2,c3,c4,_⟩:=hnb.five
  have HNB:=hide (hnb.below hN1)
  have HL:=hide hL
  have HB:=hide hB
  have HK:=hide hk
  have hbn:b≠w.heap.size:=by omega
  clear hnb hm hL hN1 ih ho hp
  go_enter Tryz.func96,Tryz.ntmps96
  go_wp2_with fail
  generalize hW:w.alloc (.cells #[.nilFunc,.nilFunc] 180)=W1 at HN1 HR1 hs1 HC HNB ⊢
  clear hW c0 c1 c2 c3 c4
  refine HC.out.mono ?_
  rintro e w2 ⟨plo,plc,ys,rfl,ho2,hE2,_,hO2,hM2⟩
  have hr2:=HR1.out.off hO2 (by omega)
  have hn2:=HNB.out.off hO2 (by omega)
  obtain ⟨c0,c1,c2,c3,c4,_⟩:=hn2.five
  obtain ⟨f',t',r',rfl,⟨G,tc,rfl⟩,hf',hr'⟩:=hE2
  obtain rfl:r'=[]:=hr'
  obtain ⟨F,cp,rfl,eg⟩:=EV.form p f' hok hf'
  obtain ⟨pb,pcap,hpl,hpb,hpA,e0,e1⟩:=own_two ho2 (i:=0) (by simp) (f:=.func (.func F) #[] cp) (t:=.func (.func G) #[] tc) rfl
  cases hpl
  simp only [Nat.zero_mul,Nat.zero_add] at e0 e1
  have HEp:=hide hf'
  have HF2:=hide hO2
  have HM2:=hide hM2
  have HR2:=hide hr2
  have hs2:=hO2.size
  have hrl:=hr2.lt
  clear ho2 hO2 hM2 hr2 hn2 hf'
  go_wp2_with (first
    | (go_at_call 153;refine (mk153 _ _ _ _ _).mono ?_;rintro e w3 ⟨rfl,hw3⟩;have hb3:Below w2.heap.size w2 w3:=(by rw [hw3];exact (Below.refl _ _).alloc (Nat.le_refl _) _);have hbx3:Blk w3 w2.heap.size [.func (.func F) #[] cp,.func (.func G) #[] tc] 180:=(by rw [hw3];exact Blk.new w2 [.func (.func F) #[] cp,.func (.func G) #[] tc] 180);have HB3:=hide hb3;have HX3:=hide hbx3;have HM3:=hide (HM2.out.below hb3);have HR3:=hide (HR2.out.below hb3);have hs3:=hb3.size;clear hw3 hb3 hbx3)
    | (go_at_call 146;refine (mk146 bm (k+(subsL [p]).length) (g+groupsL [p]:Nat) _ _ _ (by simp [subsL];omega) HM3.out).mono ?_;rintro e w4 ⟨rfl,hO4,hM4,hbe4,hbn4⟩;have HO4:=hide hO4;have HM4:=hide hM4;have HE4:=hide hbe4;have HN4:=hide hbn4;have hr4:=HR3.out.off hO4 (by omega);obtain ⟨p0,p1⟩:=two hr4;have p2:=hr4.frozen 0;have p3:=hr4.frozen 1;have HR4:=hide hr4;have hs4:=hO4.size;clear hO4 hM4 hbe4 hbn4 hr4))
  have hz:=cells_put2 (f:=.func (.func 192) #[] #[Ptr (w3.heap.size+1),Ptr w3.heap.size]) (t:=.func (.func 152) #[] #[]) HR4.out
  have hL1:L[k+(subsL [p]).length]?=some (.not p):=by
    have h9:Pre L k (subs p++[.not p]):=HL.out
    simpa [subsL] using h9.one
  obtain ⟨hrem,hk2⟩:=rem_built (W1:=W1) (w2:=w2) (r:=w.heap.size) (t:=.func (.func 152) #[] #[]) (Q:=fun e=>∃ bi,e=.func (.func 202) #[] #[Ptr bi]/\AB lo B W1 bi/\Blk (put2 w4 w.heap.size (.func (.func 192) #[] #[Ptr (w3.heap.size+1),Ptr w3.heap.size]) (.func (.func 152) #[] #[])) bi [.func (.func F) #[] cp,.func (.func G) #[] tc] 180) HB.out (by omega) (by omega) (by omega) HB3.out hs2 HO4.out HE4.out HN4.out (Below.refl _ _) hL1 (by simp [subsL];omega) rfl (fun k2 k3=>⟨w2.heap.size,rfl,.inr hs2,HX3.out.keep k3 (.inr hs2)⟩)
  refine bodyPost_ret (v:=.agg #[.func (.func 192) #[] #[Ptr (w3.heap.size+1),Ptr w3.heap.size],.func (.func 152) #[] #[]]) (by simp [results,Tryz.results96,go_sem,hz.1,hz.2]) rfl ?_
  refine ⟨_,_,_,_,rfl,EV.mono (A:=AB lo B W1) (fun q _ ha=>AB.up (by omega) q ha) (.not p) _ ⟨_,_,EV.keep hk2 p _ HEp.out,hrem⟩,rfl,(((Off.below HN1.out).trans HF2.out).trans ((Off.below HB3.out).trans HO4.out)).put2 (Nat.le_refl _) _ _,?_⟩
  have:=HM4.out.put2 (show bm≠w.heap.size by omega) (.func (.func 192) #[] #[Ptr (w3.heap.size+1),Ptr w3.heap.size]) (.func (.func 152) #[] #[])
  have e8:k+(subs (.not p)).length=k+(subsL [p]).length+1:=by simp [subs,subsL];omega
  have e9:g+(Pat.not p).groups=g+groupsL [p]:=by simp [groupsL,Pat.groups]
  rw [e8,e9]
  exact this
end Go.Proofs.YtpoibdhhcbelnaaGreatDoor
namespace Go.Proofs.YtpoibdhhcbelnaaGreatDoor
open Go.Shelf Go.RowKit Go.Lib Brm
set_option maxRecDepth 100000 in
set_option maxHeartbeats 4000000 in
theorem mgroup_any (p:Pat)(ih:PartOk p)(lo B bm x k g:Nat)(L:List Pat)(w:World)(hB:B<=bm)(hp:PN w (fun x=>lo<=x/\x<B) p x)(hm:Mkr w bm k g)(hL:Pre L k (subs p))(hk:k+(subs p).length<=1000)(hg:g+1+p.groups<=1000) :
    Calls Tryz.prog 144 #[.pointer (some ⟨bm,0,none⟩),.pointer (some ⟨x,0,none⟩)] w fun e w'=>∃ F cp G tc,e=.returned (.agg #[.func (.func F) #[] cp,.func (.func G) #[] tc])/\EV w' (AB lo B w) L p (.func (.func F) #[] cp)/\TV w' (AB lo B w) L (.group p) g (.func (.func G) #[] tc)/\Off bm w w'/\Mkr w' bm (k+(subs p).length) (g+1+p.groups):=by
  have hbm:=hm.lt
  obtain ⟨m0,m1⟩:=two hm
  have z1:=hm.frozen 1
  have hne:bm≠w.heap.size:=by omega
  have e9:(g:Int)+1=((g+1:Nat):Int):=by omega
  have hM2:Mkr ((w.setCell ⟨bm,1,none⟩ (.int .i64 ((g:Int)+1))).alloc (.cells #[.nilFunc,.nilFunc] 180)) bm k (g+1):=by rw [e9];exact (hm.set 1 _).alloc _
  have hO1:Off bm w ((w.setCell ⟨bm,1,none⟩ (.int .i64 ((g:Int)+1))).alloc (.cells #[.nilFunc,.nilFunc] 180)):=((Off.refl _ _).setCell 1 _).alloc _
  have hs1:((w.setCell ⟨bm,1,none⟩ (.int .i64 ((g:Int)+1))).alloc (.cells #[.nilFunc,.nilFunc] 180)).heap.size=w.heap.size+1:=by simp [World.setCell]
  have HR1:Hid (Blk ((w.setCell ⟨bm,1,none⟩ (.int .i64 ((g:Int)+1))).alloc (.cells #[.nilFunc,.nilFunc] 180)) w.heap.size NN 180):=by
    have h9:=Blk.new (w.setCell ⟨bm,1,none⟩ (.int .i64 ((g:Int)+1))) NN 180
    have e:(w.setCell ⟨bm,1,none⟩ (.int .i64 ((g:Int)+1))).heap.size=w.heap.size:=by simp [World.setCell]
    rw [e] at h9;exact h9
  have HC:=hide (ih lo B bm x k (g+1) L _ hB (PN.keep (Keeps.off hO1 (show ¬ (lo<=bm/\bm<B) by omega)) p x hp) hM2 hL hk hg)
  have HO1:=hide hO1
  clear hM2 hO1 hp hm ih e9
  go_enter Tryz.func144,Tryz.ntmps144
  go_wp2_with fail
  generalize hW:(w.setCell ⟨bm,1,none⟩ (.int .i64 ((g:Int)+1))).alloc (.cells #[.nilFunc,.nilFunc] 180)=W1 at HR1 hs1 HC HO1 ⊢
  clear hW m0 m1 z1
  refine HC.out.mono ?_
  rintro e w3 ⟨F,cp,G,tc,rfl,hE3,hT3,hO3,hM3⟩
  have HT3:=hide hT3
  have hr3:=HR1.out.off hO3 (by omega)
  have hs3:=hO3.size
  have hN4:Below w3.heap.size w3 (w3.alloc (.cells #[.func (.func F) #[] cp,.func (.func G) #[] tc] 180)):=(Below.refl _ _).alloc (Nat.le_refl _) _
  have HR4:=hide (hr3.below hN4)
  have HB4:=hide hN4
  have hx4:=Blk.new w3 [.func (.func F) #[] cp,.func (.func G) #[] tc] 180
  have HX4:=hide hx4
  have HE3:=hide hE3
  have HO3:=hide hO3
  have HM3:=hide hM3
  have hrl:=hr3.lt
  clear hE3 hT3 hO3 hM3 hr3 hx4 hN4
  go_wp2_with fail
  generalize hW:w3.alloc (.cells #[.func (.func F) #[] cp,.func (.func G) #[] tc] 180)=W4 at HR4 HB4 HX4 ⊢
  clear hW
  obtain ⟨x0,x1⟩:=two HX4.out
  have hs4:=HB4.out.size
  have hxl:=HX4.out.lt
  go_region_held3 (fun w'=>w'.cell? ⟨w3.heap.size,0,none⟩=some (.func (.func F) #[] cp)/\w'.cell? ⟨w3.heap.size,1,none⟩=some (.func (.func G) #[] tc))
    (first | exact ⟨x0,x1⟩ | exact HS5.out | exact HS6.out _ _)
    ((go_at_call 191;refine (mk191 _ _ _ _ _ _).mono ?_;rintro e w5 ⟨rfl,hw5⟩;have hb5:Below W4.heap.size W4 w5:=(by rw [hw5];exact ((Below.refl _ W4).drew.alloc (Nat.le_refl _) _).alloc (by simp) _);have hy0:Blk w5 W4.heap.size [.func (.func F) #[] cp,.func (.func G) #[] tc] 180:=(by rw [hw5];exact (Blk.new W4.drew [.func (.func F) #[] cp,.func (.func G) #[] tc] 180).alloc _);have hy1:Blk w5 (W4.heap.size+1) [.int .i64 (g:Int)] 3:=(by rw [hw5];have h9:=Blk.new (W4.drew.alloc (.cells #[.func (.func F) #[] cp,.func (.func G) #[] tc] 180)) [.int .i64 (g:Int)] 3;simpa using h9);have HY0:=hide hy0;have HY1:=hide hy1;clear hy0 hy1;have hr5:=HR4.out.below hb5;obtain ⟨q0,q1⟩:=two hr5;have q2:=hr5.frozen 0;have q3:=hr5.frozen 1;have HR5:=hide hr5;have HB5:=hide hb5;have hx5:=HX4.out.below hb5;have HS5:=hide (two hx5);have HS6:Hid (∀ f t,(put2 w5 w.heap.size f t).cell? ⟨w3.heap.size,0,none⟩=some (.func (.func F) #[] cp)/\(put2 w5 w.heap.size f t).cell? ⟨w3.heap.size,1,none⟩=some (.func (.func G) #[] tc)):=(fun f t=>two (hx5.put2 (by omega) f t));clear hw5 hb5 hr5 hx5))
  go_wp2_with fail
  have hz:=cells_put2 (f:=.func (.func F) #[] cp) (t:=.func (.func 237) #[] #[Ptr W4.heap.size,Ptr (W4.heap.size+1)]) HR5.out
  have hr:¬ AB lo B W1 w.heap.size:=fun h=>by rcases h with h | h<;>omega
  have k3:Keeps (AB lo B W1) w3 (put2 w5 w.heap.size (.func (.func F) #[] cp) (.func (.func 237) #[] #[Ptr W4.heap.size,Ptr (W4.heap.size+1)])):=((Keeps.below HB4.out).trans (Keeps.below HB5.out)).trans (Keeps.put2 hr _ _)
  refine bodyPost_ret (v:=.agg #[.func (.func F) #[] cp,.func (.func 237) #[] #[Ptr W4.heap.size,Ptr (W4.heap.size+1)]]) (by simp [results,Tryz.results144,go_sem,hz.1,hz.2]) rfl ?_
  exact ⟨_,_,_,_,rfl,EV.mono (A:=AB lo B W1) (fun q _ ha=>AB.up (by omega) q ha) p _ (EV.keep k3 p _ HE3.out),TV.mono (A:=AB lo B W1) (fun q _ ha=>AB.up (by omega) q ha) (.group p) g _ ⟨_,_,_,_,rfl,.inr (by omega),.inr (by omega),HY0.out.put2 (by omega) _ _,HY1.out.put2 (by omega) _ _,⟨_,_,rfl⟩,EV.keep k3 p _ HE3.out,TV.keep k3 p (g+1) _ HT3.out⟩,((HO1.out.trans HO3.out).trans ((Off.below HB4.out).trans (Off.below HB5.out))).put2 (Nat.le_refl _) _ _,((HM3.out.below HB4.out).below HB5.out).put2 (by omega) _ _⟩
set_option maxRecDepth 100000 in
set_option maxHeartbeats 4000000 in
theorem part_group (p:Pat)(ih:PartOk p):PartOk (.group p):=by
  intro lo B bm b k g L w hB hN hm hL hk hg
  obtain ⟨hb,lv,x,hnb,ho,hp⟩:=hN
  obtain ⟨pb,cap,rfl,hpb,hpB,y0⟩:=own_ptr_at (xs:=[x]) ho (i:=0) (x:=x) (by omega) rfl
  have hbm:=hm.lt
  have hbw:=hnb.lt
  have hN1:Below w.heap.size w (w.alloc (.cells #[.nilFunc,.nilFunc] 180)):=(Below.refl _ _).alloc (Nat.le_refl _) _
  have HN1:=hide hN1
  have HR1:=hide (Blk.new w NN 180)
  have hs1:(w.alloc (.cells #[.nilFunc,.nilFunc] 180)).heap.size=w.heap.size+1:=by simp
  have HC:=hide (mgroup_any p ih lo B bm x k g L (w.alloc (.cells #[.nilFunc,.nilFunc] 180)) hB (PN.keep (Keeps.below hN1) p x hp) (hm.below hN1) hL hk (by simp only [Pat.groups] at hg;omega))
  obtain ⟨c0,c1,c2,c3,c4,_⟩:=hnb.five
  have HB:=hide hB
  have hbn:b≠w.heap.size:=by omega
  have hpn:pb≠w.heap.size:=by omega
  clear hnb hm hL hN1 ho hp ih
  go_enter Tryz.func96,Tryz.ntmps96
  go_wp2_with fail
  generalize hW:w.alloc (.cells #[.nilFunc,.nilFunc] 180)=W1 at HN1 HR1 hs1 HC ⊢
  clear hW c0 c1 c2 c3 c4 y0
  refine HC.out.mono ?_
  rintro e w3 ⟨F,cp,G,tc,rfl,hE3,hT3,hO3,hM3⟩
  have HT3:=hide hT3
  have hr3:=HR1.out.off hO3 (by omega)
  have hs3:=hO3.size
  obtain ⟨q0,q1⟩:=two hr3
  have q2:=hr3.frozen 0
  have q3:=hr3.frozen 1
  have HR3:=hide hr3
  have HE3:=hide hE3
  have HO3:=hide hO3
  have HM3:=hide hM3
  clear hE3 hT3 hO3 hM3 hr3
  go_wp2_with fail
  have hz:=cells_put2 (f:=.func (.func F) #[] cp) (t:=.func (.func G) #[] tc) HR3.out
  have hr:¬ AB lo B W1 w.heap.size:=fun h=>by rcases h with h | h<;>omega
  refine bodyPost_ret (v:=.agg #[.func (.func F) #[] cp,.func (.func G) #[] tc]) (by simp [results,Tryz.results96,go_sem,hz.1,hz.2]) rfl ?_
  refine ⟨_,_,_,_,rfl,EV.mono (A:=AB lo B W1) (fun q _ ha=>AB.up (by omega) q ha) p _ (EV.keep (Keeps.put2 hr _ _) p _ HE3.out),TV.mono (A:=AB lo B W1) (fun q _ ha=>AB.up (by omega) q ha) (.group p) g _ (TV.keep (Keeps.put2 hr _ _) (.group p) g _ HT3.out),((Off.below HN1.out).trans HO3.out).put2 (Nat.le_refl _) _ _,?_⟩
  have e9:g+(Pat.group p).groups=g+1+p.groups:=by simp only [Pat.groups];omega
  rw [e9]
  exact HM3.out.put2 (by omega) _ _
end Go.Proofs.YtpoibdhhcbelnaaGreatDoor
namespace Go.Proofs.YtpoibdhhcbelnaaGreatDoor
open Go.Shelf Go.RowKit Go.Lib Brm
set_option maxRecDepth 100000 in
set_option maxHeartbeats 4000000 in
theorem part_many (p:Pat)(m n:Int)(hok:p.Ok)(ih:PartOk p):PartOk (.many p m n):=by
  intro lo B bm b k g L w hB hN hm hL hk hg
  obtain ⟨hb,lv,x,hnb,ho,hp⟩:=hN
  obtain ⟨lo9,lc,rfl⟩:=own65_form ho.1
  have hk':k+(subs p).length+1<=1000:=by simp [subs] at hk;omega
  have hbm:=hm.lt
  have hbw:=hnb.lt
  have hN1:Below w.heap.size w (w.alloc (.cells #[.nilFunc,.nilFunc] 180)):=(Below.refl _ _).alloc (Nat.le_refl _) _
  have HN1:=hide hN1
  have HR1:=hide (Blk.new w NN 180)
  have hs1:(w.alloc (.cells #[.nilFunc,.nilFunc] 180)).heap.size=w.heap.size+1:=by simp
  have HC:=hide (all_any [p] (fun q hq=>by rw [List.mem_singleton.1 hq];exact ih) lo B bm k g L (w.alloc (.cells #[.nilFunc,.nilFunc] 180)) _ [x] hB (ho.below hN1) (⟨x,[],rfl,PN.keep (Keeps.below hN1) p x hp,rfl⟩) (hm.below hN1) (show Pre L k (subsL [p]) by simpa [subsL] using hL.left) (by simp [subsL];omega) (by simpa [groupsL,Pat.groups] using hg) (by simp))
  obtain ⟨c0,c1,c2,c3,c4,_⟩:=hnb.five
  have HNB:=hide (hnb.below hN1)
  have HL:=hide hL
  have HB:=hide hB
  have HK:=hide hk
  have hbn:b≠w.heap.size:=by omega
  clear hnb hm hL hN1 ih ho hp
  go_enter Tryz.func96,Tryz.ntmps96
  go_wp2_with fail
  generalize hW:w.alloc (.cells #[.nilFunc,.nilFunc] 180)=W1 at HN1 HR1 hs1 HC HNB ⊢
  clear hW c0 c1 c2 c3 c4
  refine HC.out.mono ?_
  rintro e w2 ⟨plo,plc,ys,rfl,ho2,hE2,hT2,hO2,hM2⟩
  have hr2:=HR1.out.off hO2 (by omega)
  have hn2:=HNB.out.off hO2 (by omega)
  obtain ⟨c0,c1,c2,c3,c4,_⟩:=hn2.five
  obtain ⟨f',t',r',rfl,⟨G,tc,rfl⟩,hf',hr'⟩:=hE2
  obtain rfl:r'=[]:=hr'
  obtain ⟨f9,t9,r9,e9,_,_,hTp,_⟩:=hT2
  cases e9
  have HTp:=hide hTp
  clear hTp
  obtain ⟨F,cp,rfl,eg⟩:=EV.form p f' hok hf'
  obtain ⟨pb,pcap,hpl,hpb,hpA,e0,e1⟩:=own_two ho2 (i:=0) (by simp) (f:=.func (.func F) #[] cp) (t:=.func (.func G) #[] tc) rfl
  cases hpl
  simp only [Nat.zero_mul,Nat.zero_add] at e0 e1
  have HEp:=hide hf'
  have HF2:=hide hO2
  have HM2:=hide hM2
  have HR2:=hide hr2
  have hs2:=hO2.size
  have hrl:=hr2.lt
  have hbl2:=hn2.lt
  have hpr:pb≠w.heap.size:=fun e=>by rcases hpA with h | h<;>omega
  have hpm:pb≠bm:=fun e=>by rcases hpA with h | h<;>omega
  have hbr:b≠w.heap.size:=by omega
  have hbmm:b≠bm:=by omega
  have HOFF:Hid (∀ w',Off bm w2 w'->w'.cell? ⟨b,3,none⟩=some (.int .i64 m)/\w'.cell? ⟨b,4,none⟩=some (.int .i64 n)/\w'.cell? ⟨pb,0,none⟩=some (.func (.func F) #[] cp)/\w'.cell? ⟨pb,1,none⟩=some (.func (.func G) #[] tc)):=fun w' h=>⟨(h.cell (p:=⟨b,3,none⟩) hbl2 hbmm).trans c3,(h.cell (p:=⟨b,4,none⟩) hbl2 hbmm).trans c4,(h.cell (p:=⟨pb,0,none⟩) hpb hpm).trans e0,(h.cell (p:=⟨pb,1,none⟩) hpb hpm).trans e1⟩
  have HPUT:Hid (∀ w' f t,Off bm w2 w'->(put2 w' w.heap.size f t).cell? ⟨b,3,none⟩=some (.int .i64 m)/\(put2 w' w.heap.size f t).cell? ⟨b,4,none⟩=some (.int .i64 n)/\(put2 w' w.heap.size f t).cell? ⟨pb,0,none⟩=some (.func (.func F) #[] cp)/\(put2 w' w.heap.size f t).cell? ⟨pb,1,none⟩=some (.func (.func G) #[] tc)):=fun w' f t h=>by
    obtain ⟨a0,a1,a2,a3⟩:=HOFF.out w' h
    refine ⟨?_,?_,?_,?_⟩
    · rw [World.cell?_setCell_far _ _ _ _ (by simp;omega),World.cell?_setCell_far _ _ _ _ (by simp;omega)];exact a0
    · rw [World.cell?_setCell_far _ _ _ _ (by simp;omega),World.cell?_setCell_far _ _ _ _ (by simp;omega)];exact a1
    · rw [World.cell?_setCell_far _ _ _ _ (by simp;omega),World.cell?_setCell_far _ _ _ _ (by simp;omega)];exact a2
    · rw [World.cell?_setCell_far _ _ _ _ (by simp;omega),World.cell?_setCell_far _ _ _ _ (by simp;omega)];exact a3
  clear ho2 hO2 hM2 hr2 hn2 hf'
  go_wp2_with fail
  go_region_held3 (fun w'=>w'.cell? ⟨b,3,none⟩=some (.int .i64 m)/\w'.cell? ⟨b,4,none⟩=some (.int .i64 n)/\w'.cell? ⟨pb,0,none⟩=some (.func (.func F) #[] cp)/\w'.cell? ⟨pb,1,none⟩=some (.func (.func G) #[] tc))
    (first | exact ⟨c3,c4,e0,e1⟩ | exact HS3.out | exact HS4.out | exact HS5.out | exact HS6.out _ _)
    (first
    | (go_at_call 154;refine (mk154 _ _ _ _ _ _ _).mono ?_;rintro e w3 ⟨rfl,hw3⟩;have hb3:Below w2.heap.size w2 w3:=(by rw [hw3];exact (((Below.refl _ w2).drew.alloc (Nat.le_refl _) _).alloc (by simp) _).alloc (by simp;omega) _);have hx0:Blk w3 w2.heap.size [.func (.func F) #[] cp,.func (.func G) #[] tc] 180:=(by rw [hw3];exact ((Blk.new w2.drew [.func (.func F) #[] cp,.func (.func G) #[] tc] 180).alloc _).alloc _);have hx1:Blk w3 (w2.heap.size+1) [.int .i64 m] 3:=(by rw [hw3];have h9:=(Blk.new (w2.drew.alloc (.cells #[.func (.func F) #[] cp,.func (.func G) #[] tc] 180)) [.int .i64 m] 3).alloc (.cells #[.int .i64 n] 3);simpa using h9);have hx2:Blk w3 (w2.heap.size+2) [.int .i64 n] 3:=(by rw [hw3];have h9:=Blk.new ((w2.drew.alloc (.cells #[.func (.func F) #[] cp,.func (.func G) #[] tc] 180)).alloc (.cells #[.int .i64 m] 3)) [.int .i64 n] 3;simpa using h9);have HB3:=hide hb3;have HX0:=hide hx0;have HX1:=hide hx1;have HX2:=hide hx2;have HM3:=hide (HM2.out.below hb3);have HR3:=hide (HR2.out.below hb3);have HO3:Hid (Off bm w2 w3):=Off.below hb3;have HS3:=hide (HOFF.out w3 HO3.out);have hs3:=hb3.size;clear hw3 hb3 hx0 hx1 hx2)
    | (go_at_call 146;refine (mk146 bm (k+(subsL [p]).length) (g+groupsL [p]:Nat) _ _ _ (by simp [subsL];omega) HM3.out).mono ?_;rintro e w4 ⟨rfl,hO4,hM4,hbe4,hbn4⟩;have HO4:=hide hO4;have HM4:=hide hM4;have HE4:=hide hbe4;have HN4:=hide hbn4;have HR4:=hide (HR3.out.off hO4 (by omega));have HO24:=hide (HO3.out.trans hO4);have HS4:=hide (HOFF.out w4 HO24.out);have hs4:=hO4.size;clear hO4 hM4 hbe4 hbn4)
    | (go_at_call 155;refine (mk155 _ _ _ _ _ _ _).mono ?_;rintro e w5 ⟨rfl,hw5⟩;have hb5:Below w4.heap.size w4 w5:=(by rw [hw5];exact (((Below.refl _ w4).alloc (Nat.le_refl _) _).alloc (by simp) _).alloc (by simp;omega) _);have hy0:Blk w5 w4.heap.size [.func (.func F) #[] cp,.func (.func G) #[] tc] 180:=(by rw [hw5];exact ((Blk.new w4 [.func (.func F) #[] cp,.func (.func G) #[] tc] 180).alloc _).alloc _);have hy1:Blk w5 (w4.heap.size+1) [.int .i64 m] 3:=(by rw [hw5];have h9:=(Blk.new (w4.alloc (.cells #[.func (.func F) #[] cp,.func (.func G) #[] tc] 180)) [.int .i64 m] 3).alloc (.cells #[.int .i64 n] 3);simpa using h9);have hy2:Blk w5 (w4.heap.size+2) [.int .i64 n] 3:=(by rw [hw5];have h9:=Blk.new ((w4.alloc (.cells #[.func (.func F) #[] cp,.func (.func G) #[] tc] 180)).alloc (.cells #[.int .i64 m] 3)) [.int .i64 n] 3;simpa using h9);have HY0:=hide hy0;have HY1:=hide hy1;have HY2:=hide hy2;clear hy0 hy1 hy2;have hr5:=HR4.out.below hb5;obtain ⟨q0,q1⟩:=two hr5;have q2:=hr5.frozen 0;have q3:=hr5.frozen 1;have HR5:=hide hr5;have HB5:=hide hb5;have HO25:=hide (HO24.out.trans (Off.below hb5));have HS5:=hide (HOFF.out w5 HO25.out);have HS6:=hide (fun f t=>HPUT.out w5 f t HO25.out);clear hw5 hb5 hr5))
  all_goals go_wp2_with fail
  have hz:=cells_put2 (f:=.func (.func 192) #[] #[Ptr (w3.heap.size+1),Ptr w3.heap.size]) (t:=.func (.func 204) #[] #[Ptr w4.heap.size,Ptr (w4.heap.size+1),Ptr (w4.heap.size+2)]) HR5.out
  have hL1:L[k+(subsL [p]).length]?=some (.many p m n):=by
    have h9:Pre L k (subs p++[.many p m n]):=HL.out
    simpa [subsL] using h9.one
  obtain ⟨hrem,hk2⟩:=rem_built (W1:=W1) (w2:=w2) (r:=w.heap.size) (t:=.func (.func 204) #[] #[Ptr w4.heap.size,Ptr (w4.heap.size+1),Ptr (w4.heap.size+2)]) (Q:=fun e=>∃ b0 b1 b2,e=.func (.func 203) #[] #[Ptr b0,Ptr b1,Ptr b2]/\AB lo B W1 b0/\AB lo B W1 b1/\AB lo B W1 b2/\Blk (put2 w5 w.heap.size (.func (.func 192) #[] #[Ptr (w3.heap.size+1),Ptr w3.heap.size]) (.func (.func 204) #[] #[Ptr w4.heap.size,Ptr (w4.heap.size+1),Ptr (w4.heap.size+2)])) b0 [.int .i64 m] 3/\Blk (put2 w5 w.heap.size (.func (.func 192) #[] #[Ptr (w3.heap.size+1),Ptr w3.heap.size]) (.func (.func 204) #[] #[Ptr w4.heap.size,Ptr (w4.heap.size+1),Ptr (w4.heap.size+2)])) b1 [.func (.func F) #[] cp,.func (.func G) #[] tc] 180/\Blk (put2 w5 w.heap.size (.func (.func 192) #[] #[Ptr (w3.heap.size+1),Ptr w3.heap.size]) (.func (.func 204) #[] #[Ptr w4.heap.size,Ptr (w4.heap.size+1),Ptr (w4.heap.size+2)])) b2 [.int .i64 n] 3) HB.out (by omega) (by omega) (by omega) HB3.out hs2 HO4.out HE4.out HN4.out HB5.out hL1 (by simp [subsL];omega) rfl
    (fun _ k3=>⟨w2.heap.size+1,w2.heap.size,w2.heap.size+2,rfl,.inr (by omega),.inr hs2,.inr (by omega),HX1.out.keep k3 (.inr (by omega)),HX0.out.keep k3 (.inr hs2),HX2.out.keep k3 (.inr (by omega))⟩)
  refine bodyPost_ret (v:=.agg #[.func (.func 192) #[] #[Ptr (w3.heap.size+1),Ptr w3.heap.size],.func (.func 204) #[] #[Ptr w4.heap.size,Ptr (w4.heap.size+1),Ptr (w4.heap.size+2)]]) (by simp [results,Tryz.results96,go_sem,hz.1,hz.2]) rfl ?_
  refine ⟨_,_,_,_,rfl,EV.mono (A:=AB lo B W1) (fun q _ ha=>AB.up (by omega) q ha) (.many p m n) _ ⟨_,_,EV.keep hk2 p _ HEp.out,hrem⟩,TV.mono (A:=AB lo B W1) (fun q _ ha=>AB.up (by omega) q ha) (.many p m n) g _ ⟨_,_,_,_,_,rfl,.inr (by omega),.inr (by omega),.inr (by omega),HY0.out.put2 (by omega) _ _,HY1.out.put2 (by omega) _ _,HY2.out.put2 (by omega) _ _,⟨_,_,rfl⟩,EV.keep hk2 p _ HEp.out,TV.keep hk2 p g _ HTp.out⟩,(((Off.below HN1.out).trans HF2.out).trans (((Off.below HB3.out).trans HO4.out).trans (Off.below HB5.out))).put2 (Nat.le_refl _) _ _,?_⟩
  have:=(HM4.out.below HB5.out).put2 (show bm≠w.heap.size by omega) (.func (.func 192) #[] #[Ptr (w3.heap.size+1),Ptr w3.heap.size]) (.func (.func 204) #[] #[Ptr w4.heap.size,Ptr (w4.heap.size+1),Ptr (w4.heap.size+2)])
  have e8:k+(subs (.many p m n)).length=k+(subsL [p]).length+1:=by simp [subs,subsL];omega
  have e9:g+(Pat.many p m n).groups=g+groupsL [p]:=by simp [groupsL,Pat.groups]
  rw [e8,e9]
  exact this
end Go.Proofs.YtpoibdhhcbelnaaGreatDoor
namespace Go.Proofs.YtpoibdhhcbelnaaGreatDoor
open Go.Shelf Go.RowKit Go.Lib Brm
theorem single_or {p:Pat}{w w':World}{lo B bm k g:Nat}{L:List Pat}{e:Ending}(h:PartQ p lo B bm k g L w e w'):PartQ (.or [p]) lo B bm k g L w e w':=by
  obtain ⟨F,cp,G,tc,rfl,hE,hT,hO,hM⟩:=h
  exact ⟨F,cp,G,tc,rfl,⟨by simp,_,⟨_,_,[],rfl,⟨G,tc,rfl⟩,hE,rfl⟩,.inl ⟨rfl,_,rfl⟩⟩,⟨_,⟨_,_,[],rfl,⟨G,tc,rfl⟩,hE,hT,rfl⟩,.inl ⟨rfl,_,rfl⟩⟩,hO,by simpa [subs,subsL,Pat.groups,groupsL] using hM⟩
theorem single_and {p:Pat}{w w':World}{lo B bm k g:Nat}{L:List Pat}{e:Ending}(h:PartQ p lo B bm k g L w e w'):PartQ (.and [p]) lo B bm k g L w e w':=by
  obtain ⟨F,cp,G,tc,rfl,hE,hT,hO,hM⟩:=h
  exact ⟨F,cp,G,tc,rfl,⟨by simp,_,⟨_,_,[],rfl,⟨G,tc,rfl⟩,hE,rfl⟩,.inl ⟨rfl,_,rfl⟩⟩,⟨_,⟨_,_,[],rfl,⟨G,tc,rfl⟩,hE,hT,rfl⟩,.inl ⟨rfl,_,rfl⟩⟩,hO,by simpa [subs,subsL,Pat.groups,groupsL] using hM⟩
mutual
theorem part_all:∀ (p:Pat),p.Ok->PartOk p
  | .set s,_=>part_set s
  | .row l,h=>by
    have ih:=part_allL l h
    intro lo B bm b k g L w hB hN hm hL hk hg
    obtain ⟨hb,h100,lv,xs,hnb,ho,hP⟩:=hN
    have e8:(subs (.row l)).length=(subsL l).length+1:=by simp [subs]
    refine (part_row l ih lo B bm b k g L w hB hb lv xs hnb ho hP h100 hm hL (by omega) hg).mono ?_
    rintro e w' ⟨F,cp,G,tc,rfl,⟨ys,hE,hR,hTL,hBx⟩,hO,hM⟩
    exact ⟨F,cp,G,tc,rfl,⟨h100,ys,hE,hR⟩,⟨ys,hTL,hBx⟩,hO,by rw [e8];exact hM⟩
  | .or l,h=>by
    have ih:=part_allL l h.1
    intro lo B bm b k g L w hB hN hm hL hk hg
    obtain ⟨h100,xs,hP,⟨h1,rfl⟩ | ⟨hn,hb,lv,hnb,ho⟩⟩:=hN
    · obtain ⟨p,rfl⟩:=List.length_eq_one_iff.1 h1
      obtain ⟨x,r,e,hp,_⟩:=hP
      cases e
      have e8:subs (.or [p])=subs p:=by simp [subs,subsL]
      rw [e8] at hL hk
      exact (ih p (by simp) lo B bm b k g L w hB hp hm hL hk (by simpa [Pat.groups,groupsL] using hg)).mono (fun _ _ h=>single_or h)
    · have e7:subs (.or l)=subsL l++[.or l]:=by simp only [subs,if_neg hn]
      have e8:(subs (.or l)).length=(subsL l).length+1:=by rw [e7];simp
      refine (part_or l ih lo B bm b k g L w hB hb lv xs hnb ho hP h100 hm (by rw [e7] at hL;exact hL) (by omega) hg).mono ?_
      rintro e w' ⟨F,cp,G,tc,rfl,⟨ys,hE,hR,hTL,hBx⟩,hO,hM⟩
      exact ⟨F,cp,G,tc,rfl,⟨h100,ys,hE,.inr ⟨hn,hR⟩⟩,⟨ys,hTL,.inr ⟨hn,hBx⟩⟩,hO,by rw [e8];exact hM⟩
  | .and l,h=>by
    have ih:=part_allL l h.1
    intro lo B bm b k g L w hB hN hm hL hk hg
    obtain ⟨h100,xs,hP,⟨h1,rfl⟩ | ⟨hn,hb,lv,hnb,ho⟩⟩:=hN
    · obtain ⟨p,rfl⟩:=List.length_eq_one_iff.1 h1
      obtain ⟨x,r,e,hp,_⟩:=hP
      cases e
      have e8:subs (.and [p])=subs p:=by simp [subs,subsL]
      rw [e8] at hL hk
      exact (ih p (by simp) lo B bm b k g L w hB hp hm hL hk (by simpa [Pat.groups,groupsL] using hg)).mono (fun _ _ h=>single_and h)
    · have e7:subs (.and l)=subsL l++[.and l]:=by simp only [subs,if_neg hn]
      have e8:(subs (.and l)).length=(subsL l).length+1:=by rw [e7];simp
      refine (part_and l ih lo B bm b k g L w hB hb lv xs hnb ho hP h100 hm (by rw [e7] at hL;exact hL) (by omega) hg).mono ?_
      rintro e w' ⟨F,cp,G,tc,rfl,⟨ys,hE,hR,hTL,hBx⟩,hO,hM⟩
      exact ⟨F,cp,G,tc,rfl,⟨h100,ys,hE,.inr ⟨hn,hR⟩⟩,⟨ys,hTL,.inr ⟨hn,hBx⟩⟩,hO,by rw [e8];exact hM⟩
  | .not p,h=>part_not p h (part_all p h)
  | .many p m n,h=>part_many p m n h.1 (part_all p h.1)
  | .group p,h=>part_group p (part_all p h)
theorem part_allL:∀ (l:List Pat),OkL l->∀ p∈l,PartOk p
  | [],_=>fun p h=>by cases h
  | q::l,hk=>by
    have hq:=part_all q hk.1
    have hl:=part_allL l hk.2
    intro p h
    rcases List.mem_cons.1 h with rfl | h
    · exact hq
    · exact hl p h
end
theorem readR_few {bs:List UInt8}{er place:Int}{p:Pat}(h:ReadR bs (er,place,some p)):(subs p).length<=1000/\p.groups<=1000:=by
  rcases h with ⟨_,h⟩ | ⟨_,_,_,h⟩ | ⟨h60,l,hl,h⟩
  · cases h
  · cases h
  · have hlen:=runes_len hl
    unfold outcome at h
    have h1:=orN_cnt false (l.length+1) l
    have h2:=orN_grp false (l.length+1) l
    split at h
    · cases h
    · cases h
    · rename_i q heq
      rw [heq] at h1 h2
      split at h
      · cases h
      · cases h
        have h1':(subs p).length+3*0<=1+3*l.length:=h1
        have h2':p.groups+3*0<=1+3*l.length:=h2
        omega
set_option maxRecDepth 100000 in
set_option maxHeartbeats 4000000 in
theorem mnew_any (p:Pat)(hok:p.Ok)(lo b:Nat)(w:World)(hlo:lo<=w.heap.size)(hN:PN w (fun x=>lo<=x) p b)(hc:(subs p).length<=1000)(hg:p.groups<=1000):Calls Tryz.prog 50 #[.pointer (some ⟨b,0,none⟩)] w fun e w'=>∃ bp,e=.returned (Ptr bp)/\PT w' (fun x=>lo<=x) p bp/\Below w.heap.size w w'/\w.heap.size<=bp/\PK w' (fun x=>lo<=x) p bp:=by
  have hN1:Below w.heap.size w (w.alloc (.cells #[.int .i64 0,.int .i64 0] 174)):=(Below.refl _ _).alloc (Nat.le_refl _) _
  have hm1:Mkr (w.alloc (.cells #[.int .i64 0,.int .i64 0] 174)) w.heap.size 0 0:=Blk.new w [.int .i64 0,.int .i64 0] 174
  have HC:=hide (part_all p hok lo w.heap.size w.heap.size b 0 0 (subs p) (w.alloc (.cells #[.int .i64 0,.int .i64 0] 174)) (Nat.le_refl _) (PN.keep (Keeps.below hN1) p b (PN.mono (fun q hq h=>⟨h,hq⟩) p b hN)) hm1 (fun i q hi=>by simpa using hi) (by omega) (by omega))
  have HN1:=hide hN1
  have HCN:=hide hc
  have HGN:=hide hg
  clear hN hN1 hm1 hc hg
  go_enter Tryz.func50,Tryz.ntmps50
  go_wp2_with fail
  generalize hW:w.alloc (.cells #[.int .i64 0,.int .i64 0] 174)=W1 at HC HN1 ⊢
  clear hW
  refine HC.out.mono ?_
  rintro e w3 ⟨F,cp,G,tc,rfl,hE3,hT3,hO3,hM3⟩
  have HT3:=hide hT3
  simp only [Nat.zero_add] at hM3
  obtain ⟨m0,m1⟩:=two hM3
  have hml:=hM3.lt
  have hne:w.heap.size≠w3.heap.size:=by omega
  have HE3:=hide hE3
  have HO3:=hide hO3
  have hs3:=hO3.size
  have hs1:=HN1.out.size
  have x0:(w3.alloc (.cells #[.func (.func F) #[] cp,.func (.func G) #[] tc] 180)).cell? ⟨w3.heap.size,0,none⟩=some (.func (.func F) #[] cp):=(two (Blk.new w3 [.func (.func F) #[] cp,.func (.func G) #[] tc] 180)).1
  have x1:(w3.alloc (.cells #[.func (.func F) #[] cp,.func (.func G) #[] tc] 180)).cell? ⟨w3.heap.size,1,none⟩=some (.func (.func G) #[] tc):=(two (Blk.new w3 [.func (.func F) #[] cp,.func (.func G) #[] tc] 180)).2
  have hN4:Below w3.heap.size w3 (w3.alloc (.cells #[.func (.func F) #[] cp,.func (.func G) #[] tc] 180)):=(Below.refl _ _).alloc (Nat.le_refl _) _
  have y0:=(hN4.cell (p:=⟨w.heap.size,0,none⟩) hml).trans m0
  have y1:=(hN4.cell (p:=⟨w.heap.size,1,none⟩) hml).trans m1
  have HN4:=hide hN4
  clear hE3 hT3 hO3 hM3 hN4
  go_wp2_with fail
  generalize hW:w3.alloc (.cells #[.func (.func F) #[] cp,.func (.func G) #[] tc] 180)=W4 at x0 x1 y0 y1 HN4 ⊢
  clear hW m0 m1
  have hs4:=HN4.out.size
  try go_region
  try go_wp2_with fail
  go_ret
  have hN5:Below W4.heap.size W4 (W4.drew.alloc (.cells #[.func (.func F) #[] cp,.func (.func G) #[] tc,.int .i64 (subs p).length,.int .i64 p.groups] 183)):=(Below.refl _ W4).drew.alloc (Nat.le_refl _) _
  have hE9:EV (W4.drew.alloc (.cells #[.func (.func F) #[] cp,.func (.func G) #[] tc,.int .i64 (subs p).length,.int .i64 p.groups] 183)) (fun x=>lo<=x) (subs p) p (.func (.func F) #[] cp):=EV.mono (fun q _ ha=>by rcases ha with ha | ha;exact ha.1;show lo<=q;omega) p _ (EV.keep ((Keeps.below HN4.out).trans (Keeps.below hN5)) p _ HE3.out)
  have hT9:TV (W4.drew.alloc (.cells #[.func (.func F) #[] cp,.func (.func G) #[] tc,.int .i64 (subs p).length,.int .i64 p.groups] 183)) (fun x=>lo<=x) (subs p) p 0 (.func (.func G) #[] tc):=TV.mono (fun q _ ha=>by rcases ha with ha | ha;exact ha.1;show lo<=q;omega) p _ _ (TV.keep ((Keeps.below HN4.out).trans (Keeps.below hN5)) p _ _ HT3.out)
  exact ⟨W4.heap.size,rfl,⟨by show lo<=_;omega,_,_,_,Blk.new W4.drew [.func (.func F) #[] cp,.func (.func G) #[] tc,.int .i64 (subs p).length,.int .i64 p.groups] 183,hE9,HCN.out⟩,(HN1.out.trans (HO3.out.toBelow (Nat.le_refl _) hs1)).trans ((HN4.out.mono (by omega)).trans (hN5.mono (by omega))),by omega,⟨by show lo<=_;omega,_,_,Blk.new W4.drew [.func (.func F) #[] cp,.func (.func G) #[] tc,.int .i64 (subs p).length,.int .i64 p.groups] 183,⟨_,_,rfl⟩,hE9,hT9,HCN.out,HGN.out⟩⟩
end Go.Proofs.YtpoibdhhcbelnaaGreatDoor
