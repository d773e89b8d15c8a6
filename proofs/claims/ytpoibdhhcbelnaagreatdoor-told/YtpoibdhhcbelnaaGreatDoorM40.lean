/- Walks and plain laws, some texts in one. -/
import Derived.Test.YtpoibdhhcbelnaaGreatDoorM39
import Derived.Test.YtpoibdhhcbelnaaGreatDoorM19
import Derived.Test.YtpoibdhhcbelnaaGreatDoorM29
import Derived.Test.YtpoibdhhcbelnaaGreatDoorM20
namespace Go.Proofs.YtpoibdhhcbelnaaGreatDoor
open Go.Shelf Go.RowKit Go.Lib Go.Sort Brm
def costM (A:Me):Nat:=(A.p+4)*(A.y-1)+2
def BehOk (i:Nat):Prop:=∀ (w:World) (c:MC) (q:Nat) (r:Int) (k b:Nat),MkI w c q->i<c.T.length->PowT w->runeB r=true->w.cell? ⟨c.R i,4,none⟩=some (.func (.func 220) #[] #[PtrB k,PtrB b])->q+costM (sz c.T i)<=9000000000000000000->(derM (sz c.T i)).z<=3000000000000 ->
  Calls Tryz.prog 220 #[.int .i64 r,PtrB k,PtrB b] w (GivesL w c (q+costM (sz c.T i)) (der (lg c.T i) r) (derM (sz c.T i)))
abbrev SameH (V w:World):Prop:=V.heap=w.heap/\V.os=w.os/\V.tape=w.tape/\V.output=w.output
theorem SameH.below {V w:World}(h:SameH V w):Below w.heap.size w V:=⟨h.2.1,h.2.2.1,h.2.2.2,by rw [h.1];exact Nat.le_refl _,fun k _=>by rw [h.1]⟩
theorem SameH.cell {V w:World}(h:SameH V w)(p:Addr):V.cell? p=w.cell? p:=World.cell?_of_block (w:=w) (by rw [h.1])
theorem Gone.cellS {V w w':World}{c c':MC}(hV:SameH V w)(hG:Gone V c w' c'){p:Addr}(hp:p.block<w.heap.size)(hn:¬ c.S p.block):w'.cell? p=w.cell? p:=(hG.but.cell (p:=p) (by rw [hV.1];exact hp) hn).trans (hV.cell p)
theorem mk_beh {w:World}{c:MC}{q i:Nat}(h:MkI w c q)(hi:i<c.T.length):∃ k b,w.cell? ⟨c.R i,4,none⟩=some (.func (.func 220) #[] #[PtrB k,PtrB b])/\c.R i<w.heap.size/\¬ c.S (c.R i):=by
  obtain ⟨e,he⟩:∃ e,c.T[i]?=some e:=⟨_,List.getElem?_eq_getElem hi⟩
  obtain ⟨pa,pc,en,k0,b,F,cp,h1,h2,h3,n0,_⟩:=h.rest i e he
  exact ⟨k0,b,Blk.cell h1 4,Blk.lt h1,n0⟩
set_option maxRecDepth 100000 in
set_option maxHeartbeats 4000000 in
theorem beh_empty {w:World}{c:MC}{q b1:Nat}{r:Int}(hI:MkI w c q)(k1:Blk w b1 [PtrB c.m] 151):Calls Tryz.prog 130 #[.int .i64 r,PtrB b1] w (GivesL w c q noneL oneM):=by
  have y1:w.cell? ⟨b1,0,none⟩=some (PtrB c.m):=k1.cell 0
  have hbl:=k1.lt
  have c4:w.cell? ⟨c.m,1,none⟩=some (PtrB (c.R 0)):=hI.mb.cell 1
  have hml:=hI.mb.lt
  have HG:Hid (GivesL w c q noneL oneM (.returned (PtrB (c.R 0))) w):=⟨c,0,rfl,hI,Gone.refl _ _,(List.getElem?_eq_some_iff.1 hI.t0).1,hI.none,by rw [hI.sz0];exact Me.refl _⟩
  clear hI k1
  go_enter Tryz.func130,Tryz.ntmps130
  go_wp2_with fail
  go_ret
  exact HG.out
theorem der_set {s:List (Int×Int)}{r:Int}{L:Nat->Lg}:der ((RE.set s).lang L) r=if memB s r=true then emptyL else noneL:=by
  funext u
  show (∃ c,r::u=[c]/\memB s c=true)=_
  by_cases h:memB s r=true
  · rw [if_pos h]
    refine propext ⟨?_,?_⟩
    · rintro ⟨c,e,_⟩;injection e with e1 e2
    · rintro rfl;exact ⟨r,rfl,h⟩
  · rw [if_neg h]
    refine propext ⟨?_,fun h=>h.elim⟩
    rintro ⟨c,e,h2⟩
    injection e with e1 e2
    subst e1
    exact h h2
set_option maxRecDepth 100000 in
set_option maxHeartbeats 4000000 in
theorem beh_set {w:World}{c:MC}{q b1 b2 lc:Nat}{la:Option Addr}{s:List (Int×Int)}{r:Int}(hI:MkI w c q)(hr:runeB r=true)(k1:Blk w b1 [.slice la s.length lc] 29)(k2:Blk w b2 [PtrB c.m] 151)(hs:Rd w la s)(hl:s.length<=1200000){L:Lg}(hL:L=if memB s r=true then emptyL else noneL) :
    Calls Tryz.prog 184 #[.int .i64 r,PtrB b1,PtrB b2] w (GivesL w c q L oneM):=by
  have y1:w.cell? ⟨b1,0,none⟩=some (.slice la s.length lc):=k1.cell 0
  have y2:w.cell? ⟨b2,0,none⟩=some (PtrB c.m):=k2.cell 0
  have hbl1:=k1.lt
  have hbl2:=k2.lt
  have HHAS:=hide (has_any la s lc r w hs hl)
  rw [hr,Bool.true_and] at HHAS
  have H1:Hid (∀ w',Below w.heap.size w w'->w'.cell? ⟨b2,0,none⟩=some (PtrB c.m)/\w'.cell? ⟨c.m,1,none⟩=some (PtrB (c.R 0))/\w'.cell? ⟨c.m,2,none⟩=some (PtrB (c.R 1))/\b2<w'.heap.size/\c.m<w'.heap.size):=fun w' hb=>⟨(k2.below hb).cell 0,(hI.mb.below hb).cell 1,(hI.mb.below hb).cell 2,(k2.below hb).lt,(hI.mb.below hb).lt⟩
  have HG0:Hid (memB s r=false->∀ w',Below w.heap.size w w'->GivesL w c q L oneM (.returned (PtrB (c.R 0))) w'):=fun hm w' hb=>⟨c,0,rfl,hI.below hb,Gone.below hb,(List.getElem?_eq_some_iff.1 hI.t0).1,by rw [hL,hm];exact hI.none,by rw [hI.sz0];exact Me.refl _⟩
  have HG1:Hid (memB s r=true->∀ w',Below w.heap.size w w'->GivesL w c q L oneM (.returned (PtrB (c.R 1))) w'):=fun hm w' hb=>⟨c,1,rfl,hI.below hb,Gone.below hb,(List.getElem?_eq_some_iff.1 hI.t1).1,by rw [hL,hm];exact hI.emp,by rw [hI.sz1];exact Me.refl _⟩
  generalize hm:memB s r=m at *
  clear hI k1 k2 hs hr hm hL
  go_enter Tryz.func184,Tryz.ntmps184
  go_wp2_with fail
  refine HHAS.out.mono ?_
  rintro e w5 ⟨rfl,hb5⟩
  obtain ⟨z2,z3,z4,z5,z6⟩:=H1.out w5 hb5
  cases m with
  | true =>
    have HG:=hide (HG1.out rfl w5 hb5)
    clear hb5
    go_wp2_with fail
    go_ret
    exact HG.out
  | false =>
    have HG:=hide (HG0.out rfl w5 hb5)
    clear hb5
    go_wp2_with fail
    go_ret
    exact HG.out
set_option maxRecDepth 100000 in
set_option maxHeartbeats 4000000 in
theorem beh_not {w:World}{c:MC}{q a b1 b2:Nat}{r:Int}(ih:BehOk a)(hI:MkI w c q)(ha:a<c.T.length)(hP:PowT w)(hr:runeB r=true)(n1:¬ c.S b1)(n2:¬ c.S b2)(k1:Blk w b1 [PtrB c.m] 151)(k2:Blk w b2 [PtrB (c.R a)] 159)(hq:q+costM (sz c.T a)+1<=9000000000000000000)(hz:(derM (sz c.T a)).z<=3000000000000) :
    Calls Tryz.prog 188 #[.int .i64 r,PtrB b1,PtrB b2] w (GivesL w c (q+costM (sz c.T a)+1) (notL (der (lg c.T a) r)) (notM (derM (sz c.T a)))):=by
  obtain ⟨ka,ba,y4,hal,haS⟩:=mk_beh hI ha
  have y1:w.cell? ⟨b1,0,none⟩=some (PtrB c.m):=k1.cell 0
  have y2:w.cell? ⟨b2,0,none⟩=some (PtrB (c.R a)):=k2.cell 0
  have hbl1:=k1.lt
  have hbl2:=k2.lt
  have HC1:Hid (∀ V:World,SameH V w->Calls Tryz.prog 220 #[.int .i64 r,PtrB ka,PtrB ba] V (GivesL V c (q+costM (sz c.T a)) (der (lg c.T a) r) (derM (sz c.T a)))):=fun V hV=>ih V c q r ka ba (hI.below hV.below) ha (hP.below hV.below) hr ((hV.cell _).trans y4) (by omega) hz
  have HC2:Hid (∀ (V w5:World) (c5:MC) (j5:Nat),SameH V w->MkI w5 c5 (q+costM (sz c.T a))->Gone V c w5 c5->j5<c5.T.length->lg c5.T j5=der (lg c.T a) r->sz c5.T j5<=derM (sz c.T a) ->
      Calls Tryz.prog 140 #[PtrB c.m,PtrB (c5.R j5)] w5 (fun r9 w6=>GivesL w c (q+costM (sz c.T a)+1) (notL (der (lg c.T a) r)) (notM (derM (sz c.T a))) r9 w6/\∃ c6,Gone V c w6 c6)):=fun V w5 c5 j5 hV hI5 hG5 hj5 hL5 hZ5=>by
    have hP5:PowT w5:=hG5.pow (hI.below hV.below) (hP.below hV.below)
    have hc:=mknot_any hI5 (by omega) hj5 hP5
    rw [hG5.m] at hc
    refine hc.mono ?_
    rintro r9 w6 ⟨c6,j6,rfl,hI6,hG6,hj6,hL6,hZ6⟩
    exact ⟨⟨c6,j6,rfl,hI6,(Gone.below hV.below).trans (hG5.trans hG6),hj6,by rw [hL6,hL5],Me.trans hZ6 (notM_mono hZ5)⟩,c6,hG5.trans hG6⟩
  have HH5:Hid (∀ (V w':World) (c':MC),SameH V w->Gone V c w' c'->w'.cell? ⟨b1,0,none⟩=some (PtrB c.m)/\w'.cell? ⟨b2,0,none⟩=some (PtrB (c.R a))/\w'.cell? ⟨c.R a,4,none⟩=some (.func (.func 220) #[] #[PtrB ka,PtrB ba])):=fun V w' c' hV hG =>
    ⟨(hG.cellS hV (p:=⟨b1,0,none⟩) hbl1 n1).trans y1,(hG.cellS hV (p:=⟨b2,0,none⟩) hbl2 n2).trans y2,(hG.cellS hV (p:=⟨c.R a,4,none⟩) hal haS).trans y4⟩
  have HH0:Hid (∀ V:World,SameH V w->V.cell? ⟨b1,0,none⟩=some (PtrB c.m)/\V.cell? ⟨b2,0,none⟩=some (PtrB (c.R a))/\V.cell? ⟨c.R a,4,none⟩=some (.func (.func 220) #[] #[PtrB ka,PtrB ba])):=fun V hV=>HH5.out V V c hV (Gone.refl _ _)
  clear hI k1 k2 n1 n2 hP ih hq hz haS hr
  go_enter Tryz.func188,Tryz.ntmps188
  go_wp2_with fail
  go_region_held3 (fun w'=>w'.cell? ⟨b1,0,none⟩=some (PtrB c.m)/\w'.cell? ⟨b2,0,none⟩=some (PtrB (c.R a))/\w'.cell? ⟨c.R a,4,none⟩=some (.func (.func 220) #[] #[PtrB ka,PtrB ba]))
    (first | exact HH0.out _ ⟨rfl,rfl,rfl,rfl⟩ | exact hh5 | exact hh6)
    (first
      | (go_at_call 140;refine HC5.out.mono ?_;rintro r9 w6 ⟨h6,c7,hG7⟩;have H6:=hide h6;have hh6:=HH5.out (w.drewN _) w6 c7 ⟨rfl,rfl,rfl,rfl⟩ hG7;obtain ⟨c6,j6,rfl,h7⟩:=h6;clear h7 hG7)
      | (go_at_call 220;refine (HC1.out (w.drewN _) ⟨rfl,rfl,rfl,rfl⟩).mono ?_;rintro r9 w5 ⟨c5,j5,rfl,hI5,hG5,hj5,hL5,hZ5⟩;have hh5:=HH5.out (w.drewN _) w5 c5 ⟨rfl,rfl,rfl,rfl⟩ hG5;have HC5:=hide (HC2.out (w.drewN _) w5 c5 j5 ⟨rfl,rfl,rfl,rfl⟩ hI5 hG5 hj5 hL5 hZ5);clear hI5 hG5 hj5 hL5 hZ5))
  all_goals (go_wp2_with fail;go_ret;exact H6.out)
end Go.Proofs.YtpoibdhhcbelnaaGreatDoor
namespace Go.Proofs.YtpoibdhhcbelnaaGreatDoor
open Go.Shelf Go.RowKit Go.Lib Go.Sort Brm
theorem cell_al {W:World}{p:Addr}(o:Obj){v:Value}(h:W.cell? p=some v):(W.alloc o).cell? p=some v:=by
  have hlt:p.block<W.heap.size:=by
    rcases Nat.lt_or_ge p.block W.heap.size with h' | h'
    · exact h'
    · simp [World.cell?,Array.getElem?_eq_none h'] at h
  rw [<- h]
  exact World.cell?_of_block (w:=W) (Below.heap_alloc _ _ _ hlt)
theorem two_parts (W:World)(S:Nat->Prop)(R:Nat->Nat)(x y:Nat)(hS:¬ S W.heap.size):PartsAt (W.alloc (.cells #[PtrB (R x),PtrB (R y)] 159)) S R (some ⟨W.heap.size,0,none⟩) [x,y]:=by
  have hb:=Blk.new W [PtrB (R x),PtrB (R y)] 159
  intro j p hj
  match j,hj with
  | 0,hj=>simp at hj;subst hj;exact ⟨_,0,rfl,hb.lt,hS,hb.cell 0⟩
  | 1,hj=>simp at hj;subst hj;exact ⟨_,0,rfl,hb.lt,hS,hb.cell 1⟩
theorem orM_two (f:Nat->Me)(x y:Nat):orM f [x,y]=⟨max 1 (max (f x).n (f y).n),max 1 (max (f x).p (f y).p),max 1 ((f x).y+(f y).y),max 1 ((f x).z+(f y).z)⟩:=by
  simp only [orM,maxL,sumL,Me.mk.injEq]
  refine ⟨?_,?_,?_,?_⟩<;>omega
set_option maxRecDepth 100000 in
set_option maxHeartbeats 8000000 in
theorem beh_pair {w:World}{c:MC}{q a b b1 b2 b3:Nat}{r:Int}(iha:BehOk a)(ihb:BehOk b)(hI:MkI w c q)(ha:a<c.T.length)(hb:b<c.T.length)(hP:PowT w)(hr:runeB r=true)(n1:¬ c.S b1)(n2:¬ c.S b2)(n3:¬ c.S b3)(k1:Blk w b1 [PtrB c.m] 151)(k2:Blk w b2 [PtrB (c.R a)] 159)(k3:Blk w b3 [PtrB (c.R b)] 159)(hq:q+costM (sz c.T a)+(sz c.T a).p+costM (sz c.T b)+1<=9000000000000000000)(hz:(derM (pairM (sz c.T a) (sz c.T b))).z<=3000000000000) :
    Calls Tryz.prog 236 #[.int .i64 r,PtrB b1,PtrB b2,PtrB b3] w (GivesL w c (q+costM (sz c.T a)+(sz c.T a).p+costM (sz c.T b)+1) (der (pairL (lg c.T a) (lg c.T b)) r) (derM (pairM (sz c.T a) (sz c.T b)))):=by
  obtain ⟨ka,ba,y4,hal,haS⟩:=mk_beh hI ha
  obtain ⟨kb,bb,y5,hbl,hbS⟩:=mk_beh hI hb
  obtain ⟨ea,hea⟩:∃ e,c.T[a]?=some e:=⟨_,List.getElem?_eq_getElem ha⟩
  obtain ⟨paa,pca,ena,fva,hRa,hena,_⟩:=hI.look hea
  have y6:w.cell? ⟨c.R a,3,none⟩=some (.bool ena):=Blk.cell hRa 3
  have y1:w.cell? ⟨b1,0,none⟩=some (PtrB c.m):=k1.cell 0
  have y2:w.cell? ⟨b2,0,none⟩=some (PtrB (c.R a)):=k2.cell 0
  have y3:w.cell? ⟨b3,0,none⟩=some (PtrB (c.R b)):=k3.cell 0
  have hbl1:=k1.lt
  have hbl2:=k2.lt
  have hbl3:=k3.lt
  have oa:=hI.sz_one ha
  have ob:=hI.sz_one hb
  have hzt:(derM (sz c.T a)).z+(sz c.T b).z+(derM (sz c.T b)).z<=3000000000000:=by
    have t2:=tri_add (sz c.T a).z (sz c.T b).z
    have m2:(sz c.T b).z<=(sz c.T a).z*(sz c.T b).z:=Nat.le_mul_of_pos_left _ oa.2.2.2
    simp only [derM,pairM] at hz ⊢
    omega
  have HC1:Hid (∀ V:World,SameH V w->Calls Tryz.prog 220 #[.int .i64 r,PtrB ka,PtrB ba] V (GivesL V c (q+costM (sz c.T a)) (der (lg c.T a) r) (derM (sz c.T a)))):=fun V hV=>iha V c q r ka ba (hI.below hV.below) ha (hP.below hV.below) hr ((hV.cell _).trans y4) (by omega) (by omega)
  have HC2:Hid (∀ (V w5:World) (c5:MC) (j5:Nat),SameH V w->MkI w5 c5 (q+costM (sz c.T a))->Gone V c w5 c5->j5<c5.T.length->lg c5.T j5=der (lg c.T a) r->sz c5.T j5<=derM (sz c.T a) ->
      Calls Tryz.prog 187 #[PtrB c.m,PtrB (c5.R j5),PtrB (c.R b)] w5 (fun r9 w6=>GivesL w c (q+costM (sz c.T a)+(sz c.T a).p) (pairL (der (lg c.T a) r) (lg c.T b)) (pairM (derM (sz c.T a)) (sz c.T b)) r9 w6/\∃ c6,Gone V c w6 c6)):=fun V w5 c5 j5 hV hI5 hG5 hj5 hL5 hZ5=>by
    have hP5:PowT w5:=hG5.pow (hI.below hV.below) (hP.below hV.below)
    have hn5:(sz c5.T j5).n<=(sz c.T a).p:=hZ5.1
    have hlen:=hG5.len
    have hc:=pair_all j5 w5 c5 (q+costM (sz c.T a)) b hI5 hj5 (by omega) hP5 (by omega)
    rw [hG5.m,hG5.R b hb,hG5.sz hb,hG5.lang hb] at hc
    refine hc.mono ?_
    rintro r9 w6 ⟨c6,j6,rfl,hI6,hG6,hj6,hL6,hZ6⟩
    exact ⟨⟨c6,j6,rfl,hI6.more (by omega),(Gone.below hV.below).trans (hG5.trans hG6),hj6,by rw [hL6,hL5],Me.trans hZ6 (pairM_mono hZ5 (Me.refl _))⟩,c6,hG5.trans hG6⟩
  have HH5:Hid (∀ (V w':World) (c':MC),SameH V w->Gone V c w' c'->w'.cell? ⟨b1,0,none⟩=some (PtrB c.m)/\w'.cell? ⟨b2,0,none⟩=some (PtrB (c.R a))/\w'.cell? ⟨b3,0,none⟩=some (PtrB (c.R b))/\w'.cell? ⟨c.R a,4,none⟩=some (.func (.func 220) #[] #[PtrB ka,PtrB ba])/\w'.cell? ⟨c.R a,3,none⟩=some (.bool ena)/\w'.cell? ⟨c.R b,4,none⟩=some (.func (.func 220) #[] #[PtrB kb,PtrB bb])):=fun V w' c' hV hG =>
    ⟨(hG.cellS hV (p:=⟨b1,0,none⟩) hbl1 n1).trans y1,(hG.cellS hV (p:=⟨b2,0,none⟩) hbl2 n2).trans y2,(hG.cellS hV (p:=⟨b3,0,none⟩) hbl3 n3).trans y3,(hG.cellS hV (p:=⟨c.R a,4,none⟩) hal haS).trans y4,(hG.cellS hV (p:=⟨c.R a,3,none⟩) hal haS).trans y6,(hG.cellS hV (p:=⟨c.R b,4,none⟩) hbl hbS).trans y5⟩
  have HH0:Hid (∀ V:World,SameH V w->V.cell? ⟨b1,0,none⟩=some (PtrB c.m)/\V.cell? ⟨b2,0,none⟩=some (PtrB (c.R a))/\V.cell? ⟨b3,0,none⟩=some (PtrB (c.R b))/\V.cell? ⟨c.R a,4,none⟩=some (.func (.func 220) #[] #[PtrB ka,PtrB ba])/\V.cell? ⟨c.R a,3,none⟩=some (.bool ena)/\V.cell? ⟨c.R b,4,none⟩=some (.func (.func 220) #[] #[PtrB kb,PtrB bb])):=fun V hV=>HH5.out V V c hV (Gone.refl _ _)
  have HENA:=hide hena
  have HEND:Hid (∀ r9 w9,ena=false->GivesL w c (q+costM (sz c.T a)+(sz c.T a).p) (pairL (der (lg c.T a) r) (lg c.T b)) (pairM (derM (sz c.T a)) (sz c.T b)) r9 w9->GivesL w c (q+costM (sz c.T a)+(sz c.T a).p+costM (sz c.T b)+1) (der (pairL (lg c.T a) (lg c.T b)) r) (derM (pairM (sz c.T a) (sz c.T b))) r9 w9):=fun r9 w9 he h=>by
    obtain ⟨c9,j9,h1,h2,h3,h4,h5,h6⟩:=h
    refine ⟨c9,j9,h1,h2.more (by omega),h3,h4,?_,?_⟩
    · rw [h5,der_pair,if_neg (fun h=>by have:=hena.2 h;rw [he] at this;cases this)]
    · refine Me.trans h6 ?_
      have:=der_pairM oa ob (X:=pairM (derM (sz c.T a)) (sz c.T b)) (Y:=⟨0,0,0,0⟩) (Me.refl _) ⟨Nat.zero_le _,Nat.zero_le _,Nat.zero_le _,Nat.zero_le _⟩
      refine Me.trans ⟨?_,?_,?_,?_⟩ this<;>simp only<;>omega
  have HSEC:Hid (∀ (w6:World) (c6:MC) (j6:Nat),ena=true->MkI w6 c6 (q+costM (sz c.T a)+(sz c.T a).p)->Gone w c w6 c6->j6<c6.T.length->lg c6.T j6=pairL (der (lg c.T a) r) (lg c.T b)->sz c6.T j6<=pairM (derM (sz c.T a)) (sz c.T b) ->
      (∀ V:World,SameH V w6->Calls Tryz.prog 220 #[.int .i64 r,PtrB kb,PtrB bb] V (GivesL V c6 (q+costM (sz c.T a)+(sz c.T a).p+costM (sz c.T b)) (der (lg c.T b) r) (derM (sz c.T b)))) /\
      (∀ (V w7:World) (c7:MC) (j7:Nat),SameH V w6->MkI w7 c7 (q+costM (sz c.T a)+(sz c.T a).p+costM (sz c.T b))->Gone V c6 w7 c7->j7<c7.T.length->lg c7.T j7=der (lg c.T b) r->sz c7.T j7<=derM (sz c.T b) ->
        Calls Tryz.prog 128 #[PtrB c.m,.slice (some ⟨w7.heap.size,0,none⟩) 2 2] (w7.alloc (.cells #[PtrB (c6.R j6),PtrB (c7.R j7)] 159)) (fun r9 w'=>GivesL w c (q+costM (sz c.T a)+(sz c.T a).p+costM (sz c.T b)+1) (der (pairL (lg c.T a) (lg c.T b)) r) (derM (pairM (sz c.T a) (sz c.T b))) r9 w'/\(w'.cell? ⟨b1,0,none⟩=some (PtrB c.m)/\w'.cell? ⟨b2,0,none⟩=some (PtrB (c.R a))/\w'.cell? ⟨b3,0,none⟩=some (PtrB (c.R b))/\w'.cell? ⟨c.R a,4,none⟩=some (.func (.func 220) #[] #[PtrB ka,PtrB ba])/\w'.cell? ⟨c.R a,3,none⟩=some (.bool ena)/\w'.cell? ⟨c.R b,4,none⟩=some (.func (.func 220) #[] #[PtrB kb,PtrB bb])))) /\
      (∀ (V w':World) (c':MC),SameH V w6->Gone V c6 w' c'->w'.cell? ⟨b1,0,none⟩=some (PtrB c.m)/\w'.cell? ⟨b2,0,none⟩=some (PtrB (c.R a))/\w'.cell? ⟨b3,0,none⟩=some (PtrB (c.R b))/\w'.cell? ⟨c.R a,4,none⟩=some (.func (.func 220) #[] #[PtrB ka,PtrB ba])/\w'.cell? ⟨c.R a,3,none⟩=some (.bool ena)/\w'.cell? ⟨c.R b,4,none⟩=some (.func (.func 220) #[] #[PtrB kb,PtrB bb]))):=fun w6 c6 j6 he hI6 hG6 hj6 hL6 hZ6=>by
    have hP6:PowT w6:=hG6.pow hI hP
    have hl6:=hG6.len
    have hcell:∀ (V w':World) (c':MC),SameH V w6->Gone V c6 w' c'->w'.cell? ⟨b1,0,none⟩=some (PtrB c.m)/\w'.cell? ⟨b2,0,none⟩=some (PtrB (c.R a))/\w'.cell? ⟨b3,0,none⟩=some (PtrB (c.R b))/\w'.cell? ⟨c.R a,4,none⟩=some (.func (.func 220) #[] #[PtrB ka,PtrB ba])/\w'.cell? ⟨c.R a,3,none⟩=some (.bool ena)/\w'.cell? ⟨c.R b,4,none⟩=some (.func (.func 220) #[] #[PtrB kb,PtrB bb]):=fun V w' c' hV hG=>HH5.out w w' c' ⟨rfl,rfl,rfl,rfl⟩ (hG6.trans ((Gone.below hV.below).trans hG))
    have hy5:=(hcell w6 w6 c6 ⟨rfl,rfl,rfl,rfl⟩ (Gone.refl _ _)).2.2.2.2.2
    refine ⟨fun V hV=>?_,fun V w7 c7 j7 hV hI7 hG7 hj7 hL7 hZ7=>?_,hcell⟩
    · have:=ihb V c6 (q+costM (sz c.T a)+(sz c.T a).p) r kb bb (hI6.below hV.below) (by omega) (hP6.below hV.below) hr (by rw [hG6.R b hb];exact (hV.cell _).trans hy5) (by rw [hG6.sz hb];omega) (by rw [hG6.sz hb];omega)
      rw [hG6.sz hb,hG6.lang hb] at this
      exact this
    · have hP7:PowT w7:=hG7.pow (hI6.below hV.below) (hP6.below hV.below)
      have hl7:=hG7.len
      have hal2:Below w7.heap.size w7 (w7.alloc (.cells #[PtrB (c6.R j6),PtrB (c7.R j7)] 159)):=(Below.refl _ _).alloc (Nat.le_refl _) _
      have hz6:(sz c7.T j6).z<=(derM (sz c.T a)).z+(sz c.T b).z:=by rw [hG7.sz hj6];exact hZ6.2.2.2
      have hz7:(sz c7.T j7).z<=(derM (sz c.T b)).z:=hZ7.2.2.2
      have hpt:=two_parts w7 c7.S c7.R j6 j7 (fun h=>by have:=hI7.S_lt h;omega)
      rw [hG7.R j6 hj6] at hpt
      have hc:=or_any (pc:=2) (hI7.below hal2) (hP7.below hal2) (by omega) (ps:=[j6,j7]) (fun x hx=>by simp at hx;rcases hx with rfl | rfl;omega;exact hj7) hpt (by simp only [sumL];omega)
      rw [hG7.m,hG6.m] at hc
      refine hc.mono ?_
      rintro r9 w8 ⟨c8,j8,rfl,hI8,hG8,hj8,hL8,hZ8⟩
      have hGA:Gone V c6 w8 c8:=hG7.trans ((Gone.below hal2).trans hG8)
      refine ⟨⟨c8,j8,rfl,hI8,hG6.trans ((Gone.below hV.below).trans hGA),hj8,?_,?_⟩,hcell V w8 c8 hV hGA⟩
      · rw [hL8,der_pair,if_pos (hena.1 he)]
        funext u
        simp only [List.mem_cons,List.not_mem_nil,or_false,exists_eq_or_imp,exists_eq_left,orL]
        rw [hG7.lang hj6,hL6,hL7]
      · refine Me.trans hZ8 ?_
        rw [orM_two]
        exact der_pairM oa ob (by rw [hG7.sz hj6];exact hZ6) hZ7
  clear hI k1 k2 k3 n1 n2 n3 hP iha ihb hq hz haS hbS hr hena hRa hea oa ob hzt y4 y5 y6 hal hbl
  go_enter Tryz.func236,Tryz.ntmps236
  go_wp2_with fail
  go_region_held3 (fun w'=>w'.cell? ⟨b1,0,none⟩=some (PtrB c.m)/\w'.cell? ⟨b2,0,none⟩=some (PtrB (c.R a))/\w'.cell? ⟨b3,0,none⟩=some (PtrB (c.R b))/\w'.cell? ⟨c.R a,4,none⟩=some (.func (.func 220) #[] #[PtrB ka,PtrB ba])/\w'.cell? ⟨c.R a,3,none⟩=some (.bool ena)/\w'.cell? ⟨c.R b,4,none⟩=some (.func (.func 220) #[] #[PtrB kb,PtrB bb]))
    (first | exact HH0.out _ ⟨rfl,rfl,rfl,rfl⟩ | exact hh5 | exact hh6)
    (first
      | (go_at_call 187;refine HC5.out.mono ?_;rintro r9 w6 ⟨h6,c7,hG7⟩;have H6:=hide h6;have hh6:=HH5.out (w.drewN _) w6 c7 ⟨rfl,rfl,rfl,rfl⟩ hG7;obtain ⟨c6,j6,rfl,h7⟩:=h6;have H7:=hide h7;clear h7 hG7)
      | (go_at_call 220;refine (HC1.out (w.drewN _) ⟨rfl,rfl,rfl,rfl⟩).mono ?_;rintro r9 w5 ⟨c5,j5,rfl,hI5,hG5,hj5,hL5,hZ5⟩;have hh5:=HH5.out (w.drewN _) w5 c5 ⟨rfl,rfl,rfl,rfl⟩ hG5;have HC5:=hide (HC2.out (w.drewN _) w5 c5 j5 ⟨rfl,rfl,rfl,rfl⟩ hI5 hG5 hj5 hL5 hZ5);clear hI5 hG5 hj5 hL5 hZ5))
  obtain ⟨z1,z2,z3,z4,z5,z6⟩:=hh6
  have hl2:=lt_of_cell z2
  have hlra:=lt_of_cell z5
  cases ena with
  | false =>
    have HE:=hide (HEND.out _ _ rfl H6.out)
    go_wp2_with fail
    go_ret
    exact HE.out
  | true =>
    obtain ⟨hI6,hG6,hj6,hL6,hZ6⟩:=H7.out
    have HJ6:=hide hj6
    obtain ⟨hB6,hO7,hH7⟩:=HSEC.out w6 c6 j6 rfl hI6 hG6 hj6 hL6 hZ6
    have HB6:=hide hB6
    have HO7:=hide hO7
    have HH7:=hide hH7
    have hh60:=fun n=>HH7.out (w6.drewN n) (w6.drewN n) c6 ⟨rfl,rfl,rfl,rfl⟩ (Gone.refl _ _)
    have HH60:=hide hh60
    clear hI6 hG6 hj6 hL6 hZ6 hB6 hO7 hH7 hh60
    go_wp2_with fail
    refine wp_region_held_drew (S:=fun w':World=>w'.cell? ⟨b1,0,none⟩=some (PtrB c.m)/\w'.cell? ⟨b2,0,none⟩=some (PtrB (c.R a))/\w'.cell? ⟨b3,0,none⟩=some (PtrB (c.R b))/\w'.cell? ⟨c.R a,4,none⟩=some (.func (.func 220) #[] #[PtrB ka,PtrB ba])/\w'.cell? ⟨c.R a,3,none⟩=some (.bool true)/\w'.cell? ⟨c.R b,4,none⟩=some (.func (.func 220) #[] #[PtrB kb,PtrB bb])) (by kernel_rfl) (HH60.out _) (fun hHeld=>?_)
    refine wpAnyH_take (i:=0) (oi:=_) (v:=PtrB c.m) rfl (by kernel_rfl) (by kernel_rfl) (by kernel_rfl) (fun _ _ _ h=>h) (Or.inl ⟨by rfl,by intro w hSw;have hS0:=hSw.1;have hS1:=hSw.2.1;have hS2:=hSw.2.2.1;have hS3:=hSw.2.2.2.1;have hS4:=hSw.2.2.2.2.1;have hS5:=hSw.2.2.2.2.2;clear hSw;go_simp⟩) (by assumption) ?_
    try simp only [Act.put,List.setIfInBounds_toArray,List.set_cons_zero,List.set_cons_succ,List.getElem_toArray,List.getElem_cons_zero]
    refine wpAnyH_take (i:=1) (oi:=_) (v:=PtrB (c6.R j6)) rfl (by kernel_rfl) (by kernel_rfl) (by kernel_rfl) (fun _ _ _ h=>h) (Or.inl ⟨by rfl,by intro w hSw;have hS0:=hSw.1;have hS1:=hSw.2.1;have hS2:=hSw.2.2.1;have hS3:=hSw.2.2.2.1;have hS4:=hSw.2.2.2.2.1;have hS5:=hSw.2.2.2.2.2;clear hSw;go_simp⟩) (by assumption) ?_
    try simp only [Act.put,List.setIfInBounds_toArray,List.set_cons_zero,List.set_cons_succ,List.getElem_toArray,List.getElem_cons_zero,List.getElem_cons_succ]
    refine wpAnyH_take (i:=2) (oi:=_) (v:=PtrB (c.R b)) rfl (by kernel_rfl) (by kernel_rfl) (by kernel_rfl) (fun _ _ _ h=>h) (Or.inl ⟨by rfl,by intro w hSw;have hS0:=hSw.1;have hS1:=hSw.2.1;have hS2:=hSw.2.2.1;have hS3:=hSw.2.2.2.1;have hS4:=hSw.2.2.2.2.1;have hS5:=hSw.2.2.2.2.2;clear hSw;go_simp⟩) (by assumption) ?_
    try simp only [Act.put,List.setIfInBounds_toArray,List.set_cons_zero,List.set_cons_succ,List.getElem_toArray,List.getElem_cons_zero,List.getElem_cons_succ]
    refine wpAnyH_take (i:=3) (oi:=_) (v:=.pointer (some ⟨c.R b,0,none⟩)) rfl (by kernel_rfl) (by kernel_rfl) (by kernel_rfl) (fun _ _ _ h=>h) (Or.inl ⟨by rfl,by intro w hSw;have hS0:=hSw.1;have hS1:=hSw.2.1;have hS2:=hSw.2.2.1;have hS3:=hSw.2.2.2.1;have hS4:=hSw.2.2.2.2.1;have hS5:=hSw.2.2.2.2.2;clear hSw;go_simp⟩) (by assumption) ?_
    try simp only [Act.put,List.setIfInBounds_toArray,List.set_cons_zero,List.set_cons_succ,List.getElem_toArray,List.getElem_cons_zero,List.getElem_cons_succ]
    refine wpAnyH_take (i:=4) (oi:=_) (v:=.pointer (some ⟨c.R b,4,none⟩)) rfl (by kernel_rfl) (by kernel_rfl) (by kernel_rfl) (fun _ _ _ h=>h) (Or.inl ⟨by rfl,by intro w hSw;have hS0:=hSw.1;have hS1:=hSw.2.1;have hS2:=hSw.2.2.1;have hS3:=hSw.2.2.2.1;have hS4:=hSw.2.2.2.2.1;have hS5:=hSw.2.2.2.2.2;clear hSw;go_simp⟩) (by assumption) ?_
    try simp only [Act.put,List.setIfInBounds_toArray,List.set_cons_zero,List.set_cons_succ,List.getElem_toArray,List.getElem_cons_zero,List.getElem_cons_succ]
    refine wpAnyH_take (i:=5) (oi:=_) (v:=.func (.func 220) #[] #[PtrB kb,PtrB bb]) rfl (by kernel_rfl) (by kernel_rfl) (by kernel_rfl) (fun _ _ _ h=>h) (Or.inl ⟨by rfl,by intro w hSw;have hS0:=hSw.1;have hS1:=hSw.2.1;have hS2:=hSw.2.2.1;have hS3:=hSw.2.2.2.1;have hS4:=hSw.2.2.2.2.1;have hS5:=hSw.2.2.2.2.2;clear hSw;go_simp⟩) (by assumption) ?_
    try simp only [Act.put,List.setIfInBounds_toArray,List.set_cons_zero,List.set_cons_succ,List.getElem_toArray,List.getElem_cons_zero,List.getElem_cons_succ]
    refine wpAnyH_take (i:=6) (oi:=_) (v:=.int .i64 r) rfl (by kernel_rfl) (by kernel_rfl) (by kernel_rfl) (fun _ _ _ h=>h) (Or.inl ⟨by rfl,by intro w hSw;have hS0:=hSw.1;have hS1:=hSw.2.1;have hS2:=hSw.2.2.1;have hS3:=hSw.2.2.2.1;have hS4:=hSw.2.2.2.2.1;have hS5:=hSw.2.2.2.2.2;clear hSw;go_simp⟩) (by assumption) ?_
    try simp only [Act.put,List.setIfInBounds_toArray,List.set_cons_zero,List.set_cons_succ,List.getElem_toArray,List.getElem_cons_zero,List.getElem_cons_succ]
    refine wpAnyH_ready (rs:=[7]) (by kernel_rfl) (by simp) ?_
    refine AllReadyH.cons (o:=_) rfl (fun Kc hK=>?_) AllReadyH.nil
    go_simp
    refine (HB6.out (w6.drewN _) ⟨rfl,rfl,rfl,rfl⟩).mono ?_
    rintro r9 w7 ⟨c7,j7,rfl,hI7,hG7,hj7,hL7,hZ7⟩
    have hh7:=HH7.out (w6.drewN _) w7 c7 ⟨rfl,rfl,rfl,rfl⟩ hG7
    have HOR:=hide (HO7.out (w6.drewN _) w7 c7 j7 ⟨rfl,rfl,rfl,rfl⟩ hI7 hG7 hj7 hL7 hZ7)
    have hG7R:=hG7.R j6 HJ6.out
    clear hI7 hG7 hj7 hL7 hZ7
    go_wp2_with fail
    refine hK.out _ _ hh7 (fun hHeld=>?_)
    clear hK Kc
    try simp only [Act.put,List.setIfInBounds_toArray,List.set_cons_zero,List.set_cons_succ]
    refine wpAnyH_ready (rs:=[8]) (by kernel_rfl) (by simp) ?_
    refine AllReadyH.cons (o:=_) rfl (fun Kc hK=>?_) AllReadyH.nil
    go_simp
    refine hK.out _ _ ⟨(cell_al _ hh7.1),(cell_al _ hh7.2.1),(cell_al _ hh7.2.2.1),(cell_al _ hh7.2.2.2.1),(cell_al _ hh7.2.2.2.2.1),(cell_al _ hh7.2.2.2.2.2)⟩ (fun hHeld=>?_)
    clear hK Kc
    try simp only [Act.put,List.setIfInBounds_toArray,List.set_cons_zero,List.set_cons_succ]
    refine wpAnyH_ready (rs:=[9]) (by kernel_rfl) (by simp) ?_
    refine AllReadyH.cons (o:=_) rfl (fun Kc hK=>?_) AllReadyH.nil
    go_simp
    refine HOR.out.mono ?_
    rintro r9 w8 ⟨h8,hh8⟩
    have H8:=hide h8
    obtain ⟨c8,j8,rfl,h9⟩:=h8
    clear h9
    go_wp2_with fail
    refine hK.out _ _ hh8 (fun hHeld=>?_)
    clear hK Kc
    try simp only [Act.put,List.setIfInBounds_toArray,List.set_cons_zero,List.set_cons_succ]
    refine wpAnyH_take (i:=10) (oi:=_) (v:=PtrB (c8.R j8)) rfl (by kernel_rfl) (by kernel_rfl) (by kernel_rfl) (fun _ _ _ h=>h) (Or.inl ⟨by rfl,by intro w hSw;have hS0:=hSw.1;have hS1:=hSw.2.1;have hS2:=hSw.2.2.1;have hS3:=hSw.2.2.2.1;have hS4:=hSw.2.2.2.2.1;have hS5:=hSw.2.2.2.2.2;clear hSw;go_simp⟩) (by assumption) ?_
    try simp only [Act.put,List.setIfInBounds_toArray,List.set_cons_zero,List.set_cons_succ,List.getElem_toArray,List.getElem_cons_zero,List.getElem_cons_succ]
    refine wpAnyH_done (by kernel_rfl) ?_ _
    go_wp2_with fail
    go_ret
    exact H8.out
end Go.Proofs.YtpoibdhhcbelnaaGreatDoor
namespace Go.Proofs.YtpoibdhhcbelnaaGreatDoor
open Go.Shelf Go.RowKit Go.Lib Go.Sort Brm
set_option maxRecDepth 100000 in
set_option maxHeartbeats 1000000 in
theorem fewer_call (t:Int)(W:World)(h0:-1<=t)(h9:t<=5):Calls Tryz.prog 190 #[.int .i64 t] W fun e w'=>e=.returned (.int .i64 (fewerI t))/\∃ k,w'=W.drewN k:=by
  by_cases h:0<t
  · have e1:fewerI t=t-1:=if_pos h
    rw [e1]
    go_enter Tryz.func190,Tryz.ntmps190
    go_wp2_with fail
    go_ret
    exact ⟨rfl,0,rfl⟩
  · have e1:fewerI t=t:=if_neg h
    rw [e1]
    go_enter Tryz.func190,Tryz.ntmps190
    go_wp2_with fail
    go_ret
    exact ⟨rfl,0,rfl⟩
theorem fewer_in {m n:Int}(hm0:0<=m)(hm5:m<=5)(hn:n=-1\/(0<n/\m<=n/\n<=5)):0<=fewerI m/\fewerI m<=5/\(fewerI n=-1\/(fewerI m<=fewerI n/\fewerI n<=5)):=by
  unfold fewerI
  split<;>split<;>omega
set_option maxRecDepth 100000 in
set_option maxHeartbeats 8000000 in
theorem beh_many {w:World}{c:MC}{q a b1 b2 b3 b4:Nat}{r m n:Int}(iha:BehOk a)(hI:MkI w c q)(ha:a<c.T.length)(hP:PowT w)(hr:runeB r=true)(hm0:0<=m)(hm5:m<=5)(hn:n=-1\/(0<n/\m<=n/\n<=5))(n1:¬ c.S b1)(n2:¬ c.S b2)(n3:¬ c.S b3)(n4:¬ c.S b4)(k1:Blk w b1 [PtrB c.m] 151)(k2:Blk w b2 [PtrB (c.R a)] 159)(k3:Blk w b3 [.int .i64 m] 3)(k4:Blk w b4 [.int .i64 n] 3)(hq:q+costM (sz c.T a)+1+(sz c.T a).p<=9000000000000000000)(hz:(derM (sz c.T a)).z<=3000000000000) :
    Calls Tryz.prog 189 #[.int .i64 r,PtrB b1,PtrB b2,PtrB b3,PtrB b4] w (GivesL w c (q+costM (sz c.T a)+1+(sz c.T a).p) (pairL (der (lg c.T a) r) (manyL (lg c.T a) (fewerI m) (fewerI n))) (pairM (derM (sz c.T a)) (manyM (sz c.T a)))):=by
  obtain ⟨ka,ba,y5,hal,haS⟩:=mk_beh hI ha
  have y1:w.cell? ⟨b1,0,none⟩=some (PtrB c.m):=k1.cell 0
  have y2:w.cell? ⟨b2,0,none⟩=some (PtrB (c.R a)):=k2.cell 0
  have y3:w.cell? ⟨b3,0,none⟩=some (.int .i64 m):=k3.cell 0
  have y4:w.cell? ⟨b4,0,none⟩=some (.int .i64 n):=k4.cell 0
  have hbl1:=k1.lt
  have hbl2:=k2.lt
  have hbl3:=k3.lt
  have hbl4:=k4.lt
  obtain ⟨f0,f5,fn⟩:=fewer_in hm0 hm5 hn
  have hh:∀ (w':World) (c':MC),Gone w c w' c'->w'.cell? ⟨b1,0,none⟩=some (PtrB c.m)/\w'.cell? ⟨b2,0,none⟩=some (PtrB (c.R a))/\w'.cell? ⟨b3,0,none⟩=some (.int .i64 m)/\w'.cell? ⟨b4,0,none⟩=some (.int .i64 n)/\w'.cell? ⟨c.R a,4,none⟩=some (.func (.func 220) #[] #[PtrB ka,PtrB ba]):=fun w' c' hG =>
    ⟨(hG.cellS ⟨rfl,rfl,rfl,rfl⟩ (p:=⟨b1,0,none⟩) hbl1 n1).trans y1,(hG.cellS ⟨rfl,rfl,rfl,rfl⟩ (p:=⟨b2,0,none⟩) hbl2 n2).trans y2,(hG.cellS ⟨rfl,rfl,rfl,rfl⟩ (p:=⟨b3,0,none⟩) hbl3 n3).trans y3,(hG.cellS ⟨rfl,rfl,rfl,rfl⟩ (p:=⟨b4,0,none⟩) hbl4 n4).trans y4,(hG.cellS ⟨rfl,rfl,rfl,rfl⟩ (p:=⟨c.R a,4,none⟩) hal haS).trans y5⟩
  have HH0:Hid (∀ V:World,SameH V w->V.cell? ⟨b1,0,none⟩=some (PtrB c.m)/\V.cell? ⟨b2,0,none⟩=some (PtrB (c.R a))/\V.cell? ⟨b3,0,none⟩=some (.int .i64 m)/\V.cell? ⟨b4,0,none⟩=some (.int .i64 n)/\V.cell? ⟨c.R a,4,none⟩=some (.func (.func 220) #[] #[PtrB ka,PtrB ba])):=fun V hV=>hh V c (Gone.below hV.below)
  have HF1:Hid (∀ V:World,Calls Tryz.prog 190 #[.int .i64 m] V fun e w'=>e=.returned (.int .i64 (fewerI m))/\∃ k,w'=V.drewN k):=fun V=>fewer_call m V (by omega) (by omega)
  have HF2:Hid (∀ V:World,Calls Tryz.prog 190 #[.int .i64 n] V fun e w'=>e=.returned (.int .i64 (fewerI n))/\∃ k,w'=V.drewN k):=fun V=>fewer_call n V (by omega) (by omega)
  have HA1:Hid (∀ V:World,SameH V w->Calls Tryz.prog 220 #[.int .i64 r,PtrB ka,PtrB ba] V (fun r9 w5=>∃ x,r9=.returned (PtrB x)/\Hid (GivesL w c (q+costM (sz c.T a)) (der (lg c.T a) r) (derM (sz c.T a)) (.returned (PtrB x)) w5)/\(w5.cell? ⟨b1,0,none⟩=some (PtrB c.m)/\w5.cell? ⟨b2,0,none⟩=some (PtrB (c.R a))/\w5.cell? ⟨b3,0,none⟩=some (.int .i64 m)/\w5.cell? ⟨b4,0,none⟩=some (.int .i64 n)/\w5.cell? ⟨c.R a,4,none⟩=some (.func (.func 220) #[] #[PtrB ka,PtrB ba])))):=fun V hV=>by
    refine (iha V c q r ka ba (hI.below hV.below) ha (hP.below hV.below) hr ((hV.cell _).trans y5) (by omega) (by omega)).mono ?_
    rintro r9 w5 ⟨c5,j5,rfl,hI5,hG5,hj5,hL5,hZ5⟩
    have hG:Gone w c w5 c5:=(Gone.below hV.below).trans hG5
    exact ⟨_,rfl,⟨c5,j5,rfl,hI5,hG,hj5,hL5,hZ5⟩,hh w5 c5 hG⟩
  have HA2:Hid (∀ (V w5:World) (x:Nat),GivesL w c (q+costM (sz c.T a)) (der (lg c.T a) r) (derM (sz c.T a)) (.returned (PtrB x)) w5->SameH V w5->Calls Tryz.prog 141 #[PtrB c.m,PtrB (c.R a),.int .i64 (fewerI m),.int .i64 (fewerI n)] V (fun r9 w6=>∃ y,r9=.returned (PtrB y)/\Hid (∃ c6 j5 j6,x=c6.R j5/\y=c6.R j6/\MkI w6 c6 (q+costM (sz c.T a)+1)/\Gone w c w6 c6/\j5<c6.T.length/\j6<c6.T.length/\lg c6.T j5=(der (lg c.T a) r)/\sz c6.T j5<=(derM (sz c.T a))/\lg c6.T j6=(manyL (lg c.T a) (fewerI m) (fewerI n))/\sz c6.T j6<=(manyM (sz c.T a)))/\(w6.cell? ⟨b1,0,none⟩=some (PtrB c.m)/\w6.cell? ⟨b2,0,none⟩=some (PtrB (c.R a))/\w6.cell? ⟨b3,0,none⟩=some (.int .i64 m)/\w6.cell? ⟨b4,0,none⟩=some (.int .i64 n)/\w6.cell? ⟨c.R a,4,none⟩=some (.func (.func 220) #[] #[PtrB ka,PtrB ba])))):=fun V w5 x hS hV=>by
    obtain ⟨c5,j5,e5,hI5,hG5,hj5,hL5,hZ5⟩:=hS
    have e6:x=c5.R j5:=by injection e5 with e;injection e with e;injection e with e;injection e
    have hl5:=hG5.len
    have hIV:=hI5.below hV.below
    have hPV:PowT V:=(hG5.pow hI hP).below hV.below
    have hc:=mkmany_any hIV (by omega) (show a<c5.T.length by omega) hPV f0 f5 fn
    rw [hG5.m,hG5.R a ha,hG5.sz ha,hG5.lang ha] at hc
    refine hc.mono ?_
    rintro r9 w6 ⟨c6,j6,rfl,hI6,hG6,hj6,hL6,hZ6⟩
    have hG56:Gone w5 c5 w6 c6:=(Gone.below hV.below).trans hG6
    have hG:Gone w c w6 c6:=hG5.trans hG56
    have hl6:=hG56.len
    exact ⟨_,rfl,⟨c6,j5,j6,by rw [hG56.R j5 hj5];exact e6,rfl,hI6,hG,by omega,hj6,by rw [hG56.lang hj5];exact hL5,by rw [hG56.sz hj5];exact hZ5,hL6,hZ6⟩,hh w6 c6 hG⟩
  have HB1:Hid (∀ V:World,SameH V w->Calls Tryz.prog 141 #[PtrB c.m,PtrB (c.R a),.int .i64 (fewerI m),.int .i64 (fewerI n)] V (fun r9 w5=>∃ y,r9=.returned (PtrB y)/\Hid (GivesL w c (q+1) (manyL (lg c.T a) (fewerI m) (fewerI n)) (manyM (sz c.T a)) (.returned (PtrB y)) w5)/\(w5.cell? ⟨b1,0,none⟩=some (PtrB c.m)/\w5.cell? ⟨b2,0,none⟩=some (PtrB (c.R a))/\w5.cell? ⟨b3,0,none⟩=some (.int .i64 m)/\w5.cell? ⟨b4,0,none⟩=some (.int .i64 n)/\w5.cell? ⟨c.R a,4,none⟩=some (.func (.func 220) #[] #[PtrB ka,PtrB ba])))):=fun V hV=>by
    refine (mkmany_any (hI.below hV.below) (by omega) ha (hP.below hV.below) f0 f5 fn).mono ?_
    rintro r9 w5 ⟨c5,j5,rfl,hI5,hG5,hj5,hL5,hZ5⟩
    have hG:Gone w c w5 c5:=(Gone.below hV.below).trans hG5
    exact ⟨_,rfl,⟨c5,j5,rfl,hI5,hG,hj5,hL5,hZ5⟩,hh w5 c5 hG⟩
  have HB2:Hid (∀ (V w5:World) (y:Nat),GivesL w c (q+1) (manyL (lg c.T a) (fewerI m) (fewerI n)) (manyM (sz c.T a)) (.returned (PtrB y)) w5->SameH V w5->Calls Tryz.prog 220 #[.int .i64 r,PtrB ka,PtrB ba] V (fun r9 w6=>∃ x,r9=.returned (PtrB x)/\Hid (∃ c6 j5 j6,x=c6.R j5/\y=c6.R j6/\MkI w6 c6 (q+costM (sz c.T a)+1)/\Gone w c w6 c6/\j5<c6.T.length/\j6<c6.T.length/\lg c6.T j5=(der (lg c.T a) r)/\sz c6.T j5<=(derM (sz c.T a))/\lg c6.T j6=(manyL (lg c.T a) (fewerI m) (fewerI n))/\sz c6.T j6<=(manyM (sz c.T a)))/\(w6.cell? ⟨b1,0,none⟩=some (PtrB c.m)/\w6.cell? ⟨b2,0,none⟩=some (PtrB (c.R a))/\w6.cell? ⟨b3,0,none⟩=some (.int .i64 m)/\w6.cell? ⟨b4,0,none⟩=some (.int .i64 n)/\w6.cell? ⟨c.R a,4,none⟩=some (.func (.func 220) #[] #[PtrB ka,PtrB ba])))):=fun V w5 y hS hV=>by
    obtain ⟨c5,j5,e5,hI5,hG5,hj5,hL5,hZ5⟩:=hS
    have e6:y=c5.R j5:=by injection e5 with e;injection e with e;injection e with e;injection e
    have hl5:=hG5.len
    have hIV:=hI5.below hV.below
    have hPV:PowT V:=(hG5.pow hI hP).below hV.below
    have hy5:=(hh w5 c5 hG5).2.2.2.2
    have hc:=iha V c5 (q+1) r ka ba hIV (by omega) hPV hr (by rw [hG5.R a ha];exact (hV.cell _).trans hy5) (by rw [hG5.sz ha];omega) (by rw [hG5.sz ha];omega)
    rw [hG5.sz ha,hG5.lang ha] at hc
    refine hc.mono ?_
    rintro r9 w6 ⟨c6,j6,rfl,hI6,hG6,hj6,hL6,hZ6⟩
    have hG56:Gone w5 c5 w6 c6:=(Gone.below hV.below).trans hG6
    have hG:Gone w c w6 c6:=hG5.trans hG56
    have hl6:=hG56.len
    exact ⟨_,rfl,⟨c6,j6,j5,rfl,by rw [hG56.R j5 hj5];exact e6,hI6.more (by omega),hG,hj6,by omega,hL6,hZ6,by rw [hG56.lang hj5];exact hL5,by rw [hG56.sz hj5];exact hZ5⟩,hh w6 c6 hG⟩
  have HP6:Hid (∀ (V w6:World) (x y:Nat),(∃ c6 j5 j6,x=c6.R j5/\y=c6.R j6/\MkI w6 c6 (q+costM (sz c.T a)+1)/\Gone w c w6 c6/\j5<c6.T.length/\j6<c6.T.length/\lg c6.T j5=(der (lg c.T a) r)/\sz c6.T j5<=(derM (sz c.T a))/\lg c6.T j6=(manyL (lg c.T a) (fewerI m) (fewerI n))/\sz c6.T j6<=(manyM (sz c.T a)))->SameH V w6->Calls Tryz.prog 187 #[PtrB c.m,PtrB x,PtrB y] V (fun r9 w7=>∃ z,r9=.returned (PtrB z)/\Hid (GivesL w c (q+costM (sz c.T a)+1+(sz c.T a).p) (pairL (der (lg c.T a) r) (manyL (lg c.T a) (fewerI m) (fewerI n))) (pairM (derM (sz c.T a)) (manyM (sz c.T a))) r9 w7)/\(w7.cell? ⟨b1,0,none⟩=some (PtrB c.m)/\w7.cell? ⟨b2,0,none⟩=some (PtrB (c.R a))/\w7.cell? ⟨b3,0,none⟩=some (.int .i64 m)/\w7.cell? ⟨b4,0,none⟩=some (.int .i64 n)/\w7.cell? ⟨c.R a,4,none⟩=some (.func (.func 220) #[] #[PtrB ka,PtrB ba])))):=fun V w6 x y hS hV=>by
    obtain ⟨c6,j5,j6,rfl,rfl,hI6,hG6,hj5,hj6,hL5,hZ5,hL6,hZ6⟩:=hS
    have hIV:=hI6.below hV.below
    have hPV:PowT V:=(hG6.pow hI hP).below hV.below
    have hn5:(sz c6.T j5).n<=(sz c.T a).p:=hZ5.1
    have hc:=pair_all j5 V c6 (q+costM (sz c.T a)+1) j6 hIV hj5 hj6 hPV (by omega)
    rw [hG6.m] at hc
    refine hc.mono ?_
    rintro r9 w7 ⟨c7,j7,rfl,hI7,hG7,hj7,hL7,hZ7⟩
    have hG:Gone w c w7 c7:=hG6.trans ((Gone.below hV.below).trans hG7)
    exact ⟨_,rfl,⟨c7,j7,rfl,hI7.more (by omega),hG,hj7,by rw [hL7,hL5,hL6],Me.trans hZ7 (pairM_mono hZ5 hZ6)⟩,hh w7 c7 hG⟩
  clear hI k1 k2 k3 k4 n1 n2 n3 n4 hP iha hq hz haS hr hm0 hm5 hn f0 f5 fn hh y5 hal
  go_enter Tryz.func189,Tryz.ntmps189
  go_wp2_with fail
  go_region_held3 (fun w'=>w'.cell? ⟨b1,0,none⟩=some (PtrB c.m)/\w'.cell? ⟨b2,0,none⟩=some (PtrB (c.R a))/\w'.cell? ⟨b3,0,none⟩=some (.int .i64 m)/\w'.cell? ⟨b4,0,none⟩=some (.int .i64 n)/\w'.cell? ⟨c.R a,4,none⟩=some (.func (.func 220) #[] #[PtrB ka,PtrB ba]))
    (first | exact HH0.out _ ⟨rfl,rfl,rfl,rfl⟩ | exact hh7 | exact hh6 | exact hh5)
    (first
      | (go_at_call 187;refine (HP6.out _ w6 _ _ HS12.out (by exact ⟨rfl,rfl,rfl,rfl⟩)).mono ?_;rintro r9 w7 ⟨z7,rfl,H7,hh7⟩)
      | (go_at_call 190;refine (HF1.out _).mono ?_;rintro r9 w4 ⟨rfl,k4,rfl⟩)
      | (go_at_call 190;refine (HF2.out _).mono ?_;rintro r9 w4 ⟨rfl,k4,rfl⟩)
      | (go_at_call 141;refine (HA2.out _ w5 _ HS1.out (by exact ⟨rfl,rfl,rfl,rfl⟩)).mono ?_;rintro r9 w6 ⟨y6,rfl,HS12,hh6⟩)
      | (go_at_call 141;refine (HB1.out _ (by exact ⟨rfl,rfl,rfl,rfl⟩)).mono ?_;rintro r9 w5 ⟨y5,rfl,HT1,hh5⟩)
      | (go_at_call 220;refine (HB2.out _ w5 _ HT1.out (by exact ⟨rfl,rfl,rfl,rfl⟩)).mono ?_;rintro r9 w6 ⟨y6,rfl,HS12,hh6⟩)
      | (go_at_call 220;refine (HA1.out _ (by exact ⟨rfl,rfl,rfl,rfl⟩)).mono ?_;rintro r9 w5 ⟨y5,rfl,HS1,hh5⟩))
  all_goals (go_wp2_with fail;go_ret;exact H7.out)
end Go.Proofs.YtpoibdhhcbelnaaGreatDoor
namespace Go.Proofs.YtpoibdhhcbelnaaGreatDoor
open Go.Shelf Go.RowKit Go.Lib Go.Sort Brm
def MC.wY (c:MC)(Y:Nat->Prop):MC:={ c with X:=fun g=>c.X g\/Y g }
abbrev MC.wX (c:MC)(o:Option Nat):MC:=c.wY (fun g=>some g=o)
theorem wX_none (c:MC):c.wX none=c:=by
  unfold MC.wX MC.wY
  have:(fun g=>c.X g\/some g=none)=c.X:=by funext g;simp
  rw [this]
structure HoldY (w:World)(c:MC)(wr:World)(ci:MC)(q:Nat)(Y:Nat->Prop):Prop where
  intro ::
  mk:MkI wr (ci.wY Y) q
  gone:Gone w c wr ci
abbrev HoldX (w:World)(c:MC)(wr:World)(ci:MC)(q:Nat)(o:Option Nat):Prop:=HoldY w c wr ci q (fun g=>some g=o)
theorem HoldX.start {w:World}{c:MC}{q:Nat}(h:MkI w c q):HoldX w c w c q none:=⟨by have:=wX_none c;unfold MC.wX at this;rw [this];exact h,Gone.refl _ _⟩
theorem Gone.unY {w w':World}{c c':MC}{Y:Nat->Prop}(h:Gone w (c.wY Y) w' c'):Gone w c w' { c' with X:=c.X } where
  m:=h.m
  bm:=h.bm
  T:=h.T
  R:=h.R
  KM:=h.KM
  newK:=h.newK
  but:=⟨h.but.os,h.but.tape,h.but.output,h.but.size,fun g hg hn=>by
    by_cases hx:Y g
    · exact h.keepX g hg (.inr hx)
    · exact h.but.block g hg (by
        rintro (e | e | e)
        · exact hn (.inl e)
        · exact hn (.inr e)
        · exact hx e)⟩
  X:=rfl
  keepX:=fun g hg hx=>h.keepX g hg (.inl hx)
theorem HoldY.call {w wr w5:World}{c ci:MC}{q q':Nat}{Y:Nat->Prop}{L:Lg}{Z:Me}{r:Ending}(h:HoldY w c wr ci q Y)(hg:GivesL wr (ci.wY Y) q' L Z r w5) :
    ∃ c5 j5,r=.returned (PtrB (c5.R j5))/\HoldY w c w5 c5 q' Y/\Gone wr ci w5 c5/\j5<c5.T.length/\lg c5.T j5=L/\sz c5.T j5<=Z/\∀ g,Y g->w5.heap[g]?=wr.heap[g]?:=by
  obtain ⟨c5,j5,rfl,hI5,hG5,hj5,hL5,hZ5⟩:=hg
  have hgo:=hG5.unY
  refine ⟨{ c5 with X:=ci.X },j5,rfl,⟨?_,h.gone.trans hgo⟩,hgo,hj5,hL5,hZ5,fun g hg=>hG5.keepX g (h.mk.xs g (.inr hg)).1 (.inr hg)⟩
  have e:({ c5 with X:=ci.X }:MC).wY Y=c5:=by
    have:=hG5.X
    cases c5
    simp only [MC.wY,MC.mk.injEq,true_and] at this ⊢
    exact this.symm
  rw [e]
  exact hI5
theorem HoldY.below {w wr w':World}{c ci:MC}{q:Nat}{Y:Nat->Prop}(h:HoldY w c wr ci q Y)(k:Below wr.heap.size wr w'):HoldY w c w' ci q Y:=⟨h.mk.below k,h.gone.trans (Gone.below k)⟩
theorem MkI.seven {w:World}{c:MC}{q:Nat}(h:MkI w c q):7<=w.heap.size:=by
  have h1:=h.low c.bm (.inl (.inl rfl))
  have h2:=h.Mp_lt (.inl rfl)
  omega
theorem HoldY.turn {w w5 w6:World}{c c5:MC}{q:Nat}{Y Y':Nat->Prop}(h:HoldY w c w5 c5 q Y)(ho:∀ g,Y g->w.heap.size<=g)(h7:7<=w.heap.size)(hs:w5.heap.size<=w6.heap.size)(hb:∀ k,k<w5.heap.size->¬ Y k->w6.heap[k]?=w5.heap[k]?)(hos:w6.os=w5.os)(ht:w6.tape=w5.tape)(hou:w6.output=w5.output)
    (hm:∀ g,Y' g->(Y g\/w5.heap.size<=g)/\g<w6.heap.size):HoldY w c w6 c5 q Y':=by
  have hsz:=h.gone.but.size
  refine ⟨?_,?_⟩
  · have:=h.mk.turn (w':=w6) (X':=fun g=>c5.X g\/Y' g) hs (fun g hg hn=>hb g hg (fun e=>hn (.inr e))) (by
      rintro g (hx | hx)
      · have:=h.mk.xs g (.inl hx)
        exact ⟨.inl (.inl hx),by omega,h.mk.low g (.inr (.inl hx))⟩
      · obtain ⟨h1,h2⟩:=hm g hx
        refine ⟨?_,h2,?_⟩
        · rcases h1 with h1 | h1
          · exact .inl (.inr h1)
          · exact .inr h1
        · rcases h1 with h1 | h1
          · have:=ho g h1;omega
          · omega)
    exact this
  · have hg:=h.gone
    exact {
      m:=hg.m
      bm:=hg.bm
      T:=hg.T
      R:=hg.R
      KM:=hg.KM
      newK:=hg.newK
      but:=⟨hos.trans hg.but.os,ht.trans hg.but.tape,hou.trans hg.but.output,by omega,fun g hl hn=>(hb g (by omega) (fun e=>by have:=ho g e;omega)).trans (hg.but.block g hl hn)⟩
      X:=hg.X
      keepX:=fun g hl hx=>(hb g (by omega) (fun e=>by have:=ho g e;omega)).trans (hg.keepX g hl hx) }
theorem HoldX.append {w w5 w6:World}{c c5:MC}{q e s n m:Nat}{v v':Value}{xs ys:List Value}(ob:Obj)(h:HoldX w c w5 c5 q v.ownBlock)(h7:7<=w.heap.size)(hown:w5.ownsRow w.heap.size e s v n xs)(hown':w6.ownsRow w.heap.size e s v' m ys)(hg:(w5.alloc ob).grownBy w6 v.ownBlock)(hm:∀ g,v'.ownBlock=some g->v.ownBlock=some g\/(w5.alloc ob).heap.size<=g):HoldX w c w6 c5 q v'.ownBlock:=by
  have hal:(w5.alloc ob).heap.size=w5.heap.size+1:=by simp
  have hs:=hg.size
  refine HoldY.turn h (fun g e=>(hown.lt g e.symm).1) h7 (by omega) (fun k hk hne=>(hg.block k (by omega) hne).trans (Below.heap_alloc _ _ _ hk)) hg.os hg.tape hg.output (fun g e=>⟨?_,(hown'.lt g e.symm).2⟩)
  rcases hm g e.symm with h1 | h1
  · exact .inl h1.symm
  · exact .inr (by omega)
theorem own_keep {w w':World}{B e s n:Nat}{v:Value}{xs:List Value}(h:w.ownsRow B e s v n xs)(k:∀ g,some g=v.ownBlock->w'.heap[g]?=w.heap[g]?):w'.ownsRow B e s v n xs:=by
  refine ⟨h.1,?_⟩
  rcases h.2 with h1 | ⟨g,cap,cur,rfl,hb,hg,r⟩
  · exact .inl h1
  · exact .inr ⟨g,cap,cur,rfl,hb,(k g rfl).trans hg,r⟩
theorem HoldX.done {w wr:World}{c ci:MC}{q n:Nat}{v:Value}{l:List Nat}(hI:MkI w c q){q':Nat}(h:HoldX w c wr ci q' v.ownBlock)(hown:wr.ownsRow w.heap.size 159 1 v n (l.map fun p=>PtrB (ci.R p))) :
    MkI wr ci q'/\Gone w c wr ci/\∃ pa pc,v=.slice pa l.length pc/\PartsAt wr ci.S ci.R pa l:=by
  have hgo:=h.gone
  have hI':MkI wr ci q':=by
    have:=h.mk.turn (w':=wr) (X':=ci.X) (Nat.le_refl _) (fun _ _ _=>rfl) (fun g hx=>⟨.inl (.inl hx),(h.mk.xs g (.inl hx)).1,h.mk.low g (.inr (.inl hx))⟩)
    exact this
  refine ⟨hI',hgo,?_⟩
  have hl:l.length=n:=by have:=hown.1;simpa using this
  rcases hown.2 with ⟨rfl,rfl⟩ | ⟨g,cap,cur,rfl,hb,hg,r⟩
  · have:l=[]:=List.length_eq_zero_iff.1 hl
    subst this
    exact ⟨none,0,rfl,fun j p hj=>by simp at hj⟩
  · refine ⟨some ⟨g,0,none⟩,cap,by rw [hl],fun j p hj=>?_⟩
    have hx:=h.mk.xs g (.inr rfl)
    refine ⟨g,0,rfl,hx.1,?_,?_⟩
    · rintro (e | e)
      · exact hx.2 e
      · rw [hgo.X] at e
        have:=(hI.xs g e).1
        omega
    · have:=hown.cells (g:=g) rfl j (PtrB (ci.R p)) (by rw [List.getElem?_map,hj];rfl)
      rw [Addr.add_lit] at this
      exact this
def All2 {α β:Type}(P:α->β->Prop):List α->List β->Prop
  | [],[]=>True
  | a::l,b::m=>P a b/\All2 P l m
  | _,_=>False
theorem All2.len {α β:Type}{P:α->β->Prop}:∀ {l:List α} {m:List β},All2 P l m->l.length=m.length
  | [],[],_=>rfl
  | _::_,_::_,h=>by rw [List.length_cons,List.length_cons,All2.len h.2]
  | [],_::_,h=>h.elim
  | _::_,[],h=>h.elim
theorem All2.snoc {α β:Type}{P:α->β->Prop}{a:α}{b:β}:∀ {l:List α} {m:List β},All2 P l m->P a b->All2 P (l++[a]) (m++[b])
  | [],[],_,h=>⟨h,trivial⟩
  | _::_,_::_,h,k=>⟨h.1,All2.snoc h.2 k⟩
  | [],_::_,h,_=>h.elim
  | _::_,[],h,_=>h.elim
theorem All2.imp {α β:Type}{P Q:α->β->Prop}:∀ {l:List α} {m:List β},All2 P l m->(∀ a b,a∈l->P a b->Q a b)->All2 Q l m
  | [],[],_,_=>trivial
  | a::_,_::_,h,k=>⟨k _ _ (by simp) h.1,All2.imp h.2 (fun x y hx=>k x y (by simp [hx]))⟩
  | [],_::_,h,_=>h.elim
  | _::_,[],h,_=>h.elim
theorem All2.left {α β:Type}{P:α->β->Prop}:∀ {l:List α} {m:List β},All2 P l m->∀ a∈l,∃ b∈m,P a b
  | [],[],_,a,ha=>by simp at ha
  | x::l,y::m,h,a,ha=>by
    rcases List.mem_cons.1 ha with rfl | ha
    · exact ⟨y,by simp,h.1⟩
    · obtain ⟨b,hb,hp⟩:=All2.left h.2 a ha
      exact ⟨b,by simp [hb],hp⟩
  | [],_::_,h,_,_=>h.elim
  | _::_,[],h,_,_=>h.elim
theorem All2.right {α β:Type}{P:α->β->Prop}:∀ {l:List α} {m:List β},All2 P l m->∀ b∈m,∃ a∈l,P a b
  | [],[],_,a,ha=>by simp at ha
  | x::l,y::m,h,a,ha=>by
    rcases List.mem_cons.1 ha with rfl | ha
    · exact ⟨x,by simp,h.1⟩
    · obtain ⟨b,hb,hp⟩:=All2.right h.2 a ha
      exact ⟨b,by simp [hb],hp⟩
  | [],_::_,h,_,_=>h.elim
  | _::_,[],h,_,_=>h.elim
theorem All2.sum {f g:Nat->Nat}:∀ {l m:List Nat},All2 (fun a b=>f a<=g b) l m->sumL f l<=sumL g m
  | [],[],_=>Nat.le_refl _
  | a::l,b::m,h=>by unfold sumL;have:=h.1;have:=All2.sum h.2;omega
  | [],_::_,h=>h.elim
  | _::_,[],h=>h.elim
theorem All2.max {f g:Nat->Nat}:∀ {l m:List Nat},All2 (fun a b=>f a<=g b) l m->maxL f l<=maxL g m
  | [],[],_=>Nat.le_refl _
  | a::l,b::m,h=>by unfold maxL;have:=h.1;have:=All2.max h.2;omega
  | [],_::_,h=>h.elim
  | _::_,[],h=>h.elim
theorem All2.orM {f g:Nat->Me}{l m:List Nat}(h:All2 (fun a b=>f a<=g b) l m):orM f l<=orM g m:=by
  have h1:=All2.max (f:=fun a=>(f a).n) (g:=fun a=>(g a).n) (h.imp fun a b _ k=>k.1)
  have h2:=All2.max (f:=fun a=>(f a).p) (g:=fun a=>(g a).p) (h.imp fun a b _ k=>k.2.1)
  have h3:=All2.sum (f:=fun a=>(f a).y) (g:=fun a=>(g a).y) (h.imp fun a b _ k=>k.2.2.1)
  have h4:=All2.sum (f:=fun a=>(f a).z) (g:=fun a=>(g a).z) (h.imp fun a b _ k=>k.2.2.2)
  refine ⟨?_,?_,?_,?_⟩<;>simp only [Go.Proofs.YtpoibdhhcbelnaaGreatDoor.orM]<;>omega
end Go.Proofs.YtpoibdhhcbelnaaGreatDoor
namespace Go.Proofs.YtpoibdhhcbelnaaGreatDoor
open Go.Shelf Go.RowKit Go.Lib Go.Sort Brm
def RmI {α:Type}(F:α->Lg)(G:α->Me)(Q:Nat->Nat)(w:World)(c:MC)(l:List α)(j:Nat)(lv iv:Value)(wr:World):Prop:=∃ (i:Nat) (ci:MC) (ds:List Nat),iv=.int .i64 (i:Int)/\i<=l.length/\l.length-i<=j/\HoldX w c wr ci (Q i) lv.ownBlock/\(∀ d∈ds,d<ci.T.length)/\All2 (fun d a=>lg ci.T d=F a/\sz ci.T d<=G a) ds (l.take i)/\wr.ownsRow w.heap.size 159 1 lv i (ds.map fun p=>PtrB (ci.R p))
theorem RmI.start {α:Type}{F:α->Lg}{G:α->Me}{Q:Nat->Nat}{w:World}{c:MC}{l:List α}(hI:MkI w c (Q 0)){W:World}(hb:Below w.heap.size w W):RmI F G Q w c l l.length (.slice none 0 0) (.int .i64 0) W :=
  ⟨0,c,[],rfl,Nat.zero_le _,by omega,HoldY.below (HoldX.start hI) hb,fun d hd=>by simp at hd,trivial,World.ownsRow_nil _ _ _ _⟩
theorem RmI.call {α:Type}{F:α->Lg}{G:α->Me}{Q:Nat->Nat}{w:World}{c:MC}{l:List α}{i:Nat}{ci:MC}{ds:List Nat}{lv:Value}{wr:World}{a:α}{r:Ending}{w5:World}(h7:7<=w.heap.size)(hh:HoldX w c wr ci (Q i) lv.ownBlock)(hd:∀ d∈ds,d<ci.T.length)(h2:All2 (fun d a=>lg ci.T d=F a/\sz ci.T d<=G a) ds (l.take i))(hown:wr.ownsRow w.heap.size 159 1 lv i (ds.map fun p=>PtrB (ci.R p)))
    (ha:l[i]?=some a) (hg:GivesL wr (ci.wX lv.ownBlock) (Q (i+1)) (F a) (G a) r w5) :
    ∃ x,r=.returned (PtrB x)/\w5.ownsRow w.heap.size 159 1 lv i (ds.map fun p=>PtrB (ci.R p))/\w.heap.size<=w5.heap.size/\But c.S w w5/\∀ v' w6,w6.ownsRow w.heap.size 159 1 v' (i+1) ((ds.map fun p=>PtrB (ci.R p))++[PtrB x])->(w5.alloc (.cells #[PtrB x] 159)).grownBy w6 lv.ownBlock->(∀ g,v'.ownBlock=some g->lv.ownBlock=some g\/(w5.alloc (.cells #[PtrB x] 159)).heap.size<=g)->RmI F G Q w c l (l.length-(i+1)) v' (.int .i64 ((i+1:Nat):Int)) w6:=by
  obtain ⟨c5,j5,rfl,hh5,hg5,hj5,hL5,hZ5,hk5⟩:=HoldY.call hh hg
  have hown5:=own_keep hown hk5
  have hl5:=hg5.len
  have hil:i<l.length:=(List.getElem?_eq_some_iff.1 ha).1
  have hmap:(ds.map fun p=>PtrB (ci.R p))=ds.map fun p=>PtrB (c5.R p):=List.map_congr_left fun p hp=>by rw [hg5.R p (hd p hp)]
  refine ⟨_,rfl,hown5,hh5.gone.but.size,hh5.gone.but,fun v' w6 ho hgr hm=>?_⟩
  refine ⟨i+1,c5,ds++[j5],rfl,by omega,Nat.le_refl _,HoldX.append _ hh5 h7 hown5 ho hgr hm,?_,?_,?_⟩
  · intro d hd'
    rcases List.mem_append.1 hd' with h | h
    · have:=hd d h;omega
    · simp at h;omega
  · rw [take_snocL ha]
    refine All2.snoc (h2.imp fun d b hdm h=>?_) ⟨hL5,hZ5⟩
    rw [hg5.lang (hd d hdm),hg5.sz (hd d hdm)]
    exact h
  · rw [List.map_append,<- hmap]
    exact ho
theorem one_ptrR2 (w:World)(x:Nat):∀ j u,[PtrB x][j]?=some u->(w.alloc (.cells #[PtrB x] 159)).cell? ((⟨w.heap.size,0,none⟩:Addr).add j)=some u:=one_ptrR w x
set_option maxRecDepth 100000 in
set_option maxHeartbeats 4000000 in
theorem beh_or {w:World}{c:MC}{q b1 b2 pc:Nat}{pa:Option Addr}{l:List Nat}{r:Int}(ih:∀ a∈l,BehOk a)(hI:MkI w c q)(hl:∀ a∈l,a<c.T.length)(hP:PowT w)(hr:runeB r=true)(n2:¬ c.S b2)(k1:Blk w b1 [.slice pa l.length pc] 166)(k2:Blk w b2 [PtrB c.m] 151)(hpa:PartsAt w c.S c.R pa l)(hq:q+sumL (fun a=>costM (sz c.T a)) l+1<=9000000000000000000)(hz:sumL (fun a=>(derM (sz c.T a)).z) l<=3000000000000) :
    Calls Tryz.prog 177 #[.int .i64 r,PtrB b1,PtrB b2] w (GivesL w c (q+sumL (fun a=>costM (sz c.T a)) l+1) (fun u=>∃ a∈l,der (lg c.T a) r u) (orM (fun a=>derM (sz c.T a)) l)):=by
  obtain ⟨i0,hi,hz0,hz1,hz2⟩:=info_parts Tryz.info159r
  have y1:w.cell? ⟨b1,0,none⟩=some (.slice pa l.length pc):=k1.cell 0
  have y2:w.cell? ⟨b2,0,none⟩=some (PtrB c.m):=k2.cell 0
  have hbl1:=k1.lt
  have hbl2:=k2.lt
  have hlen:l.length<=3000000000000:=Nat.le_trans (len_sumL (f:=fun a=>(derM (sz c.T a)).z) (fun a ha=>by
    have h1:=(hI.sz_one (hl a ha)).2.2.2
    have h2:=tri_ge (sz c.T a).z
    simp only [oneM] at h1
    simp only [derM]
    omega)) hz
  have hqi:∀ i a,l[i]?=some a->q+sumL (fun a=>costM (sz c.T a)) (l.take (i+1))=q+sumL (fun a=>costM (sz c.T a)) (l.take i)+costM (sz c.T a)/\sumL (fun a=>costM (sz c.T a)) (l.take (i+1))<=sumL (fun a=>costM (sz c.T a)) l:=fun i a ha=>by
    have h1:sumL (fun a=>costM (sz c.T a)) l=sumL (fun a=>costM (sz c.T a)) (l.take (i+1))+sumL (fun a=>costM (sz c.T a)) (l.drop (i+1)):=by rw [<- sumL_append,List.take_append_drop]
    rw [take_snocL ha,sumL_append] at h1 ⊢
    simp only [sumL] at h1 ⊢
    omega
  have hzi:∀ a∈l,(derM (sz c.T a)).z<=3000000000000:=fun a ha=>Nat.le_trans (le_sumL (f:=fun a=>(derM (sz c.T a)).z) ha) hz
  have HCALL:Hid (∀ (wr:World) (lv:Value) (i:Nat) (ci:MC) (ds:List Nat) (a:Nat),l[i]?=some a->HoldX w c wr ci (q+sumL (fun a=>costM (sz c.T a)) (l.take i)) lv.ownBlock->(∀ d∈ds,d<ci.T.length)->All2 (fun d a=>lg ci.T d=der (lg c.T a) r/\sz ci.T d<=derM (sz c.T a)) ds (l.take i)->wr.ownsRow w.heap.size 159 1 lv i (ds.map fun p=>PtrB (ci.R p)) ->
      ∃ k b,wr.cell? ⟨c.R a,4,none⟩=some (.func (.func 220) #[] #[PtrB k,PtrB b])/\c.R a<wr.heap.size/\Calls Tryz.prog 220 #[.int .i64 r,PtrB k,PtrB b] wr (fun r9 w5=>∃ x,r9=.returned (PtrB x)/\w5.ownsRow w.heap.size 159 1 lv i (ds.map fun p=>PtrB (ci.R p))/\w.heap.size<=w5.heap.size/\Hid (∀ v' w6,w6.ownsRow w.heap.size 159 1 v' (i+1) ((ds.map fun p=>PtrB (ci.R p))++[PtrB x])->(w5.alloc (.cells #[PtrB x] 159)).grownBy w6 lv.ownBlock->(∀ g,v'.ownBlock=some g->lv.ownBlock=some g\/(w5.alloc (.cells #[PtrB x] 159)).heap.size<=g)->RmI (fun a=>der (lg c.T a) r) (fun a=>derM (sz c.T a)) (fun i=>q+sumL (fun a=>costM (sz c.T a)) (l.take i)) w c l (l.length-(i+1)) v' (.int .i64 ((i+1:Nat):Int)) w6))):=fun wr lv i ci ds a ha hh hd h2 hown=>by
    have hal:=hl a (List.mem_of_getElem? ha)
    have hlen2:=hh.gone.len
    obtain ⟨e1,e2⟩:=hqi i a ha
    have hPr:PowT wr:=hh.gone.pow hI hP
    obtain ⟨k,b,hc,hlt,_⟩:=mk_beh hh.mk (i:=a) (show a<ci.T.length by omega)
    have hR:(ci.wX lv.ownBlock).R a=c.R a:=hh.gone.R a hal
    have hS:sz (ci.wX lv.ownBlock).T a=sz c.T a:=hh.gone.sz hal
    have hL:lg (ci.wX lv.ownBlock).T a=lg c.T a:=hh.gone.lang hal
    have hcall:=ih a (List.mem_of_getElem? ha) wr (ci.wX lv.ownBlock) _ r k b hh.mk (show a<ci.T.length by omega) hPr hr hc (by rw [hS];omega) (by rw [hS];exact hzi a (List.mem_of_getElem? ha))
    rw [hR] at hc hlt
    rw [hS,hL,<- e1] at hcall
    refine ⟨k,b,hc,hlt,hcall.mono fun r9 w5 hg=>?_⟩
    obtain ⟨x,h1,h3,h4,_,h5⟩:=RmI.call (F:=fun a=>der (lg c.T a) r) (G:=fun a=>derM (sz c.T a)) (Q:=fun i=>q+sumL (fun a=>costM (sz c.T a)) (l.take i)) hI.seven hh hd h2 hown ha hg
    exact ⟨x,h1,h3,h4,h5⟩
  have HPRT:Hid (∀ (wr:World) (ci:MC) (q':Nat) (o:Option Nat) (i p:Nat),HoldX w c wr ci q' o->l[i]?=some p->∃ bb off,pa=some ⟨bb,off,none⟩/\bb<wr.heap.size/\wr.cell? ⟨bb,off+i,none⟩=some (PtrB (c.R p))):=fun wr ci q' o i p hh hp=>by
    obtain ⟨bb,off,e,hbb,hbS,hcp⟩:=hpa i p hp
    have hs:=hh.gone.but.size
    exact ⟨bb,off,e,by omega,(hh.gone.but.cell (p:=⟨bb,off+i,none⟩) hbb hbS).trans hcp⟩
  have HM:Hid (∀ (wr:World) (ci:MC) (q':Nat) (o:Option Nat),HoldX w c wr ci q' o->wr.cell? ⟨b2,0,none⟩=some (PtrB c.m)/\b2<wr.heap.size/\w.heap.size<=wr.heap.size):=fun wr ci q' o hh=>⟨(hh.gone.but.cell (p:=⟨b2,0,none⟩) hbl2 n2).trans y2,by have:=hh.gone.but.size;omega,hh.gone.but.size⟩
  have HEND:Hid (∀ (wr:World) (lv:Value) (ci:MC) (ds:List Nat),HoldX w c wr ci (q+sumL (fun a=>costM (sz c.T a)) l) lv.ownBlock->(∀ d∈ds,d<ci.T.length)->All2 (fun d a=>lg ci.T d=der (lg c.T a) r/\sz ci.T d<=derM (sz c.T a)) ds l->wr.ownsRow w.heap.size 159 1 lv l.length (ds.map fun p=>PtrB (ci.R p)) ->
      Calls Tryz.prog 128 #[PtrB c.m,lv] wr (GivesL w c (q+sumL (fun a=>costM (sz c.T a)) l+1) (fun u=>∃ a∈l,der (lg c.T a) r u) (orM (fun a=>derM (sz c.T a)) l))):=fun wr lv ci ds hh hd h2 hown=>by
    obtain ⟨hI',hgo,pa',pc',rfl,hparts⟩:=HoldX.done hI hh hown
    have hc:=or_any (pc:=pc') hI' (hgo.pow hI hP) (by omega) hd hparts (Nat.le_trans (All2.sum (f:=fun a=>(sz ci.T a).z) (g:=fun a=>(derM (sz c.T a)).z) (h2.imp fun a b _ h=>h.2.2.2.2)) hz)
    rw [hgo.m] at hc
    refine hc.mono ?_
    rintro r9 w9 ⟨c9,j9,rfl,hI9,hG9,hj9,hL9,hZ9⟩
    refine ⟨c9,j9,rfl,hI9,hgo.trans hG9,hj9,?_,Me.trans hZ9 (All2.orM (h2.imp fun a b _ h=>h.2))⟩
    rw [hL9]
    funext u
    refine propext ⟨?_,?_⟩
    · rintro ⟨d,hd',hu⟩
      obtain ⟨a,ha,h,_⟩:=h2.left d hd'
      exact ⟨a,ha,by rw [<- h];exact hu⟩
    · rintro ⟨a,ha,hu⟩
      obtain ⟨d,hd',h,_⟩:=h2.right a ha
      exact ⟨d,hd',by rw [h];exact hu⟩
  have HST:Hid (RmI (fun a=>der (lg c.T a) r) (fun a=>derM (sz c.T a)) (fun i=>q+sumL (fun a=>costM (sz c.T a)) (l.take i)) w c l l.length (.slice none 0 0) (.int .i64 0) w):=RmI.start (by simpa [sumL] using hI) (Below.refl _ _)
  clear ih hI hl hP hr n2 k1 k2 hpa hq hz hqi hzi
  go_enter Tryz.func177,Tryz.ntmps177
  go_wp2_with fail
  go_loopg [5,10] l.length (fun j lv iv wr=>RmI (fun a=>der (lg c.T a) r) (fun a=>derM (sz c.T a)) (fun i=>q+sumL (fun a=>costM (sz c.T a)) (l.take i)) w c l j lv iv wr)
  case atStart=>exact HST.out
  case round =>
    obtain ⟨i,ci,ds,rfl,hil,hj,hh,hd,h2,hown⟩:=hrel
    have k0:(0:Int)<=(i:Int):=Int.natCast_nonneg _
    by_cases hlt:i<l.length
    · have k1:(i:Int)<(l.length:Int):=by omega
      obtain ⟨p,hp⟩:∃ p,l[i]?=some p:=⟨_,List.getElem?_eq_getElem hlt⟩
      obtain ⟨bb,off,rfl,hbb,hcp⟩:=HPRT.out wr ci _ _ i p hh hp
      obtain ⟨k,b,hc4,hRl,hcall⟩:=HCALL.out wr _ i ci ds p hp hh hd h2 hown
      have HC:=hide hcall
      clear hcall hh hd h2 hown hp
      go_wp2_with fail
      refine HC.out.mono ?_
      rintro r9 w5 ⟨x,rfl,hown5,hs5,HN⟩
      have HO5:=hide (hown5.alloc (.cells #[PtrB x] 159))
      clear hown5
      go_wp2_with (at_builtin;refine wpList_append_moves rfl _ _ 166 rfl w.heap.size 159 i0 (.pointer none) 1 8 Tryz.underlying166 hi hz0 hz1 hz2 rfl (by decide) _ _ _ rfl HO5.out ⟨w5.heap.size,0,none⟩ 1 1 [PtrB x] rfl rfl (one_ptrR2 _ _) (by simp [Value.oneCell']) (by unfold maxLen;omega) (by omega) (by simp;omega) ?_;intro v' w6 hown' hgrow hmv;have H6:=hide (HN.out v' w6 hown' hgrow hmv);clear hown' hgrow hmv)
      go_roundg (l.length-(i+1))
      all_goals first | omega | exact H6.out
    · have d1:decide ((i:Int)<(l.length:Int))=false:=decide_eq_false (by omega)
      have hie:i=l.length:=by omega
      subst hie
      rw [List.take_length] at h2
      simp only [List.take_length] at hh
      obtain ⟨z1,z2,z3⟩:=HM.out wr ci _ _ hh
      have HE:=hide (HEND.out wr _ ci ds hh hd h2 hown)
      clear hh hd h2 hown
      go_wp2_with fail
      refine HE.out.mono ?_
      intro r9 w9 h9
      have HG9:=hide h9
      obtain ⟨c9,j9,rfl,h10⟩:=h9
      clear h10
      go_wp2_with fail
      go_ret
      exact HG9.out
end Go.Proofs.YtpoibdhhcbelnaaGreatDoor
namespace Go.Proofs.YtpoibdhhcbelnaaGreatDoor
open Go.Shelf Go.RowKit Go.Lib Go.Sort Brm
theorem cost_pair {A B:Me}(hA:oneM<=A)(hB:oneM<=B):costM A+A.p+costM B+2<=costM (pairM A B):=by
  obtain ⟨a1,a2,a3,a4⟩:=hA
  obtain ⟨b1,b2,b3,b4⟩:=hB
  simp only [oneM] at a1 a2 a3 a4 b1 b2 b3 b4
  simp only [costM,pairM]
  obtain ⟨P,hP⟩:∃ P,max (A.p+B.n) B.p=P:=⟨_,rfl⟩
  rw [hP]
  have e1:A.y+B.y-1=(A.y-1)+(B.y-1)+1:=by omega
  rw [e1,Nat.mul_add,Nat.mul_add]
  have m1:(A.p+4)*(A.y-1)<=(P+4)*(A.y-1):=Nat.mul_le_mul_right _ (by omega)
  have m2:(B.p+4)*(B.y-1)<=(P+4)*(B.y-1):=Nat.mul_le_mul_right _ (by omega)
  omega
theorem cost_not {A:Me}(hA:oneM<=A):costM A+2<=costM (notM A):=by
  obtain ⟨a1,a2,a3,a4⟩:=hA
  simp only [oneM] at a1 a2 a3 a4
  simp only [costM,notM]
  have e1:A.y+1-1=(A.y-1)+1:=by omega
  rw [e1,Nat.mul_add]
  omega
theorem cost_many {A:Me}(hA:oneM<=A):costM A+1+A.p+1<=costM (manyM A):=by
  obtain ⟨a1,a2,a3,a4⟩:=hA
  simp only [oneM] at a1 a2 a3 a4
  simp only [costM,manyM]
  have e1:A.y+1-1=(A.y-1)+1:=by omega
  rw [e1,Nat.mul_add]
  have m1:(A.p+4)*(A.y-1)<=(A.p+1+4)*(A.y-1):=Nat.mul_le_mul_right _ (by omega)
  omega
theorem cost_sum {f:Nat->Me}{P:Nat}:∀ {l:List Nat},(∀ a∈l,oneM<=f a)->maxL (fun a=>(f a).p) l<=P->sumL (fun a=>costM (f a)) l+(P+4)*l.length<=(P+4)*sumL (fun a=>(f a).y) l+2*l.length
  | [],_,_=>by simp [sumL]
  | a::l,h,hp=>by
    obtain ⟨a1,a2,a3,a4⟩:=h a (by simp)
    simp only [oneM] at a1 a2 a3 a4
    simp only [maxL] at hp
    have ih:=cost_sum (f:=f) (P:=P) (l:=l) (fun b hb=>h b (by simp [hb])) (by omega)
    simp only [sumL,List.length_cons,costM] at ih ⊢
    have m1:((f a).p+4)*((f a).y-1)<=(P+4)*((f a).y-1):=Nat.mul_le_mul_right _ (by omega)
    have e1:(P+4)*(f a).y=(P+4)*((f a).y-1)+(P+4):=by
      conv=>lhs;rw [show (f a).y=((f a).y-1)+1 by omega,Nat.mul_add]
      omega
    rw [Nat.mul_add,Nat.mul_add,e1]
    omega
theorem cost_or {f:Nat->Me}{l:List Nat}(h:∀ a∈l,oneM<=f a)(h1:l.length≠1):sumL (fun a=>costM (f a)) l+2<=costM (orM f l):=by
  cases l with
  | nil=>simp [sumL,costM]
  | cons a l =>
    cases l with
    | nil=>simp at h1
    | cons b l =>
      obtain ⟨P,hP⟩:∃ P,max 1 (maxL (fun a=>(f a).p) (a::b::l))=P:=⟨_,rfl⟩
      have hc:=cost_sum (f:=f) (P:=P) h (by omega)
      have ha:=(h a (by simp)).2.2.1
      simp only [oneM] at ha
      simp only [costM,orM]
      rw [hP]
      obtain ⟨Y,hY⟩:∃ Y,sumL (fun a=>(f a).y) (a::b::l)=Y:=⟨_,rfl⟩
      have hY1:1<=Y:=by rw [<- hY];simp only [sumL];omega
      rw [hY] at hc ⊢
      rw [Nat.max_eq_right hY1]
      have e1:(P+4)*Y=(P+4)*(Y-1)+(P+4):=by
        conv=>lhs;rw [show Y=(Y-1)+1 by omega,Nat.mul_add]
        omega
      have e2:(P+4)*(a::b::l).length=(P+4)*l.length+(P+4)*2:=by rw [List.length_cons,List.length_cons,<- Nat.mul_add]
      have e3:4*l.length<=(P+4)*l.length:=Nat.mul_le_mul_right _ (by omega)
      simp only [List.length_cons] at hc e2
      simp only [costM] at hc
      omega
theorem rune_int {r:Int}(h:runeB r=true):-9223372036854775808<=r/\r<=9223372036854775807:=by
  simp only [runeB,decide_eq_true_eq] at h
  omega
theorem behind_all:∀ i,BehOk i:=by
  intro i
  induction i using Nat.strongRecOn with
  | ind i ih =>
    intro w c q r k b hI hi hP hr hcell hq hz
    obtain ⟨e,he⟩:∃ e,c.T[i]?=some e:=⟨_,List.getElem?_eq_getElem hi⟩
    obtain ⟨pa,pc,en,k0,b0,F,cp,h1,hen,hpa,n0,nk,nb,hK,hB,hbv⟩:=hI.rest i e he
    have hwf:=hI.wf i e he
    have hpl:∀ a∈e.parts,a<c.T.length:=fun a ha=>by have:=hwf.2 a ha;omega
    have hsz:sz c.T i=e.size (sz c.T):=sz_at he hwf.2
    have hlg:lg c.T i=e.lang (lg c.T):=hI.lang he
    obtain ⟨ri0,ri9⟩:=rune_int hr
    have hc4:w.cell? ⟨c.R i,4,none⟩=some (.func (.func 220) #[] #[PtrB k0,PtrB b0]):=Blk.cell h1 4
    rw [hcell] at hc4
    have ek:k=k0/\b=b0:=by
      injection hc4 with h;injection h with _ _ h;injection h with h;injection h with h h';injection h' with h' _
      injection h with h;injection h with h;injection h with h
      injection h' with h';injection h' with h';injection h' with h'
      exact ⟨h,h'⟩
    obtain ⟨rfl,rfl⟩:=ek
    have fin:∀ Q,q<=Q->Q+1<=q+costM (sz c.T i)->(∀ args w,(callFunc F args).run Tryz.prog w=.ok (.enter F args) w)->Calls Tryz.prog F (#[.int .i64 r]++cp) w (GivesL w c Q (der (lg c.T i) r) (derM (sz c.T i)))->Calls Tryz.prog 220 #[.int .i64 r,PtrB k,PtrB b] w (GivesL w c (q+costM (sz c.T i)) (der (lg c.T i) r) (derM (sz c.T i))):=fun Q h1 h2 eg hin =>
      (rst_rem hI hi (by omega) h1 ri0 ri9 hK hB nk eg hin).mono fun r9 w9 h9=>h9.more h2
    cases e with
    | set s =>
      obtain ⟨b1,b2,la,lc,rfl,rfl,n1,n2,k1,k2,hrd,_⟩:=hbv
      have hcost:costM (sz c.T i)=2:=by rw [hsz];rfl
      refine fin q (Nat.le_refl _) (by omega) (enters_of Tryz.func184 (by kernel_rfl) rfl) ?_
      refine (beh_set hI hr k1 k2 hrd (canon_len' hwf.1.2) (L:=der (lg c.T i) r) (by rw [hlg];exact der_set)).mono fun r9 w9 h9=>?_
      obtain ⟨c9,j9,e9,g1,g2,g3,g4,g5⟩:=h9
      refine ⟨c9,j9,e9,g1,g2,g3,g4,Me.trans g5 ?_⟩
      rw [hsz]
      show oneM<=derM oneM
      exact ⟨by decide,by decide,by decide,by decide⟩
    | empty =>
      obtain ⟨b1,rfl,rfl,n1,k1⟩:=hbv
      have hcost:costM (sz c.T i)=2:=by rw [hsz];rfl
      refine fin q (Nat.le_refl _) (by omega) (enters_of Tryz.func130 (by kernel_rfl) rfl) ?_
      refine (beh_empty hI k1).mono fun r9 w9 h9=>?_
      obtain ⟨c9,j9,e9,g1,g2,g3,g4,g5⟩:=h9
      refine ⟨c9,j9,e9,g1,g2,g3,?_,Me.trans g5 ?_⟩
      · rw [g4,hlg]
        funext u
        refine propext ⟨fun h=>h.elim,fun h=>?_⟩
        cases h
      · rw [hsz]
        show oneM<=derM oneM
        exact ⟨by decide,by decide,by decide,by decide⟩
    | pair x y =>
      obtain ⟨b1,b2,b3,rfl,rfl,n1,n2,n3,k1,k2,k3⟩:=hbv
      have hx:=hpl x (by simp [RE.parts])
      have hy:=hpl y (by simp [RE.parts])
      have hcost:=cost_pair (hI.sz_one hx) (hI.sz_one hy)
      have hsz':sz c.T i=pairM (sz c.T x) (sz c.T y):=hsz
      rw [hsz'] at hq hz fin ⊢
      refine fin (q+costM (sz c.T x)+(sz c.T x).p+costM (sz c.T y)+1) (by omega) (by omega) (enters_of Tryz.func236 (by kernel_rfl) rfl) ?_
      have:=beh_pair (ih x (hwf.2 x (by simp [RE.parts]))) (ih y (hwf.2 y (by simp [RE.parts]))) hI hx hy hP hr n1 n2 n3 k1 k2 k3 (by omega) hz
      rw [hlg]
      exact this
    | or l =>
      obtain ⟨b1,b2,pa2,pc2,rfl,rfl,_,n2,k1,k2,hpa2⟩:=hbv
      have hone:∀ a∈l,oneM<=sz c.T a:=fun a ha=>hI.sz_one (hpl a ha)
      have hcost:=cost_or (f:=sz c.T) hone hwf.1.1
      have hsz':sz c.T i=orM (sz c.T) l:=hsz
      rw [hsz'] at hq hz fin ⊢
      refine fin (q+sumL (fun a=>costM (sz c.T a)) l+1) (by omega) (by omega) (enters_of Tryz.func177 (by kernel_rfl) rfl) ?_
      have hzs:sumL (fun a=>(derM (sz c.T a)).z) l<=3000000000000:=by
        have t2:sumL (fun a=>tri (sz c.T a).z) l<=tri (sumL (fun a=>(sz c.T a).z) l):=tri_sum l
        have u2:=tri_mono (show sumL (fun a=>(sz c.T a).z) l<=max 1 (sumL (fun a=>(sz c.T a).z) l) by omega)
        simp only [derM,orM] at hz ⊢
        omega
      have:=beh_or (l:=l) (fun a ha=>ih a (hwf.2 a ha)) hI hpl hP hr n2 k1 k2 hpa2 (by omega) hzs
      refine this.mono fun r9 w9 h9=>?_
      obtain ⟨c9,j9,e9,g1,g2,g3,g4,g5⟩:=h9
      refine ⟨c9,j9,e9,g1,g2,g3,?_,Me.trans g5 (der_orM _ _)⟩
      rw [g4,hlg]
      rfl
    | not a =>
      obtain ⟨b1,b2,rfl,rfl,n1,n2,k1,k2⟩:=hbv
      have ha:=hpl a (by simp [RE.parts])
      have hcost:=cost_not (hI.sz_one ha)
      have hsz':sz c.T i=notM (sz c.T a):=hsz
      rw [hsz'] at hq hz fin ⊢
      refine fin (q+costM (sz c.T a)+1) (by omega) (by omega) (enters_of Tryz.func188 (by kernel_rfl) rfl) ?_
      have:=beh_not (ih a (hwf.2 a (by simp [RE.parts]))) hI ha hP hr n1 n2 k1 k2 (by omega) hz
      refine this.mono fun r9 w9 h9=>?_
      obtain ⟨c9,j9,e9,g1,g2,g3,g4,g5⟩:=h9
      refine ⟨c9,j9,e9,g1,g2,g3,?_,Me.trans g5 (der_notM _)⟩
      rw [g4,hlg]
      rfl
    | many a m n =>
      obtain ⟨b1,b2,b3,b4,rfl,rfl,n1,n2,n3,n4,k1,k2,k3,k4⟩:=hbv
      have ha:=hpl a (by simp [RE.parts])
      have hcost:=cost_many (hI.sz_one ha)
      have hsz':sz c.T i=manyM (sz c.T a):=hsz
      rw [hsz'] at hq hz fin ⊢
      obtain ⟨w1,w2,w3⟩:=hwf.1
      refine fin (q+costM (sz c.T a)+1+(sz c.T a).p) (by omega) (by omega) (enters_of Tryz.func189 (by kernel_rfl) rfl) ?_
      have hza:(derM (sz c.T a)).z<=3000000000000:=by
        have:=tri_mono (show (sz c.T a).z<=(sz c.T a).z+1 by omega)
        simp only [derM,manyM] at hz ⊢
        omega
      have:=beh_many (ih a (hwf.2 a (by simp [RE.parts]))) hI ha hP hr w1 w2 w3 n1 n2 n3 n4 k1 k2 k3 k4 (by omega) hza
      refine this.mono fun r9 w9 h9=>?_
      obtain ⟨c9,j9,e9,g1,g2,g3,g4,g5⟩:=h9
      refine ⟨c9,j9,e9,g1,g2,g3,?_,Me.trans g5 (der_manyM _)⟩
      rw [g4,hlg]
      exact (der_many w1 (by rcases w3 with h | h;exact .inl h;exact .inr h.1)).symm
end Go.Proofs.YtpoibdhhcbelnaaGreatDoor
namespace Go.Proofs.YtpoibdhhcbelnaaGreatDoor
open Go.Shelf Go.RowKit Go.Lib Brm
def setL (s:List (Int×Int)):Lg:=fun u=>∃ x,u=[x]/\memB s x=true
theorem setL_nil:setL []=noneL:=by
  funext u
  refine propext ⟨?_,fun h=>h.elim⟩
  rintro ⟨x,_,h⟩
  simp [memB] at h
theorem canon_int {s:List (Int×Int)}(h:Canon s):∀ x∈flat s,-9223372036854775808<=x/\x<=9223372036854775807:=fun x hx=>by
  obtain ⟨y,hy,e⟩:=flat_mem hx
  obtain ⟨g1,g2,_⟩:=h.1 y hy
  simp only [runeB,decide_eq_true_eq] at g1 g2
  rcases e with rfl | rfl<;>omega
set_option maxRecDepth 100000 in
set_option maxHeartbeats 4000000 in
theorem mkset_nil {w:World}{c:MC}{q lc:Nat}{la:Option Addr}(hI:MkI w c q):Calls Tryz.prog 137 #[PtrB c.m,.slice la 0 lc] w (GivesL w c q (setL []) oneM):=by
  have HG:Hid (∀ w',Below w.heap.size w w'->GivesL w c q (setL []) oneM (.returned (PtrB (c.R 0))) w'):=fun w' hb=>⟨c,0,rfl,hI.below hb,Gone.below hb,(List.getElem?_eq_some_iff.1 hI.t0).1,by rw [setL_nil];exact hI.none,by rw [hI.sz0];exact Me.refl _⟩
  have c4:w.cell? ⟨c.m,1,none⟩=some (PtrB (c.R 0)):=hI.mb.cell 1
  have hml:=hI.mb.lt
  clear hI
  go_enter Tryz.func137,Tryz.ntmps137
  go_wp2_with fail
  go_ret
  exact HG.out _ (((Below.refl _ _).alloc (Nat.le_refl _) _).alloc (by simp) _)
set_option maxRecDepth 100000 in
set_option maxHeartbeats 4000000 in
theorem mkset_some {w:World}{c:MC}{q lc:Nat}{la:Option Addr}{l:List (Int×Int)}(hI:MkI w c q)(hP:PowT w)(hq:q<=9000000000000000000)(hl:Rd w la l)(hla:∀ b o,la=some ⟨b,o,none⟩->b<w.heap.size/\¬ c.S b)(hcan:Canon l)(hl0:l.length≠0)(hl9:l.length<=400000) :
    Calls Tryz.prog 137 #[PtrB c.m,.slice la l.length lc] w (GivesL w c (q+1) (setL l) oneM):=by
  obtain ⟨i0,hi,hz0,hz1,hz2⟩:=info_parts Tryz.info3
  obtain ⟨W0,hW0⟩:∃ W0,(w.alloc (.cells #[PtrB c.m] 151)).alloc (.cells #[.slice la l.length lc] 29)=W0:=⟨_,rfl⟩
  have hB0:Below w.heap.size w W0:=by rw [<- hW0];exact ((Below.refl _ _).alloc (Nat.le_refl _) _).alloc (by simp) _
  have hb1:Blk W0 w.heap.size [PtrB c.m] 151:=by rw [<- hW0];exact (Blk.new w [PtrB c.m] 151).alloc _
  have hb2:Blk W0 (w.heap.size+1) [.slice la l.length lc] 29:=by rw [<- hW0];have:=Blk.new (w.alloc (.cells #[PtrB c.m] 151)) [.slice la l.length lc] 29;simpa using this
  have hs0:W0.heap.size=w.heap.size+2:=by rw [<- hW0];simp
  have hml:=hI.mb.lt
  have HI:=hide hI
  have HP:=hide hP
  have HL:=hide hl
  have HLA:=hide hla
  have HC:=hide hcan
  have HW0:=hide hW0
  have HB0:=hide hB0
  have HB1:=hide hb1
  have HB2:=hide hb2
  have c2:W0.cell? ⟨w.heap.size+1,0,none⟩=some (.slice la l.length lc):=hb2.cell 0
  have hz:((l.length:Int) == 0)=false:=beq_eq_false_iff_ne.2 (by omega)
  have hz':(l.length == 0)=false:=beq_eq_false_iff_ne.2 hl0
  clear hI hP hl hla hcan hW0 hB0 hb1 hb2
  go_enter Tryz.func137,Tryz.ntmps137
  go_wp2_with fail
  rw [HW0.out]
  generalize hS:w.heap.size=S at *
  go_wp2_with fail
  go_loopg [5,18] l.length (fun j ev iv wr=>SetI w S la lc c.m l j ev iv wr)
  case atStart=>exact ⟨0,rfl,Nat.zero_le _,by omega,World.ownsRow_nil _ _ _ _,HB0.out,HB1.out,HB2.out⟩
  case round =>
    obtain ⟨i,rfl,hil,hj,hown,hbel,hk1,hk2⟩:=hrel
    have k0:(0:Int)<=(i:Int):=Int.natCast_nonneg _
    have hsz:S+2<=wr.heap.size:=by have:=hk2.lt;omega
    by_cases hlt:i<l.length
    · have k1:(i:Int)<(l.length:Int):=by omega
      obtain ⟨b,off,rfl,hb,h1,h2⟩:=HL.out i l[i] (List.getElem?_eq_getElem hlt)
      generalize hx:l[i]=x at h1 h2
      have HX:Hid (l.take (i+1)=l.take i++[x]):=take_snocL (by rw [List.getElem?_eq_getElem hlt,hx])
      obtain ⟨x1,x2⟩:=x
      simp only at h1 h2
      rw [hS] at hb
      rw [<- hbel.cell (p:=⟨b,_,none⟩) hb] at h1 h2
      have hbw:b<wr.heap.size:=by omega
      have HOWN:=hide hown
      have HK1:=hide hk1
      have HK2:=hide hk2
      have HBL:=hide hbel
      have HXX:=hide hx
      clear hx hk1 hk2 hbel
      go_wp2_with (at_builtin;refine wpList_append_own _ rfl _ _ 48 rfl (S+2) 3 i0 (.int .i64 0) 1 8 Tryz.underlying48 hi hz0 hz1 hz2 rfl (by decide) _ _ _ rfl ((hown.alloc _).alloc _) ⟨wr.heap.size+1,0,none⟩ 2 2 [.int .i64 x1,.int .i64 x2] rfl rfl (two_cells _ _ _ _) (new_one _ _) (by unfold maxLen;omega) (by omega) (by simp;omega) ?_;intro v' w3 hown' hgrow _)
      have R2:=((HBL.out.alloc (by omega) (.cells #[.int .i64 x1,.int .i64 x2] 149)).alloc (by simp;omega) (.cells #[.int .i64 x1,.int .i64 x2] 3)).grown hgrow (by simp;omega) (fun k e=>by have:=(hown.lt k e).1;omega)
      have hfar:∀ k,k<S+2->some k≠Value.ownBlock u5:=fun k hk e=>by have:=(hown.lt k e.symm).1;omega
      have HB5:=hide (((HK1.out.alloc (.cells #[.int .i64 x1,.int .i64 x2] 149)).alloc (.cells #[.int .i64 x1,.int .i64 x2] 3)).grown hgrow (hfar _ (by omega)))
      have HB6:=hide (((HK2.out.alloc (.cells #[.int .i64 x1,.int .i64 x2] 149)).alloc (.cells #[.int .i64 x1,.int .i64 x2] 3)).grown hgrow (hfar _ (by omega)))
      go_roundg (gk-1)
      case measure=>omega
      case rel =>
        refine ⟨i+1,by go_num,by omega,by omega,?_,R2,HB5.out,HB6.out⟩
        have e2:ints (flat (l.take (i+1)))=ints (flat (l.take i))++[.int .i64 x1,.int .i64 x2]:=by rw [HX.out,flat_snoc];simp [ints]
        rw [e2,show 2*(i+1)=2*i+2 by omega]
        exact hown'
    · have d1:decide ((i:Int)<(l.length:Int))=false:=decide_eq_false (by omega)
      have d2:decide (i<l.length)=false:=decide_eq_false hlt
      have hie:i=l.length:=by omega
      subst hie
      rw [List.take_length] at hown
      obtain ⟨ea,ec,rfl,hints,_⟩:=own_ints hown (canon_int HC.out)
      have e1:wr.cell? ⟨S,0,none⟩=some (PtrB c.m):=hk1.cell 0
      have HBW:Hid (Below w.heap.size w (wr.alloc (.cells #[.int .i64 0,.int .i64 0,.slice none 0 0,.bool false,.func (.func 184) #[] #[PtrB (S+1),PtrB S]] 169))):=by
        show Below w.heap.size w _
        rw [hS]
        exact hbel.alloc (show S<=wr.heap.size by omega) _
      have hBx:Below wr.heap.size wr (wr.alloc (.cells #[.int .i64 0,.int .i64 0,.slice none 0 0,.bool false,.func (.func 184) #[] #[PtrB (S+1),PtrB S]] 169)):=(Below.refl _ _).alloc (Nat.le_refl _) _
      have hn:∀ g,S<=g->g≠wr.heap.size->¬ (c.S g\/g=wr.heap.size):=fun g h1 h2 h3=>by
        rcases h3 with h3 | h3
        · have:=HI.out.S_lt h3;omega
        · exact h2 h3
      have hrd:Rd (wr.alloc (.cells #[.int .i64 0,.int .i64 0,.slice none 0 0,.bool false,.func (.func 184) #[] #[PtrB (S+1),PtrB S]] 169)) la l:=Rd.below HL.out HBW.out
      have HKEEP:=hide (mk_keep (e:=.set l) (n0:=0) (pa:=none) (pc:=0) (en:=false) (F:=184) (cp:=#[PtrB (S+1),PtrB S]) (x:=wr.heap.size) (mc:=ec) HI.out HBW.out (HP.out.below HBW.out) ⟨fun h=>hl0 (by rw [h];rfl),HC.out⟩ (fun a ha=>by simp [RE.parts] at ha) (by omega) (Blk.new wr _ 169) (by
          refine ⟨fun h=>(by cases h),?_⟩
          rintro ⟨x,e,_⟩
          cases e) (fun j p hj=>by simp [RE.parts] at hj)
        ⟨S+1,S,la,lc,rfl,rfl,hn _ (by omega) (by omega),hn _ (by omega) (by omega),hk2.alloc _,hk1.alloc _,hrd,fun b o e=>by
          obtain ⟨h1,h2⟩:=HLA.out b o e
          refine ⟨by simp;omega,?_⟩
          rintro (h3 | h3)
          · exact h2 h3
          · omega⟩ (hints.below hBx) (show (flat l).length<=1000000 by rw [flat_len];omega) (by simp [RE.parts]) hq)
      have HGL:Hid (∀ r w9,GivesE w c (q+1) (.set l) r w9->GivesL w c (q+1) (setL l) oneM r w9):=fun r w9 h9=>h9.at (Below.refl _ _) (fun a ha=>by simp [RE.parts] at ha) rfl (Me.refl _)
      clear hown hints hk1 hk2 hbel hBx hn hrd
      go_wp2_with fail
      refine HKEEP.out.mono ?_
      intro r w9 h9
      have HG9:=hide (HGL.out r w9 h9)
      obtain ⟨c9,j9,rfl,h10⟩:=h9
      clear h10
      go_wp2_with fail
      go_ret
      exact HG9.out
theorem mkset_any {w:World}{c:MC}{q lc:Nat}{la:Option Addr}{l:List (Int×Int)}(hI:MkI w c q)(hP:PowT w)(hq:q<=9000000000000000000)(hl:Rd w la l)(hla:∀ b o,la=some ⟨b,o,none⟩->b<w.heap.size/\¬ c.S b)(hcan:Canon l)(hl9:l.length<=400000) :
    Calls Tryz.prog 137 #[PtrB c.m,.slice la l.length lc] w (GivesL w c (q+1) (setL l) oneM):=by
  by_cases h0:l.length=0
  · have:l=[]:=List.length_eq_zero_iff.1 h0
    subst this
    exact (mkset_nil hI).mono fun r w' h=>h.more (by omega)
  · exact mkset_some hI hP hq hl hla hcan h0 hl9
end Go.Proofs.YtpoibdhhcbelnaaGreatDoor
namespace Go.Proofs.YtpoibdhhcbelnaaGreatDoor
open Go.Shelf Go.RowKit Go.Lib Go.Sort Brm
set_option maxRecDepth 100000 in
set_option maxHeartbeats 4000000 in
theorem and_any {w:World}{c:MC}{q pc:Nat}{pa:Option Addr}{l:List Nat}(hI:MkI w c q)(hl:∀ a∈l,a<c.T.length)(hP:PowT w)(hpa:PartsAt w c.S c.R pa l)(hq:q+l.length+2<=9000000000000000000)(hz:sumL (fun a=>(sz c.T a).z) l<=3000000000000) :
    Calls Tryz.prog 139 #[PtrB c.m,.slice pa l.length pc] w (GivesL w c (q+l.length+2) (fun u=>∀ a∈l,lg c.T a u) (notM (orM (fun a=>notM (sz c.T a)) l))):=by
  obtain ⟨i0,hi,hz0,hz1,hz2⟩:=info_parts Tryz.info159r
  have hlen:l.length<=3000000000000:=Nat.le_trans (len_sumL (f:=fun a=>(sz c.T a).z) (fun a ha=>(hI.sz_one (hl a ha)).2.2.2)) hz
  have HCALL:Hid (∀ (wr:World) (lv:Value) (i:Nat) (ci:MC) (ds:List Nat) (a:Nat),l[i]?=some a->HoldX w c wr ci (q+i) lv.ownBlock->(∀ d∈ds,d<ci.T.length)->All2 (fun d a=>lg ci.T d=notL (lg c.T a)/\sz ci.T d<=notM (sz c.T a)) ds (l.take i)->wr.ownsRow w.heap.size 159 1 lv i (ds.map fun p=>PtrB (ci.R p)) ->
      Calls Tryz.prog 140 #[PtrB c.m,PtrB (c.R a)] wr (fun r9 w5=>∃ x,r9=.returned (PtrB x)/\w5.ownsRow w.heap.size 159 1 lv i (ds.map fun p=>PtrB (ci.R p))/\w.heap.size<=w5.heap.size/\Hid (∀ v' w6,w6.ownsRow w.heap.size 159 1 v' (i+1) ((ds.map fun p=>PtrB (ci.R p))++[PtrB x])->(w5.alloc (.cells #[PtrB x] 159)).grownBy w6 lv.ownBlock->(∀ g,v'.ownBlock=some g->lv.ownBlock=some g\/(w5.alloc (.cells #[PtrB x] 159)).heap.size<=g)->RmI (fun a=>notL (lg c.T a)) (fun a=>notM (sz c.T a)) (fun i=>q+i) w c l (l.length-(i+1)) v' (.int .i64 ((i+1:Nat):Int)) w6))):=fun wr lv i ci ds a ha hh hd h2 hown=>by
    have hal:=hl a (List.mem_of_getElem? ha)
    have hil:i<l.length:=(List.getElem?_eq_some_iff.1 ha).1
    have hlen2:=hh.gone.len
    have hPr:PowT wr:=hh.gone.pow hI hP
    have hR:(ci.wX lv.ownBlock).R a=c.R a:=hh.gone.R a hal
    have hM:(ci.wX lv.ownBlock).m=c.m:=hh.gone.m
    have hS:sz (ci.wX lv.ownBlock).T a=sz c.T a:=hh.gone.sz hal
    have hL:lg (ci.wX lv.ownBlock).T a=lg c.T a:=hh.gone.lang hal
    have hcall:=mknot_any (a:=a) hh.mk (by omega) (show a<ci.T.length by omega) hPr
    rw [hR,hM,hS,hL] at hcall
    refine hcall.mono fun r9 w5 hg=>?_
    obtain ⟨x,h1,h3,h4,_,h5⟩:=RmI.call (F:=fun a=>notL (lg c.T a)) (G:=fun a=>notM (sz c.T a)) (Q:=fun i=>q+i) hI.seven hh hd h2 hown ha hg
    exact ⟨x,h1,h3,h4,h5⟩
  have HPRT:Hid (∀ (wr:World) (ci:MC) (q':Nat) (o:Option Nat) (i p:Nat),HoldX w c wr ci q' o->l[i]?=some p->∃ bb off,pa=some ⟨bb,off,none⟩/\bb<wr.heap.size/\wr.cell? ⟨bb,off+i,none⟩=some (PtrB (c.R p))):=fun wr ci q' o i p hh hp=>by
    obtain ⟨bb,off,e,hbb,hbS,hcp⟩:=hpa i p hp
    have hs:=hh.gone.but.size
    exact ⟨bb,off,e,by omega,(hh.gone.but.cell (p:=⟨bb,off+i,none⟩) hbb hbS).trans hcp⟩
  have HEND:Hid (∀ (wr:World) (lv:Value) (ci:MC) (ds:List Nat),HoldX w c wr ci (q+l.length) lv.ownBlock->(∀ d∈ds,d<ci.T.length)->All2 (fun d a=>lg ci.T d=notL (lg c.T a)/\sz ci.T d<=notM (sz c.T a)) ds l->wr.ownsRow w.heap.size 159 1 lv l.length (ds.map fun p=>PtrB (ci.R p)) ->
      Calls Tryz.prog 128 #[PtrB c.m,lv] wr (fun r9 w9=>∃ x,r9=.returned (PtrB x)/\Hid (GivesL w c (q+l.length+1) (fun u=>∃ a∈l,notL (lg c.T a) u) (orM (fun a=>notM (sz c.T a)) l) (.returned (PtrB x)) w9))):=fun wr lv ci ds hh hd h2 hown=>by
    obtain ⟨hI',hgo,pa',pc',rfl,hparts⟩:=HoldX.done hI hh hown
    have hc:=or_any (pc:=pc') hI' (hgo.pow hI hP) (by omega) hd hparts (Nat.le_trans (All2.sum (f:=fun a=>(sz ci.T a).z) (g:=fun a=>(sz c.T a).z) (h2.imp fun a b _ h=>h.2.2.2.2)) hz)
    rw [hgo.m] at hc
    refine hc.mono ?_
    rintro r9 w9 ⟨c9,j9,rfl,hI9,hG9,hj9,hL9,hZ9⟩
    refine ⟨_,rfl,c9,j9,rfl,hI9,hgo.trans hG9,hj9,?_,Me.trans hZ9 (All2.orM (h2.imp fun a b _ h=>h.2))⟩
    rw [hL9]
    funext u
    refine propext ⟨?_,?_⟩
    · rintro ⟨d,hd',hu⟩
      obtain ⟨a,ha,h,_⟩:=h2.left d hd'
      exact ⟨a,ha,by rw [<- h];exact hu⟩
    · rintro ⟨a,ha,hu⟩
      obtain ⟨d,hd',h,_⟩:=h2.right a ha
      exact ⟨d,hd',by rw [h];exact hu⟩
  have HNOT:Hid (∀ (w9:World) (x:Nat),GivesL w c (q+l.length+1) (fun u=>∃ a∈l,notL (lg c.T a) u) (orM (fun a=>notM (sz c.T a)) l) (.returned (PtrB x)) w9->Calls Tryz.prog 140 #[PtrB c.m,PtrB x] w9 (GivesL w c (q+l.length+2) (fun u=>∀ a∈l,lg c.T a u) (notM (orM (fun a=>notM (sz c.T a)) l)))):=fun w9 x hg=>by
    obtain ⟨c9,j9,e9,hI9,hG9,hj9,hL9,hZ9⟩:=hg
    have e6:x=c9.R j9:=by injection e9 with e;injection e with e;injection e with e;injection e
    subst e6
    have hc:=mknot_any hI9 (by omega) hj9 (hG9.pow hI hP)
    rw [hG9.m] at hc
    refine hc.mono ?_
    rintro r9 w5 ⟨c5,j5,rfl,hI5,hG5,hj5,hL5,hZ5⟩
    refine ⟨c5,j5,rfl,hI5,hG9.trans hG5,hj5,?_,Me.trans hZ5 (notM_mono hZ9)⟩
    rw [hL5,hL9]
    funext u
    refine propext ⟨fun h a ha=>Classical.byContradiction fun hn=>h ⟨a,ha,hn⟩,?_⟩
    rintro h ⟨a,ha,hn⟩
    exact hn (h a ha)
  have HSZ:Hid (∀ (wr:World) (ci:MC) (q':Nat) (o:Option Nat),HoldX w c wr ci q' o->w.heap.size<=wr.heap.size):=fun wr ci q' o hh=>hh.gone.but.size
  have HST:Hid (RmI (fun a=>notL (lg c.T a)) (fun a=>notM (sz c.T a)) (fun i=>q+i) w c l l.length (.slice none 0 0) (.int .i64 0) w):=RmI.start (by simpa using hI) (Below.refl _ _)
  clear hI hl hP hpa hq hz
  go_enter Tryz.func139,Tryz.ntmps139
  go_wp2_with fail
  go_loopg [5,10] l.length (fun j lv iv wr=>RmI (fun a=>notL (lg c.T a)) (fun a=>notM (sz c.T a)) (fun i=>q+i) w c l j lv iv wr)
  case atStart=>exact HST.out
  case round =>
    obtain ⟨i,ci,ds,rfl,hil,hj,hh,hd,h2,hown⟩:=hrel
    have k0:(0:Int)<=(i:Int):=Int.natCast_nonneg _
    by_cases hlt:i<l.length
    · have k1:(i:Int)<(l.length:Int):=by omega
      obtain ⟨p,hp⟩:∃ p,l[i]?=some p:=⟨_,List.getElem?_eq_getElem hlt⟩
      obtain ⟨bb,off,rfl,hbb,hcp⟩:=HPRT.out wr ci _ _ i p hh hp
      have HC:=hide (HCALL.out wr _ i ci ds p hp hh hd h2 hown)
      clear hh hd h2 hown hp
      go_wp2_with fail
      refine HC.out.mono ?_
      rintro r9 w5 ⟨x,rfl,hown5,hs5,HN⟩
      have HO5:=hide (hown5.alloc (.cells #[PtrB x] 159))
      clear hown5
      go_wp2_with (at_builtin;refine wpList_append_moves rfl _ _ 166 rfl w.heap.size 159 i0 (.pointer none) 1 8 Tryz.underlying166 hi hz0 hz1 hz2 rfl (by decide) _ _ _ rfl HO5.out ⟨w5.heap.size,0,none⟩ 1 1 [PtrB x] rfl rfl (one_ptrR2 _ _) (by simp [Value.oneCell']) (by unfold maxLen;omega) (by omega) (by simp;omega) ?_;intro v' w6 hown' hgrow hmv;have H6:=hide (HN.out v' w6 hown' hgrow hmv);clear hown' hgrow hmv)
      go_roundg (l.length-(i+1))
      all_goals first | omega | exact H6.out
    · have d1:decide ((i:Int)<(l.length:Int))=false:=decide_eq_false (by omega)
      have hie:i=l.length:=by omega
      subst hie
      rw [List.take_length] at h2
      have HE:=hide (HEND.out wr _ ci ds hh hd h2 hown)
      clear hh hd h2 hown
      go_wp2_with fail
      refine HE.out.mono ?_
      rintro r9 w9 ⟨x,rfl,hg⟩
      have HN:=hide (HNOT.out w9 x hg.out)
      clear hg
      go_wp2_with fail
      refine HN.out.mono ?_
      intro r9 w9 h9
      have HG9:=hide h9
      obtain ⟨c9,j9,rfl,h10⟩:=h9
      clear h10
      go_wp2_with fail
      go_ret
      exact HG9.out
end Go.Proofs.YtpoibdhhcbelnaaGreatDoor
