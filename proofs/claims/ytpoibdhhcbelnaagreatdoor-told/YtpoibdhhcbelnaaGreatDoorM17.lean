/- Walks and plain laws, some texts in one. -/
import Derived.Deep.RegionHeld3
import Derived.Deep.AppendLies
import Derived.Laws.Cover4
import Derived.Laws.IdiomStrings
import Derived.Laws.StructEq
import Derived.BigRegion
import Derived.BigQuiet
import Derived.Deep.QuietTactic
import Derived.Test.YtpoibdhhcbelnaaGreatDoorM15
import Derived.Test.YtpoibdhhcbelnaaGreatDoorM16
import Derived.Test.YtpoibdhhcbelnaaGreatDoorM09
import Derived.Test.YtpoibdhhcbelnaaGreatDoorM03
import Derived.Test.YtpoibdhhcbelnaaGreatDoorM05
import Derived.Test.YtpoibdhhcbelnaaGreatDoorM06
import Derived.Test.YtpoibdhhcbelnaaGreatDoorM02
import Derived.Test.YtpoibdhhcbelnaaGreatDoorM04
namespace Go.Proofs.YtpoibdhhcbelnaaGreatDoor
open Go.RowKit Brm
def PRd (w:World)(b:Nat)(s:ByteArray)(pos d m:Int):Prop:=Blk w b [.string s,.int .i64 pos,.int .i64 d,.int .i64 m] 116
def PSt (w:World)(b:Nat)(s:ByteArray)(l r:List Int)(d m:Int):Prop :=
  PRd w b s (posOf (l.length-r.length) (bytesOf s)) d m/\r <:+ l/\Runes (bytesOf s) l/\s.size<=60/\Tabs w/\7<=b/\0<=d/\d<=((l.length-r.length:Nat):Int)/\0<=m/\m<=((l.length-r.length:Nat):Int)/\d<=m
theorem suf_drop {r l:List Int}(h:r <:+ l):l.drop (l.length-r.length)=r:=by
  obtain ⟨p,rfl⟩:=h
  rw [List.length_append,Nat.add_sub_cancel,List.drop_left]
theorem front {s:ByteArray}{l r:List Int}(hr:Runes (bytesOf s) l)(h:r <:+ l):Runes ((bytesOf s).drop (posOf (l.length-r.length) (bytesOf s))) r/\posOf (l.length-r.length) (bytesOf s)<=s.size:=by
  have:=Brm.runes_drop hr (l.length-r.length) (Nat.sub_le _ _)
  rw [suf_drop h,bytes_len] at this
  exact this
theorem front_nil {s:ByteArray}{l:List Int}(hr:Runes (bytesOf s) l):posOf (l.length-([]:List Int).length) (bytesOf s)=s.size:=by
  rw [List.length_nil,Nat.sub_zero,posOf_all hr,bytes_len]
theorem front_cons {s:ByteArray}{l t:List Int}{c:Int}(hr:Runes (bytesOf s) l)(h:(c::t) <:+ l) :
    posOf (l.length-(c::t).length) (bytesOf s)<s.size/\((decL (bytesOf (s.extract (posOf (l.length-(c::t).length) (bytesOf s)) s.size))).1:Int)=c/\posOf (l.length-t.length) (bytesOf s)=posOf (l.length-(c::t).length) (bytesOf s)+(decL (bytesOf (s.extract (posOf (l.length-(c::t).length) (bytesOf s)) s.size))).2:=by
  obtain ⟨h1,h2⟩:=front hr h
  obtain ⟨a1,a2,a3,a4⟩:=runes_head h1
  have hl:=h.length_le
  simp only [List.length_cons] at hl
  rw [bytes_drop]
  refine ⟨?_,a2,?_⟩
  · rcases Nat.lt_or_ge (posOf (l.length-(c::t).length) (bytesOf s)) s.size with h | h
    · exact h
    · exact absurd (List.drop_eq_nil_iff.2 (by rw [bytes_len];exact h)) a1
  · have e:l.length-t.length=(l.length-(c::t).length)+1:=by simp only [List.length_cons];omega
    rw [e,posOf_succ]
theorem PSt.cells {w:World}{b:Nat}{s:ByteArray}{l r:List Int}{d m:Int}(h:PSt w b s l r d m) :
    w.cell? ⟨b,0,none⟩=some (.string s)/\w.cell? ⟨b,1,none⟩=some (.int .i64 (posOf (l.length-r.length) (bytesOf s)))/\w.cell? ⟨b,2,none⟩=some (.int .i64 d)/\w.cell? ⟨b,3,none⟩=some (.int .i64 m)/\b<w.heap.size :=
  ⟨h.1.cell 0,h.1.cell 1,h.1.cell 2,h.1.cell 3,h.1.lt⟩
theorem PSt.below {w w':World}{b:Nat}{s:ByteArray}{l r:List Int}{d m:Int}(h:PSt w b s l r d m)(k:Below w.heap.size w w'):PSt w' b s l r d m :=
  ⟨Blk.below h.1 k,h.2.1,h.2.2.1,h.2.2.2.1,h.2.2.2.2.1.below k,h.2.2.2.2.2⟩
def nextP (s:List Int):Int:=match s with | []=>-1 | c::_=>c
set_option maxRecDepth 100000 in
set_option maxHeartbeats 400000 in
theorem runeAt_end (s:ByteArray)(p:Int)(w:World)(hp:(s.size:Int)<=p):Calls Tryz.prog 106 #[.string s,.int .i64 p] w fun e w'=>e=.returned (.int .i32 (-1))/\Below w.heap.size w w':=by
  have hd:decide ((s.size:Int)<=p)=true:=decide_eq_true hp
  go_enter Tryz.func106,Tryz.ntmps106
  go_wp2
  go_ret
  exact ⟨rfl,Below.refl _ _⟩
set_option maxRecDepth 100000 in
set_option maxHeartbeats 400000 in
theorem runeAt_in (s:ByteArray)(p:Nat)(w:World)(hT:Tabs w)(hp:p<s.size):Calls Tryz.prog 106 #[.string s,.int .i64 p] w fun e w'=>e=.returned (.int .i32 (decL (bytesOf (s.extract p s.size))).1)/\Below w.heap.size w w':=by
  have hd:decide (s.size<=p)=false:=decide_eq_false (by omega)
  have HT:=hide hT
  have i0:(0:Int)<=(p:Int):=Int.natCast_nonneg _
  have i1:(p:Int)<=(s.size:Int):=by omega
  have HES:Hid (1<=(s.extract p s.size).size):=by show _<=_;simp;omega
  clear hT hp
  go_enter Tryz.func106,Tryz.ntmps106
  go_wp2_with (go_at_call 103;refine (dec_any _ _ HT.out HES.out).mono ?_;rintro e w1 ⟨rfl,hb⟩;have HB:=hide hb;clear hb)
  go_ret
  exact ⟨rfl,HB.out⟩
theorem runeAt_any (s:ByteArray)(l r:List Int)(w:World)(hT:Tabs w)(hr:Runes (bytesOf s) l)(h:r <:+ l):Calls Tryz.prog 106 #[.string s,.int .i64 (posOf (l.length-r.length) (bytesOf s))] w fun e w'=>e=.returned (.int .i32 (nextP r))/\Below w.heap.size w w':=by
  cases r with
  | nil =>
    rw [front_nil hr]
    exact runeAt_end s _ w (Int.le_refl _)
  | cons c t =>
    obtain ⟨h1,h2,h3⟩:=front_cons hr h
    have:=runeAt_in s _ w hT h1
    rw [h2] at this
    exact this
set_option maxRecDepth 100000 in
set_option maxHeartbeats 400000 in
theorem look_any (b:Nat)(s:ByteArray)(l r:List Int)(d m:Int)(w:World)(h:PSt w b s l r d m):Calls Tryz.prog 59 #[.pointer (some ⟨b,0,none⟩)] w fun e w'=>e=.returned (.int .i32 (nextP r))/\Below w.heap.size w w':=by
  obtain ⟨c0,c1,c2,c3,hb⟩:=h.cells
  have HC:=hide (fun w' (hw:Below w.heap.size w w')=>runeAt_any s l r w' (h.below hw).2.2.2.2.1 h.2.2.1 h.2.1)
  generalize hP:posOf (l.length-r.length) (bytesOf s)=P at c1 HC
  generalize nextP r=N at HC
  clear h hP c2 c3
  go_enter Tryz.func59,Tryz.ntmps59
  go_wp2_with fail
  go_region_held3 (fun w'=>Below w.heap.size w w'/\w'.cell? ⟨b,0,none⟩=some (.string s)/\w'.cell? ⟨b,1,none⟩=some (.int .i64 P))
    (first | exact ⟨(Below.refl _ _).drew,c0,c1⟩ | exact ⟨by assumption,(Below.cell (by assumption) hb).trans c0,(Below.cell (by assumption) hb).trans c1⟩)
    ((first
      | (go_at_call 106;refine (HC.out _ (‹Below w.heap.size w _/\_›.1)).mono ?_;rintro e w5 ⟨rfl,hb5⟩;have hb6:Below w.heap.size w w5:=(‹Below w.heap.size w _/\_›.1).trans (hb5.mono (‹Below w.heap.size w _/\_›.1).size);clear hb5)))
  go_wp2
  go_ret
  exact ⟨rfl,hb6⟩
end Go.Proofs.YtpoibdhhcbelnaaGreatDoor
namespace Go.Proofs.YtpoibdhhcbelnaaGreatDoor
open Go.RowKit Brm
theorem ext_size (s:ByteArray)(p:Nat):(s.extract p s.size).size=s.size-p:=by simp
theorem PSt.stepped {w:World}{b:Nat}{s:ByteArray}{l t:List Int}{c d m:Int}(h:PSt w b s l (c::t) d m)(q:Int)(hq:q=(posOf (l.length-t.length) (bytesOf s):Int)):PSt (w.setCell ⟨b,1,none⟩ (.int .i64 q)) b s l t d m/\Off b w (w.setCell ⟨b,1,none⟩ (.int .i64 q)):=by
  have ho:Off b w (w.setCell ⟨b,1,none⟩ (.int .i64 q)):=(Off.refl _ _).setCell 1 _
  have hb:=h.2.2.2.2.2
  simp only [List.length_cons] at hb
  refine ⟨⟨?_,(List.suffix_cons c t).trans h.2.1,h.2.2.1,h.2.2.2.1,h.2.2.2.2.1.off ho hb.1,by omega⟩,ho⟩
  subst hq
  exact Blk.set h.1 1 _
set_option maxRecDepth 100000 in
set_option maxHeartbeats 400000 in
theorem step_any (b:Nat)(s:ByteArray)(l t:List Int)(c d m:Int)(w:World)(h:PSt w b s l (c::t) d m):Calls Tryz.prog 207 #[.pointer (some ⟨b,0,none⟩)] w fun e w'=>e=.returned (.tuple #[])/\PSt w' b s l t d m/\Off b w w':=by
  have HS:=hide h
  obtain ⟨c0,c1,c2,c3,hb⟩:=h.cells
  obtain ⟨f1,f2,f3⟩:=front_cons h.2.2.1 h.2.1
  have hs60:=h.2.2.2.1
  have hfit:=decL_fit (bs:=bytesOf (s.extract (posOf (l.length-(c::t).length) (bytesOf s)) s.size)) (by intro e;have:=congrArg List.length e;rw [bytes_len,ext_size,List.length_nil] at this;omega)
  have HC:=hide (fun w' (hw:Below w.heap.size w w')=>dec_any (s.extract (posOf (l.length-(c::t).length) (bytesOf s)) s.size) w' (h.below hw).2.2.2.2.1 (by rw [ext_size];omega))
  have HST:=hide (fun (w':World) (hw:Below w.heap.size w w') (q:Int) hq=>(h.below hw).stepped q hq)
  have HF3:=hide f3
  have hz:=hfit.2.2.1
  generalize hP:posOf (l.length-(c::t).length) (bytesOf s)=P at c1 HC HF3 f1 hz
  generalize (decL (bytesOf (s.extract P s.size))).2=Z at HC HF3 hz
  generalize (decL (bytesOf (s.extract P s.size))).1=R at HC
  have i0:(0:Int)<=(P:Int):=Int.natCast_nonneg _
  have i1:(P:Int)<=(s.size:Int):=by omega
  clear h hP c2 c3 f2 f3 hfit
  go_enter Tryz.func207,Tryz.ntmps207
  go_wp2_with fail
  go_region_held3 (fun w'=>Below w.heap.size w w'/\w'.cell? ⟨b,0,none⟩=some (.string s)/\w'.cell? ⟨b,1,none⟩=some (.int .i64 P))
    (first | exact ⟨(Below.refl _ _).drew,c0,c1⟩ | exact ⟨by assumption,(Below.cell (by assumption) hb).trans c0,(Below.cell (by assumption) hb).trans c1⟩)
    ((first
      | (go_at_call 103;refine (HC.out _ (‹Below w.heap.size w _/\_›.1)).mono ?_;rintro e w5 ⟨rfl,hb5⟩;have hb6:Below w.heap.size w w5:=(‹Below w.heap.size w _/\_›.1).trans (hb5.mono (‹Below w.heap.size w _/\_›.1).size);clear hb5)))
  have d1:=(hb6.cell (p:=⟨b,1,none⟩) hb).trans c1
  have hb9:b<w5.heap.size:=Nat.lt_of_lt_of_le hb hb6.size
  have hfz:w5.frozen? ⟨b,1,none⟩=false:=(HS.out.below hb6).1.frozen 1
  have HB6:=hide hb6
  have HST6:=hide (HST.out w5 hb6 ((P:Int)+(Z:Int)) (by rw [HF3.out];simp))
  have HOF:Hid (Off b w w5):=Off.below hb6
  clear hb6 c0 c1
  go_wp2
  go_end0
  exact ⟨rfl,HST6.out.1,HOF.out.trans HST6.out.2⟩
set_option maxRecDepth 100000 in
set_option maxHeartbeats 400000 in
theorem take_yes (b:Nat)(s:ByteArray)(l t:List Int)(c d m:Int)(w:World)(h:PSt w b s l (c::t) d m):Calls Tryz.prog 159 #[.pointer (some ⟨b,0,none⟩),.int .i32 c] w fun e w'=>e=.returned (.bool true)/\PSt w' b s l t d m/\Off b w w':=by
  have HS:=hide h
  clear h
  go_enter Tryz.func159,Tryz.ntmps159
  go_wp2_with fail
  refine (look_any b s l _ d m w HS.out).mono ?_
  rintro e w1 ⟨rfl,hb1⟩
  have HB1:=hide hb1
  clear hb1
  simp only [nextP]
  go_wp2_with fail
  refine (step_any b s l t c d m w1 (HS.out.below HB1.out)).mono ?_
  rintro e w2 ⟨rfl,hs2,ho2⟩
  have HS2:=hide hs2
  have HO2:=hide ((Off.below (b:=b) HB1.out).trans ho2)
  clear hs2 ho2
  go_wp2
  go_ret
  exact ⟨rfl,HS2.out,HO2.out⟩
theorem nextP_ne {r:List Int}{c:Int}(h:r.head?≠some c)(hc:0<=c):nextP r≠c:=by
  cases r with
  | nil=>simp only [nextP];omega
  | cons d t=>simpa [nextP] using h
set_option maxRecDepth 100000 in
set_option maxHeartbeats 400000 in
theorem take_no (b:Nat)(s:ByteArray)(l r:List Int)(c d m:Int)(w:World)(h:PSt w b s l r d m)(hc:0<=c)(hn:r.head?≠some c):Calls Tryz.prog 159 #[.pointer (some ⟨b,0,none⟩),.int .i32 c] w fun e w'=>e=.returned (.bool false)/\Below w.heap.size w w':=by
  have HS:=hide h
  have hb:(nextP r == c)=false:=beq_eq_false_iff_ne.2 (nextP_ne hn hc)
  have HL:=hide (look_any b s l r d m w h)
  generalize nextP r=N at HL hb
  clear h hn hc
  go_enter Tryz.func159,Tryz.ntmps159
  go_wp2_with fail
  refine HL.out.mono ?_
  rintro e w1 ⟨rfl,hb1⟩
  have HB1:=hide hb1
  clear hb1
  go_wp2
  go_ret
  exact ⟨rfl,HB1.out⟩
end Go.Proofs.YtpoibdhhcbelnaaGreatDoor
namespace Go.Proofs.YtpoibdhhcbelnaaGreatDoor
open Go.RowKit Brm
def Rn (r:Int):Prop:=r=-1\/runeB r=true
theorem nextP_rn {s:ByteArray}{l r:List Int}(hr:Runes (bytesOf s) l)(h:r <:+ l):Rn (nextP r):=by
  cases r with
  | nil=>exact .inl rfl
  | cons c t=>exact .inr ((runes_all hr).suf h c (by simp))
theorem asc_special:∀ x∈bytesOf { data:=#[124,38,126,42,43,63,123,125,46,92,91,93,40,41] },x.toNat<128:=by decide
theorem asc_inner:∀ x∈bytesOf { data:=#[91,93,92,45,94] },x.toNat<128:=by decide
theorem asc_signs:∀ x∈bytesOf { data:=#[124,38,126,42,43,63,123,125,46,92,91,93,40,41,45,94] },x.toNat<128:=by decide
def isSign0 (c:Int):Bool:=[124,38,126,42,43,63,123,125,46,92,91,93,40,41,45,94].contains c
theorem amongB_signs0 (c:Int):amongB c { data:=#[124,38,126,42,43,63,123,125,46,92,91,93,40,41,45,94] }=isSign0 c:=by
  rw [Bool.eq_iff_iff]
  simp [amongB,isSign0]
  omega
theorem has_special (r:Int)(w:World)(hr:runeB r=true):Calls Tryz.prog 163 #[.string { data:=#[124,38,126,42,43,63,123,125,46,92,91,93,40,41] },.int .i32 r] w fun e w'=>e=.returned (.bool (special r))/\Below w.heap.size w w':=by
  have:=contains_any { data:=#[124,38,126,42,43,63,123,125,46,92,91,93,40,41] } r w (by decide) (by decide) asc_special hr
  rw [amongB_special] at this
  exact this
theorem has_inner (r:Int)(w:World)(hr:runeB r=true):Calls Tryz.prog 163 #[.string { data:=#[91,93,92,45,94] },.int .i32 r] w fun e w'=>e=.returned (.bool (inner r))/\Below w.heap.size w w':=by
  have:=contains_any { data:=#[91,93,92,45,94] } r w (by decide) (by decide) asc_inner hr
  rw [amongB_inner] at this
  exact this
theorem has_signs (r:Int)(w:World)(hr:runeB r=true):Calls Tryz.prog 163 #[.string { data:=#[124,38,126,42,43,63,123,125,46,92,91,93,40,41,45,94] },.int .i32 r] w fun e w'=>e=.returned (.bool (isSign0 r))/\Below w.heap.size w w':=by
  have:=contains_any { data:=#[124,38,126,42,43,63,123,125,46,92,91,93,40,41,45,94] } r w (by decide) (by decide) asc_signs hr
  rw [amongB_signs0] at this
  exact this
def atomB (r:Int):Bool:=r != -1 && !special r
def itemB (r:Int):Bool:=r != -1 && !inner r
theorem rune_ne {r:Int}(h:runeB r=true):(r == -1)=false:=by
  have:=(rune_iff r).1 h
  exact beq_eq_false_iff_ne.2 (by omega)
set_option maxRecDepth 100000 in
set_option maxHeartbeats 400000 in
theorem isOfAtom_any (r:Int)(w:World)(hr:Rn r):Calls Tryz.prog 239 #[.int .i32 r] w fun e w'=>e=.returned (.bool (atomB r))/\Below w.heap.size w w':=by
  rcases hr with rfl | hr
  · go_enter Tryz.func239,Tryz.ntmps239
    go_wp2
    go_ret
    exact ⟨rfl,Below.refl _ _⟩
  · have HC:=hide (has_special r w hr)
    have hn:=rune_ne hr
    have hn2:(r=-1)=False:=eq_false (beq_eq_false_iff_ne.1 hn)
    have hn3:(r != -1)=true:=by rw [bne,hn];rfl
    have HE:Hid (atomB r=!special r):=by show _=_;unfold atomB;rw [bne,hn];rfl
    generalize special r=B at HC HE
    clear hr
    go_enter Tryz.func239,Tryz.ntmps239
    go_wp2_with fail
    refine HC.out.mono ?_
    rintro e w1 ⟨rfl,hb⟩
    have HB:=hide hb
    clear hb
    go_wp2
    go_ret
    exact ⟨ret_bool HE.out.symm,HB.out⟩
set_option maxRecDepth 100000 in
set_option maxHeartbeats 400000 in
theorem isOfItem_any (r:Int)(w:World)(hr:Rn r):Calls Tryz.prog 324 #[.int .i32 r] w fun e w'=>e=.returned (.bool (itemB r))/\Below w.heap.size w w':=by
  rcases hr with rfl | hr
  · go_enter Tryz.func324,Tryz.ntmps324
    go_wp2
    go_ret
    exact ⟨rfl,Below.refl _ _⟩
  · have HC:=hide (has_inner r w hr)
    have hn:=rune_ne hr
    have hn2:(r=-1)=False:=eq_false (beq_eq_false_iff_ne.1 hn)
    have hn3:(r != -1)=true:=by rw [bne,hn];rfl
    have HE:Hid (itemB r=!inner r):=by show _=_;unfold itemB;rw [bne,hn];rfl
    generalize inner r=B at HC HE
    clear hr
    go_enter Tryz.func324,Tryz.ntmps324
    go_wp2_with fail
    refine HC.out.mono ?_
    rintro e w1 ⟨rfl,hb⟩
    have HB:=hide hb
    clear hb
    go_wp2
    go_ret
    exact ⟨ret_bool HE.out.symm,HB.out⟩
set_option maxRecDepth 100000 in
set_option maxHeartbeats 400000 in
theorem signed_any (r:Int)(w:World)(hr:Rn r):Calls Tryz.prog 316 #[.int .i32 r] w fun e w'=>∃ v,e=.returned (.tuple #[.int .i32 v,.bool (isSign r)])/\(isSign r=true->v=signOf r)/\Below w.heap.size w w':=by
  by_cases h1:r=110
  · subst h1;go_enter Tryz.func316,Tryz.ntmps316;go_wp2;go_ret2;exact ⟨_,rfl,fun _=>rfl,Below.refl _ _⟩
  by_cases h2:r=116
  · subst h2;go_enter Tryz.func316,Tryz.ntmps316;go_wp2;go_ret2;exact ⟨_,rfl,fun _=>rfl,Below.refl _ _⟩
  by_cases h3:r=114
  · subst h3;go_enter Tryz.func316,Tryz.ntmps316;go_wp2;go_ret2;exact ⟨_,rfl,fun _=>rfl,Below.refl _ _⟩
  have b1:(r == 110)=false:=beq_eq_false_iff_ne.2 h1
  have b2:(r == 116)=false:=beq_eq_false_iff_ne.2 h2
  have b3:(r == 114)=false:=beq_eq_false_iff_ne.2 h3
  have HE:Hid (isSign r=isSign0 r/\signOf r=r):=by
    refine ⟨?_,?_⟩
    · rw [Bool.eq_iff_iff];simp [isSign,isSign0];omega
    · unfold signOf;rw [if_neg h1,if_neg h2,if_neg h3]
  clear h1 h2 h3
  rcases hr with rfl | hr
  · go_enter Tryz.func316,Tryz.ntmps316
    go_wp2
    go_ret2
    exact ⟨_,rfl,fun h=>by simp [isSign] at h,Below.refl _ _⟩
  · have HC:=hide (has_signs r w hr)
    have hn:=rune_ne hr
    have hn2:(r=-1)=False:=eq_false (beq_eq_false_iff_ne.1 hn)
    have hn3:(r != -1)=true:=by rw [bne,hn];rfl
    rw [HE.out.1]
    generalize isSign0 r=B at HC HE
    clear hr
    go_enter Tryz.func316,Tryz.ntmps316
    go_wp2_with fail
    refine HC.out.mono ?_
    rintro e w1 ⟨rfl,hb⟩
    have HB:=hide hb
    clear hb
    go_wp2
    go_ret2
    exact ⟨_,rfl,fun _=>HE.out.2.symm,HB.out⟩
end Go.Proofs.YtpoibdhhcbelnaaGreatDoor
namespace Go.Proofs.YtpoibdhhcbelnaaGreatDoor
open Go.RowKit Brm
def DoneP {α:Type}(b:Nat)(s:ByteArray)(l:List Int)(d m:Int)(R:Res α)(w':World)(e:Ending)(ok:α->Ending->Prop)(bad:Ending->Prop):Prop:=match R with | .ok a r=>PSt w' b s l r d m/\ok a e | .bad r=>PSt w' b s l r d m/\bad e
def okI (c:Int)(e:Ending):Prop:=e=.returned (.tuple #[.int .i32 c,.bool true])
def badI (e:Ending):Prop:=∃ v,e=.returned (.tuple #[.int .i32 v,.bool false])
def signR (least:Int)(r:List Int):Res Int:=if least<=126 then signP least r else .bad (92::r)
theorem signP_ok {least c:Int}{t:List Int}(h1:isSign c=true)(h2:least<=signOf c):signP least (c::t)=.ok (signOf c) t:=by simp [signP,h1,h2]
theorem signP_less {least c:Int}{t:List Int}(h2:¬ least<=signOf c):signP least (c::t)=.bad (c::t):=by simp [signP,h2]
theorem signP_no {least:Int}{r:List Int}(h1:isSign (nextP r)=false):signP least r=.bad r:=by
  cases r with
  | nil=>rfl
  | cons c t=>simp only [nextP] at h1;simp [signP,h1]
set_option maxRecDepth 100000 in
set_option maxHeartbeats 400000 in
theorem sign_far (b:Nat)(s:ByteArray)(l:List Int)(d m:Int)(w:World)(r:List Int)(least:Int)(h:PSt w b s l (92::r) d m)(h1:¬ least<=126):Calls Tryz.prog 305 #[.pointer (some ⟨b,0,none⟩),.int .i32 least] w fun e w'=>Off b w w'/\DoneP b s l d m (signR least r) w' e okI badI:=by
  have hd:decide (126<least)=true:=decide_eq_true (by omega)
  have HR:Hid (signR least r=.bad (92::r)):=if_neg h1
  have HS:=hide h
  clear h h1
  go_enter Tryz.func305,Tryz.ntmps305
  go_wp2
  go_ret2
  exact ⟨Off.refl _ _,by rw [HR.out];exact ⟨HS.out,_,rfl⟩⟩
set_option maxRecDepth 100000 in
set_option maxHeartbeats 400000 in
theorem sign_ok (b:Nat)(s:ByteArray)(l:List Int)(d m:Int)(w:World)(c:Int)(t:List Int)(least:Int)(h:PSt w b s l (92::c::t) d m)(h1:isSign c=true)(h2:least<=signOf c)(h9:least<=126):Calls Tryz.prog 305 #[.pointer (some ⟨b,0,none⟩),.int .i32 least] w fun e w'=>Off b w w'/\DoneP b s l d m (signR least (c::t)) w' e okI badI:=by
  have hd:decide (126<least)=false:=decide_eq_false (by omega)
  have HR:Hid (signR least (c::t)=.ok (signOf c) t):=(if_pos h9).trans (signP_ok h1 h2)
  have hdd:decide (signOf c<least)=false:=decide_eq_false (by omega)
  have H1:=hide h1
  have HRN:Hid (Rn c):=.inr ((runes_all h.2.2.1).suf h.2.1 c (by simp))
  have HS:=hide h
  have HO:Hid (Off b w w):=Off.refl _ _
  clear h h1 h2 h9
  go_enter Tryz.func305,Tryz.ntmps305
  go_wp2_with fail
  refine (take_yes b s l _ _ d m _ HS.out).mono ?_
  rintro e wi ⟨rfl,hsi,hoi⟩
  replace HS:=hide hsi
  replace HO:=hide (HO.out.trans hoi)
  clear hsi hoi
  go_wp2_with fail
  refine (look_any b s l _ d m _ HS.out).mono ?_
  rintro e wi ⟨rfl,hbi⟩
  replace HS:=hide (HS.out.below hbi)
  replace HO:=hide (HO.out.trans (Off.below hbi))
  clear hbi
  simp only [nextP]
  go_wp2_with fail
  refine (signed_any _ _ HRN.out).mono ?_
  rintro e wi ⟨v,rfl,hv,hbi⟩
  replace HS:=hide (HS.out.below hbi)
  replace HO:=hide (HO.out.trans (Off.below hbi))
  clear hbi
  rw [H1.out]
  have hv2:=hv H1.out
  subst hv2
  clear hv
  go_wp2_with fail
  refine (step_any b s l _ _ d m _ HS.out).mono ?_
  rintro e wi ⟨rfl,hsi,hoi⟩
  replace HS:=hide hsi
  replace HO:=hide (HO.out.trans hoi)
  clear hsi hoi
  go_wp2
  go_ret2
  exact ⟨HO.out,by rw [HR.out];exact ⟨HS.out,rfl⟩⟩
set_option maxRecDepth 100000 in
set_option maxHeartbeats 400000 in
theorem sign_less (b:Nat)(s:ByteArray)(l:List Int)(d m:Int)(w:World)(c:Int)(t:List Int)(least:Int)(h:PSt w b s l (92::c::t) d m)(h1:isSign c=true)(h2:¬ least<=signOf c)(h9:least<=126):Calls Tryz.prog 305 #[.pointer (some ⟨b,0,none⟩),.int .i32 least] w fun e w'=>Off b w w'/\DoneP b s l d m (signR least (c::t)) w' e okI badI:=by
  have hd:decide (126<least)=false:=decide_eq_false (by omega)
  have HR:Hid (signR least (c::t)=.bad (c::t)):=(if_pos h9).trans (signP_less h2)
  have hdd:decide (signOf c<least)=true:=decide_eq_true (by omega)
  have H1:=hide h1
  have HRN:Hid (Rn c):=.inr ((runes_all h.2.2.1).suf h.2.1 c (by simp))
  have HS:=hide h
  have HO:Hid (Off b w w):=Off.refl _ _
  clear h h1 h2 h9
  go_enter Tryz.func305,Tryz.ntmps305
  go_wp2_with fail
  refine (take_yes b s l _ _ d m _ HS.out).mono ?_
  rintro e wi ⟨rfl,hsi,hoi⟩
  replace HS:=hide hsi
  replace HO:=hide (HO.out.trans hoi)
  clear hsi hoi
  go_wp2_with fail
  refine (look_any b s l _ d m _ HS.out).mono ?_
  rintro e wi ⟨rfl,hbi⟩
  replace HS:=hide (HS.out.below hbi)
  replace HO:=hide (HO.out.trans (Off.below hbi))
  clear hbi
  simp only [nextP]
  go_wp2_with fail
  refine (signed_any _ _ HRN.out).mono ?_
  rintro e wi ⟨v,rfl,hv,hbi⟩
  replace HS:=hide (HS.out.below hbi)
  replace HO:=hide (HO.out.trans (Off.below hbi))
  clear hbi
  rw [H1.out]
  have hv2:=hv H1.out
  subst hv2
  clear hv
  go_wp2
  go_ret2
  exact ⟨HO.out,by rw [HR.out];exact ⟨HS.out,_,rfl⟩⟩
set_option maxRecDepth 100000 in
set_option maxHeartbeats 400000 in
theorem sign_none (b:Nat)(s:ByteArray)(l:List Int)(d m:Int)(w:World)(r:List Int)(least:Int)(h:PSt w b s l (92::r) d m)(h1:isSign (nextP r)=false)(h9:least<=126):Calls Tryz.prog 305 #[.pointer (some ⟨b,0,none⟩),.int .i32 least] w fun e w'=>Off b w w'/\DoneP b s l d m (signR least r) w' e okI badI:=by
  have hd:decide (126<least)=false:=decide_eq_false (by omega)
  have HR:Hid (signR least r=.bad r):=(if_pos h9).trans (signP_no h1)
  have H1:=hide h1
  have HRN:Hid (Rn (nextP r)):=nextP_rn h.2.2.1 ((List.suffix_cons 92 r).trans h.2.1)
  have HS:=hide h
  have HO:Hid (Off b w w):=Off.refl _ _
  clear h h1 h9
  go_enter Tryz.func305,Tryz.ntmps305
  go_wp2_with fail
  refine (take_yes b s l _ _ d m _ HS.out).mono ?_
  rintro e wi ⟨rfl,hsi,hoi⟩
  replace HS:=hide hsi
  replace HO:=hide (HO.out.trans hoi)
  clear hsi hoi
  go_wp2_with fail
  refine (look_any b s l _ d m _ HS.out).mono ?_
  rintro e wi ⟨rfl,hbi⟩
  replace HS:=hide (HS.out.below hbi)
  replace HO:=hide (HO.out.trans (Off.below hbi))
  clear hbi
  generalize nextP r=N at HRN H1
  go_wp2_with fail
  refine (signed_any _ _ HRN.out).mono ?_
  rintro e wi ⟨v,rfl,hv,hbi⟩
  replace HS:=hide (HS.out.below hbi)
  replace HO:=hide (HO.out.trans (Off.below hbi))
  clear hbi
  rw [H1.out]
  clear hv
  go_wp2
  go_ret2
  exact ⟨HO.out,by rw [HR.out];exact ⟨HS.out,_,rfl⟩⟩
theorem sign_any2 (b:Nat)(s:ByteArray)(l:List Int)(d m:Int)(w:World)(r:List Int)(least:Int)(h:PSt w b s l (92::r) d m):Calls Tryz.prog 305 #[.pointer (some ⟨b,0,none⟩),.int .i32 least] w fun e w'=>Off b w w'/\DoneP b s l d m (signR least r) w' e okI badI:=by
  by_cases h9:least<=126
  · cases h1:isSign (nextP r) with
    | false=>exact sign_none b s l d m w r least h h1 h9
    | true =>
      cases r with
      | nil=>simp [nextP,isSign] at h1
      | cons c t =>
        simp only [nextP] at h1
        by_cases h2:least<=signOf c
        · exact sign_ok b s l d m w c t least h h1 h2 h9
        · exact sign_less b s l d m w c t least h h1 h2 h9
  · exact sign_far b s l d m w r least h h9
set_option maxRecDepth 100000 in
set_option maxHeartbeats 400000 in
theorem single_sign (b:Nat)(s:ByteArray)(l:List Int)(d m:Int)(w:World)(r:List Int)(least:Int)(h:PSt w b s l (92::r) d m):Calls Tryz.prog 317 #[.pointer (some ⟨b,0,none⟩),.int .i32 least] w fun e w'=>Off b w w'/\DoneP b s l d m (singleP least (92::r)) w' e okI badI:=by
  have HR:Hid (singleP least (92::r)=signR least r):=by show _=_;simp only [singleP,signR];rfl
  have HS:=hide h
  have HO:Hid (Off b w w):=Off.refl _ _
  clear h
  go_enter Tryz.func317,Tryz.ntmps317
  go_wp2_with fail
  refine (look_any b s l _ d m _ HS.out).mono ?_
  rintro e wi ⟨rfl,hbi⟩
  replace HS:=hide (HS.out.below hbi)
  replace HO:=hide (HO.out.trans (Off.below hbi))
  clear hbi
  simp only [nextP]
  go_wp2_with fail
  refine (sign_any2 b s l d m _ r least HS.out).mono ?_
  rintro e w2 ⟨ho2,hd2⟩
  replace HO:=hide (HO.out.trans ho2)
  clear ho2
  generalize signR least r=RR at HR hd2
  cases RR with
  | ok a q =>
    obtain ⟨hs2,rfl⟩:=hd2
    have HS2:=hide hs2
    clear hs2
    go_wp2
    go_ret2
    exact ⟨HO.out,by rw [HR.out];exact ⟨HS2.out,rfl⟩⟩
  | bad q =>
    obtain ⟨hs2,v,rfl⟩:=hd2
    have HS2:=hide hs2
    clear hs2
    go_wp2
    go_ret2
    exact ⟨HO.out,by rw [HR.out];exact ⟨HS2.out,_,rfl⟩⟩
set_option maxRecDepth 100000 in
set_option maxHeartbeats 400000 in
theorem single_no (b:Nat)(s:ByteArray)(l:List Int)(d m:Int)(w:World)(r:List Int)(least:Int)(h:PSt w b s l r d m)(h92:nextP r≠92)(h1:itemB (nextP r)=false):Calls Tryz.prog 317 #[.pointer (some ⟨b,0,none⟩),.int .i32 least] w fun e w'=>Off b w w'/\DoneP b s l d m (singleP least r) w' e okI badI:=by
  have HR:Hid (singleP least r=.bad r):=by
    show _=_
    cases r with
    | nil=>rfl
    | cons c t =>
      have hn:=rune_ne ((runes_all h.2.2.1).suf h.2.1 c (by simp))
      simp only [nextP] at h92 h1
      have:inner c=true:=by simpa [itemB,bne,hn] using h1
      simp [singleP,h92,this]
  have HI:=hide h1
  have hb:(nextP r == 92)=false:=beq_eq_false_iff_ne.2 h92
  have HRN:Hid (Rn (nextP r)):=nextP_rn h.2.2.1 h.2.1
  have HS:=hide h
  have HO:Hid (Off b w w):=Off.refl _ _
  clear h h1 h92
  go_enter Tryz.func317,Tryz.ntmps317
  go_wp2_with fail
  refine (look_any b s l _ d m _ HS.out).mono ?_
  rintro e wi ⟨rfl,hbi⟩
  replace HS:=hide (HS.out.below hbi)
  replace HO:=hide (HO.out.trans (Off.below hbi))
  clear hbi
  generalize nextP r=N at HRN HI hb
  go_wp2_with fail
  refine (isOfItem_any _ _ HRN.out).mono ?_
  rintro e wi ⟨rfl,hbi⟩
  rw [HI.out]
  replace HS:=hide (HS.out.below hbi)
  replace HO:=hide (HO.out.trans (Off.below hbi))
  clear hbi
  go_wp2
  go_ret2
  exact ⟨HO.out,by rw [HR.out];exact ⟨HS.out,_,rfl⟩⟩
set_option maxRecDepth 100000 in
set_option maxHeartbeats 400000 in
theorem single_less (b:Nat)(s:ByteArray)(l:List Int)(d m:Int)(w:World)(c:Int)(t:List Int)(least:Int)(h:PSt w b s l (c::t) d m)(h92:c≠92)(h1:itemB c=true)(h2:¬ least<=c):Calls Tryz.prog 317 #[.pointer (some ⟨b,0,none⟩),.int .i32 least] w fun e w'=>Off b w w'/\DoneP b s l d m (singleP least (c::t)) w' e okI badI:=by
  have HR:Hid (singleP least (c::t)=.bad (c::t)):=by show _=_;simp [singleP,h92,h2]
  have HI:=hide h1
  have hb:(c == 92)=false:=beq_eq_false_iff_ne.2 h92
  have hdd:decide (c<least)=true:=decide_eq_true (by omega)
  have HRN:Hid (Rn c):=.inr ((runes_all h.2.2.1).suf h.2.1 c (by simp))
  have HS:=hide h
  have HO:Hid (Off b w w):=Off.refl _ _
  clear h h1 h92 h2
  go_enter Tryz.func317,Tryz.ntmps317
  go_wp2_with fail
  refine (look_any b s l _ d m _ HS.out).mono ?_
  rintro e wi ⟨rfl,hbi⟩
  replace HS:=hide (HS.out.below hbi)
  replace HO:=hide (HO.out.trans (Off.below hbi))
  clear hbi
  simp only [nextP]
  go_wp2_with fail
  refine (isOfItem_any _ _ HRN.out).mono ?_
  rintro e wi ⟨rfl,hbi⟩
  rw [HI.out]
  replace HS:=hide (HS.out.below hbi)
  replace HO:=hide (HO.out.trans (Off.below hbi))
  clear hbi
  go_wp2
  go_ret2
  exact ⟨HO.out,by rw [HR.out];exact ⟨HS.out,_,rfl⟩⟩
set_option maxRecDepth 100000 in
set_option maxHeartbeats 400000 in
theorem single_ok (b:Nat)(s:ByteArray)(l:List Int)(d m:Int)(w:World)(c:Int)(t:List Int)(least:Int)(h:PSt w b s l (c::t) d m)(h92:c≠92)(h1:itemB c=true)(h2:least<=c):Calls Tryz.prog 317 #[.pointer (some ⟨b,0,none⟩),.int .i32 least] w fun e w'=>Off b w w'/\DoneP b s l d m (singleP least (c::t)) w' e okI badI:=by
  have HR:Hid (singleP least (c::t)=.ok c t):=by
    show _=_
    have:inner c=false:=by simp [itemB] at h1;exact h1.2
    simp [singleP,h92,h2,this]
  have HI:=hide h1
  have hb:(c == 92)=false:=beq_eq_false_iff_ne.2 h92
  have hdd:decide (c<least)=false:=decide_eq_false (by omega)
  have HRN:Hid (Rn c):=.inr ((runes_all h.2.2.1).suf h.2.1 c (by simp))
  have HS:=hide h
  have HO:Hid (Off b w w):=Off.refl _ _
  clear h h1 h92 h2
  go_enter Tryz.func317,Tryz.ntmps317
  go_wp2_with fail
  refine (look_any b s l _ d m _ HS.out).mono ?_
  rintro e wi ⟨rfl,hbi⟩
  replace HS:=hide (HS.out.below hbi)
  replace HO:=hide (HO.out.trans (Off.below hbi))
  clear hbi
  simp only [nextP]
  go_wp2_with fail
  refine (isOfItem_any _ _ HRN.out).mono ?_
  rintro e wi ⟨rfl,hbi⟩
  rw [HI.out]
  replace HS:=hide (HS.out.below hbi)
  replace HO:=hide (HO.out.trans (Off.below hbi))
  clear hbi
  go_wp2_with fail
  refine (step_any b s l _ _ d m _ HS.out).mono ?_
  rintro e wi ⟨rfl,hsi,hoi⟩
  replace HS:=hide hsi
  replace HO:=hide (HO.out.trans hoi)
  clear hsi hoi
  go_wp2
  go_ret2
  exact ⟨HO.out,by rw [HR.out];exact ⟨HS.out,rfl⟩⟩
theorem single_any2 (b:Nat)(s:ByteArray)(l:List Int)(d m:Int)(w:World)(r:List Int)(least:Int)(h:PSt w b s l r d m):Calls Tryz.prog 317 #[.pointer (some ⟨b,0,none⟩),.int .i32 least] w fun e w'=>Off b w w'/\DoneP b s l d m (singleP least r) w' e okI badI:=by
  by_cases h92:nextP r=92
  · cases r with
    | nil=>simp [nextP] at h92
    | cons c t=>simp only [nextP] at h92;subst h92;exact single_sign b s l d m w t least h
  · cases h1:itemB (nextP r) with
    | false=>exact single_no b s l d m w r least h h92 h1
    | true =>
      cases r with
      | nil=>simp [nextP,itemB] at h1
      | cons c t =>
        simp only [nextP] at h92 h1
        by_cases h2:least<=c
        · exact single_ok b s l d m w c t least h h92 h1 h2
        · exact single_less b s l d m w c t least h h92 h1 h2
end Go.Proofs.YtpoibdhhcbelnaaGreatDoor
namespace Go.Proofs.YtpoibdhhcbelnaaGreatDoor
open Go.RowKit Brm
def okN (n:Int)(e:Ending):Prop:=e=.returned (.tuple #[.int .i64 n,.bool true])
def badN (e:Ending):Prop:=∃ v,e=.returned (.tuple #[.int .i64 v,.bool false])
def okT (x:Int×Int)(e:Ending):Prop:=e=.returned (.tuple #[.int .i64 x.1,.int .i64 x.2,.bool true])
def badT (e:Ending):Prop:=∃ v u,e=.returned (.tuple #[.int .i64 v,.int .i64 u,.bool false])
theorem nextP_le {s:ByteArray}{l r:List Int}(hr:Runes (bytesOf s) l)(h:r <:+ l):-1<=nextP r/\nextP r<=1114111:=by
  rcases nextP_rn hr h with h | h
  · omega
  · have:=(rune_iff _).1 h;omega
set_option maxRecDepth 100000 in
set_option maxHeartbeats 400000 in
theorem count_ok (b:Nat)(s:ByteArray)(l:List Int)(d m:Int)(w:World)(c:Int)(t:List Int)(least:Int)(h:PSt w b s l (c::t) d m)(h1:48+least<=c)(h2:c<=53)(g0:0<=least)(g1:least<=5):Calls Tryz.prog 318 #[.pointer (some ⟨b,0,none⟩),.int .i64 least] w fun e w'=>Off b w w'/\DoneP b s l d m (countP least (c::t)) w' e okN badN:=by
  have HR:Hid (countP least (c::t)=.ok (c-48) t):=by show _=_;simp only [countP];rw [if_pos ⟨h1,h2⟩]
  have hd1:decide (c-48<least)=false:=decide_eq_false (by omega)
  have hd2:decide (5<c-48)=false:=decide_eq_false (by omega)
  have HS:=hide h
  have HO:Hid (Off b w w):=Off.refl _ _
  clear h
  go_enter Tryz.func318,Tryz.ntmps318
  go_wp2_with fail
  refine (look_any b s l _ d m _ HS.out).mono ?_
  rintro e wi ⟨rfl,hbi⟩
  replace HS:=hide (HS.out.below hbi)
  replace HO:=hide (HO.out.trans (Off.below hbi))
  clear hbi
  simp only [nextP]
  go_wp2_with fail
  refine (step_any b s l _ _ d m _ HS.out).mono ?_
  rintro e wi ⟨rfl,hsi,hoi⟩
  replace HS:=hide hsi
  replace HO:=hide (HO.out.trans hoi)
  clear hsi hoi
  go_wp2
  go_ret2
  exact ⟨HO.out,by rw [HR.out];exact ⟨HS.out,rfl⟩⟩
set_option maxRecDepth 100000 in
set_option maxHeartbeats 400000 in
theorem count_low (b:Nat)(s:ByteArray)(l:List Int)(d m:Int)(w:World)(r:List Int)(least:Int)(h:PSt w b s l r d m)(h1:¬ 48+least<=nextP r):Calls Tryz.prog 318 #[.pointer (some ⟨b,0,none⟩),.int .i64 least] w fun e w'=>Off b w w'/\DoneP b s l d m (countP least r) w' e okN badN:=by
  have HR:Hid (countP least r=.bad r):=by
    show _=_
    cases r with
    | nil=>rfl
    | cons c t=>simp only [nextP] at h1;simp only [countP];rw [if_neg (fun hh=>h1 hh.1)]
  have hle:=nextP_le h.2.2.1 h.2.1
  have HS:=hide h
  have HO:Hid (Off b w w):=Off.refl _ _
  clear h
  go_enter Tryz.func318,Tryz.ntmps318
  go_wp2_with fail
  refine (look_any b s l _ d m _ HS.out).mono ?_
  rintro e wi ⟨rfl,hbi⟩
  replace HS:=hide (HS.out.below hbi)
  replace HO:=hide (HO.out.trans (Off.below hbi))
  clear hbi
  generalize nextP r=N at h1 hle
  obtain ⟨hl0,hl1⟩:=hle
  have hd1:decide (N-48<least)=true:=decide_eq_true (by omega)
  clear h1
  go_wp2
  go_ret2
  exact ⟨HO.out,by rw [HR.out];exact ⟨HS.out,_,rfl⟩⟩
set_option maxRecDepth 100000 in
set_option maxHeartbeats 400000 in
theorem count_high (b:Nat)(s:ByteArray)(l:List Int)(d m:Int)(w:World)(r:List Int)(least:Int)(h:PSt w b s l r d m)(h1:48+least<=nextP r)(h2:¬ nextP r<=53):Calls Tryz.prog 318 #[.pointer (some ⟨b,0,none⟩),.int .i64 least] w fun e w'=>Off b w w'/\DoneP b s l d m (countP least r) w' e okN badN:=by
  have HR:Hid (countP least r=.bad r):=by
    show _=_
    cases r with
    | nil=>rfl
    | cons c t=>simp only [nextP] at h2;simp only [countP];rw [if_neg (fun hh=>h2 hh.2)]
  have hle:=nextP_le h.2.2.1 h.2.1
  have HS:=hide h
  have HO:Hid (Off b w w):=Off.refl _ _
  clear h
  go_enter Tryz.func318,Tryz.ntmps318
  go_wp2_with fail
  refine (look_any b s l _ d m _ HS.out).mono ?_
  rintro e wi ⟨rfl,hbi⟩
  replace HS:=hide (HS.out.below hbi)
  replace HO:=hide (HO.out.trans (Off.below hbi))
  clear hbi
  generalize nextP r=N at h1 h2 hle
  obtain ⟨hl0,hl1⟩:=hle
  have hd1:decide (N-48<least)=false:=decide_eq_false (by omega)
  have hd2:decide (5<N-48)=true:=decide_eq_true (by omega)
  clear h1 h2
  go_wp2
  go_ret2
  exact ⟨HO.out,by rw [HR.out];exact ⟨HS.out,_,rfl⟩⟩
theorem count_any2 (b:Nat)(s:ByteArray)(l:List Int)(d m:Int)(w:World)(r:List Int)(least:Int)(h:PSt w b s l r d m)(g0:0<=least)(g1:least<=5):Calls Tryz.prog 318 #[.pointer (some ⟨b,0,none⟩),.int .i64 least] w fun e w'=>Off b w w'/\DoneP b s l d m (countP least r) w' e okN badN:=by
  by_cases h1:48+least<=nextP r
  · by_cases h2:nextP r<=53
    · cases r with
      | nil=>simp [nextP] at h1;omega
      | cons c t=>exact count_ok b s l d m w c t least h h1 h2 g0 g1
    · exact count_high b s l d m w r least h h1 h2
  · exact count_low b s l d m w r least h h1
theorem countP_ok {least n:Int}{r q:List Int}(h:countP least r=.ok n q):least<=n/\n<=5/\q <:+ r:=by
  cases r with
  | nil=>simp [countP] at h
  | cons c t =>
    simp only [countP] at h
    split at h
    · rename_i hh
      cases h
      exact ⟨by omega,by omega,List.suffix_cons _ _⟩
    · cases h
theorem head_cons {r:List Int}{c:Int}(h:r.head?=some c):r=c::r.tail:=by
  cases r with
  | nil=>simp at h
  | cons x t=>simp at h;rw [h];rfl
set_option maxRecDepth 100000 in
set_option maxHeartbeats 400000 in
theorem braces_bad0 (b:Nat)(s:ByteArray)(l:List Int)(d m:Int)(w:World)(r:List Int)(q:List Int)(hc:countP 0 r=.bad q)(h:PSt w b s l (123::r) d m):Calls Tryz.prog 307 #[.pointer (some ⟨b,0,none⟩)] w fun e w'=>Off b w w'/\DoneP b s l d m (.bad q) w' e okT badT:=by
  have HC:=hide hc
  have HS:=hide h
  have HO:Hid (Off b w w):=Off.refl _ _
  clear h hc
  go_enter Tryz.func307,Tryz.ntmps307
  go_wp2_with fail
  refine (take_yes b s l _ _ d m _ HS.out).mono ?_
  rintro e wi ⟨rfl,hsi,hoi⟩
  replace HS:=hide hsi
  replace HO:=hide (HO.out.trans hoi)
  clear hsi hoi
  go_wp2_with fail
  refine (count_any2 b s l d m _ _ 0 HS.out (by decide) (by decide)).mono ?_
  rintro e wi ⟨hoi,hdi⟩
  replace HO:=hide (HO.out.trans hoi)
  clear hoi
  rw [HC.out] at hdi
  obtain ⟨hsi,v,rfl⟩:=hdi
  replace HS:=hide hsi
  clear hsi
  go_wp2
  refine bodyPost_ret (v:=.tuple #[.int .i64 0,.int .i64 0,.bool false]) (by simp [results,Tryz.results307,go_sem]) rfl ?_
  exact ⟨HO.out,HS.out,_,_,rfl⟩
set_option maxRecDepth 100000 in
set_option maxHeartbeats 400000 in
theorem braces_one (b:Nat)(s:ByteArray)(l:List Int)(d m:Int)(w:World)(r:List Int)(x:Int)(q:List Int)(hc:countP 0 r=.ok x (125::q))(h:PSt w b s l (123::r) d m):Calls Tryz.prog 307 #[.pointer (some ⟨b,0,none⟩)] w fun e w'=>Off b w w'/\DoneP b s l d m (.ok (x,x) q) w' e okT badT:=by
  have HC:=hide hc
  have HS:=hide h
  have HO:Hid (Off b w w):=Off.refl _ _
  clear h hc
  go_enter Tryz.func307,Tryz.ntmps307
  go_wp2_with fail
  refine (take_yes b s l _ _ d m _ HS.out).mono ?_
  rintro e wi ⟨rfl,hsi,hoi⟩
  replace HS:=hide hsi
  replace HO:=hide (HO.out.trans hoi)
  clear hsi hoi
  go_wp2_with fail
  refine (count_any2 b s l d m _ _ 0 HS.out (by decide) (by decide)).mono ?_
  rintro e wi ⟨hoi,hdi⟩
  replace HO:=hide (HO.out.trans hoi)
  clear hoi
  rw [HC.out] at hdi
  obtain ⟨hsi,rfl⟩:=hdi
  replace HS:=hide hsi
  clear hsi
  go_wp2_with fail
  refine (take_yes b s l _ _ d m _ HS.out).mono ?_
  rintro e wi ⟨rfl,hsi,hoi⟩
  replace HS:=hide hsi
  replace HO:=hide (HO.out.trans hoi)
  clear hsi hoi
  go_wp2
  refine bodyPost_ret (v:=.tuple #[.int .i64 x,.int .i64 x,.bool true]) (by simp [results,Tryz.results307,go_sem]) rfl ?_
  exact ⟨HO.out,HS.out,rfl⟩
set_option maxRecDepth 100000 in
set_option maxHeartbeats 400000 in
theorem braces_bad1 (b:Nat)(s:ByteArray)(l:List Int)(d m:Int)(w:World)(r:List Int)(x:Int)(q:List Int)(hc:countP 0 r=.ok x q)(h1:q.head?≠some 125)(h2:q.head?≠some 44)(h:PSt w b s l (123::r) d m):Calls Tryz.prog 307 #[.pointer (some ⟨b,0,none⟩)] w fun e w'=>Off b w w'/\DoneP b s l d m (.bad q) w' e okT badT:=by
  have HC:=hide hc
  have H1:=hide h1
  have H2:=hide h2
  have HS:=hide h
  have HO:Hid (Off b w w):=Off.refl _ _
  clear h hc h1 h2
  go_enter Tryz.func307,Tryz.ntmps307
  go_wp2_with fail
  refine (take_yes b s l _ _ d m _ HS.out).mono ?_
  rintro e wi ⟨rfl,hsi,hoi⟩
  replace HS:=hide hsi
  replace HO:=hide (HO.out.trans hoi)
  clear hsi hoi
  go_wp2_with fail
  refine (count_any2 b s l d m _ _ 0 HS.out (by decide) (by decide)).mono ?_
  rintro e wi ⟨hoi,hdi⟩
  replace HO:=hide (HO.out.trans hoi)
  clear hoi
  rw [HC.out] at hdi
  obtain ⟨hsi,rfl⟩:=hdi
  replace HS:=hide hsi
  clear hsi
  go_wp2_with fail
  refine (take_no b s l _ _ d m _ HS.out (by decide) H1.out).mono ?_
  rintro e wi ⟨rfl,hbi⟩
  replace HS:=hide (HS.out.below hbi)
  replace HO:=hide (HO.out.trans (Off.below hbi))
  clear hbi
  go_wp2_with fail
  refine (take_no b s l _ _ d m _ HS.out (by decide) H2.out).mono ?_
  rintro e wi ⟨rfl,hbi⟩
  replace HS:=hide (HS.out.below hbi)
  replace HO:=hide (HO.out.trans (Off.below hbi))
  clear hbi
  go_wp2
  refine bodyPost_ret (v:=.tuple #[.int .i64 0,.int .i64 0,.bool false]) (by simp [results,Tryz.results307,go_sem]) rfl ?_
  exact ⟨HO.out,HS.out,_,_,rfl⟩
set_option maxRecDepth 100000 in
set_option maxHeartbeats 400000 in
theorem braces_up (b:Nat)(s:ByteArray)(l:List Int)(d m:Int)(w:World)(r:List Int)(x:Int)(q:List Int)(hc:countP 0 r=.ok x (44::125::q))(h:PSt w b s l (123::r) d m):Calls Tryz.prog 307 #[.pointer (some ⟨b,0,none⟩)] w fun e w'=>Off b w w'/\DoneP b s l d m (.ok (x,-1) q) w' e okT badT:=by
  have HC:=hide hc
  have HS:=hide h
  have HO:Hid (Off b w w):=Off.refl _ _
  clear h hc
  go_enter Tryz.func307,Tryz.ntmps307
  go_wp2_with fail
  refine (take_yes b s l _ _ d m _ HS.out).mono ?_
  rintro e wi ⟨rfl,hsi,hoi⟩
  replace HS:=hide hsi
  replace HO:=hide (HO.out.trans hoi)
  clear hsi hoi
  go_wp2_with fail
  refine (count_any2 b s l d m _ _ 0 HS.out (by decide) (by decide)).mono ?_
  rintro e wi ⟨hoi,hdi⟩
  replace HO:=hide (HO.out.trans hoi)
  clear hoi
  rw [HC.out] at hdi
  obtain ⟨hsi,rfl⟩:=hdi
  replace HS:=hide hsi
  clear hsi
  go_wp2_with fail
  refine (take_no b s l _ _ d m _ HS.out (by decide) (by simp)).mono ?_
  rintro e wi ⟨rfl,hbi⟩
  replace HS:=hide (HS.out.below hbi)
  replace HO:=hide (HO.out.trans (Off.below hbi))
  clear hbi
  go_wp2_with fail
  refine (take_yes b s l _ _ d m _ HS.out).mono ?_
  rintro e wi ⟨rfl,hsi,hoi⟩
  replace HS:=hide hsi
  replace HO:=hide (HO.out.trans hoi)
  clear hsi hoi
  go_wp2_with fail
  refine (take_yes b s l _ _ d m _ HS.out).mono ?_
  rintro e wi ⟨rfl,hsi,hoi⟩
  replace HS:=hide hsi
  replace HO:=hide (HO.out.trans hoi)
  clear hsi hoi
  go_wp2
  refine bodyPost_ret (v:=.tuple #[.int .i64 x,.int .i64 (-1),.bool true]) (by simp [results,Tryz.results307,go_sem]) rfl ?_
  exact ⟨HO.out,HS.out,rfl⟩
set_option maxRecDepth 100000 in
set_option maxHeartbeats 400000 in
theorem braces_bad2 (b:Nat)(s:ByteArray)(l:List Int)(d m:Int)(w:World)(r:List Int)(x:Int)(q q2:List Int)(hc:countP 0 r=.ok x (44::q))(h1:q.head?≠some 125)(hc2:countP x q=.bad q2)(h:PSt w b s l (123::r) d m):Calls Tryz.prog 307 #[.pointer (some ⟨b,0,none⟩)] w fun e w'=>Off b w w'/\DoneP b s l d m (.bad q2) w' e okT badT:=by
  have HC:=hide hc
  have HC2:=hide hc2
  have H1:=hide h1
  have hx:=countP_ok hc
  obtain ⟨hx0,hx1,_⟩:=hx
  have HS:=hide h
  have HO:Hid (Off b w w):=Off.refl _ _
  clear h hc hc2 h1
  go_enter Tryz.func307,Tryz.ntmps307
  go_wp2_with fail
  refine (take_yes b s l _ _ d m _ HS.out).mono ?_
  rintro e wi ⟨rfl,hsi,hoi⟩
  replace HS:=hide hsi
  replace HO:=hide (HO.out.trans hoi)
  clear hsi hoi
  go_wp2_with fail
  refine (count_any2 b s l d m _ _ 0 HS.out (by decide) (by decide)).mono ?_
  rintro e wi ⟨hoi,hdi⟩
  replace HO:=hide (HO.out.trans hoi)
  clear hoi
  rw [HC.out] at hdi
  obtain ⟨hsi,rfl⟩:=hdi
  replace HS:=hide hsi
  clear hsi
  go_wp2_with fail
  refine (take_no b s l _ _ d m _ HS.out (by decide) (by simp)).mono ?_
  rintro e wi ⟨rfl,hbi⟩
  replace HS:=hide (HS.out.below hbi)
  replace HO:=hide (HO.out.trans (Off.below hbi))
  clear hbi
  go_wp2_with fail
  refine (take_yes b s l _ _ d m _ HS.out).mono ?_
  rintro e wi ⟨rfl,hsi,hoi⟩
  replace HS:=hide hsi
  replace HO:=hide (HO.out.trans hoi)
  clear hsi hoi
  go_wp2_with fail
  refine (take_no b s l _ _ d m _ HS.out (by decide) H1.out).mono ?_
  rintro e wi ⟨rfl,hbi⟩
  replace HS:=hide (HS.out.below hbi)
  replace HO:=hide (HO.out.trans (Off.below hbi))
  clear hbi
  go_wp2_with fail
  refine (count_any2 b s l d m _ _ x HS.out hx0 hx1).mono ?_
  rintro e wi ⟨hoi,hdi⟩
  replace HO:=hide (HO.out.trans hoi)
  clear hoi
  rw [HC2.out] at hdi
  obtain ⟨hsi,v,rfl⟩:=hdi
  replace HS:=hide hsi
  clear hsi
  go_wp2
  refine bodyPost_ret (v:=.tuple #[.int .i64 x,.int .i64 v,.bool false]) (by simp [results,Tryz.results307,go_sem]) rfl ?_
  exact ⟨HO.out,HS.out,_,_,rfl⟩
set_option maxRecDepth 100000 in
set_option maxHeartbeats 400000 in
theorem braces_two (b:Nat)(s:ByteArray)(l:List Int)(d m:Int)(w:World)(r:List Int)(x y:Int)(q q2:List Int)(hc:countP 0 r=.ok x (44::q))(h1:q.head?≠some 125)(hc2:countP x q=.ok y (125::q2))(h:PSt w b s l (123::r) d m):Calls Tryz.prog 307 #[.pointer (some ⟨b,0,none⟩)] w fun e w'=>Off b w w'/\DoneP b s l d m (.ok (x,y) q2) w' e okT badT:=by
  have HC:=hide hc
  have HC2:=hide hc2
  have H1:=hide h1
  have hx:=countP_ok hc
  obtain ⟨hx0,hx1,_⟩:=hx
  have HS:=hide h
  have HO:Hid (Off b w w):=Off.refl _ _
  clear h hc hc2 h1
  go_enter Tryz.func307,Tryz.ntmps307
  go_wp2_with fail
  refine (take_yes b s l _ _ d m _ HS.out).mono ?_
  rintro e wi ⟨rfl,hsi,hoi⟩
  replace HS:=hide hsi
  replace HO:=hide (HO.out.trans hoi)
  clear hsi hoi
  go_wp2_with fail
  refine (count_any2 b s l d m _ _ 0 HS.out (by decide) (by decide)).mono ?_
  rintro e wi ⟨hoi,hdi⟩
  replace HO:=hide (HO.out.trans hoi)
  clear hoi
  rw [HC.out] at hdi
  obtain ⟨hsi,rfl⟩:=hdi
  replace HS:=hide hsi
  clear hsi
  go_wp2_with fail
  refine (take_no b s l _ _ d m _ HS.out (by decide) (by simp)).mono ?_
  rintro e wi ⟨rfl,hbi⟩
  replace HS:=hide (HS.out.below hbi)
  replace HO:=hide (HO.out.trans (Off.below hbi))
  clear hbi
  go_wp2_with fail
  refine (take_yes b s l _ _ d m _ HS.out).mono ?_
  rintro e wi ⟨rfl,hsi,hoi⟩
  replace HS:=hide hsi
  replace HO:=hide (HO.out.trans hoi)
  clear hsi hoi
  go_wp2_with fail
  refine (take_no b s l _ _ d m _ HS.out (by decide) H1.out).mono ?_
  rintro e wi ⟨rfl,hbi⟩
  replace HS:=hide (HS.out.below hbi)
  replace HO:=hide (HO.out.trans (Off.below hbi))
  clear hbi
  go_wp2_with fail
  refine (count_any2 b s l d m _ _ x HS.out hx0 hx1).mono ?_
  rintro e wi ⟨hoi,hdi⟩
  replace HO:=hide (HO.out.trans hoi)
  clear hoi
  rw [HC2.out] at hdi
  obtain ⟨hsi,rfl⟩:=hdi
  replace HS:=hide hsi
  clear hsi
  go_wp2_with fail
  refine (take_yes b s l _ _ d m _ HS.out).mono ?_
  rintro e wi ⟨rfl,hsi,hoi⟩
  replace HS:=hide hsi
  replace HO:=hide (HO.out.trans hoi)
  clear hsi hoi
  go_wp2
  refine bodyPost_ret (v:=.tuple #[.int .i64 x,.int .i64 y,.bool true]) (by simp [results,Tryz.results307,go_sem]) rfl ?_
  exact ⟨HO.out,HS.out,rfl⟩
set_option maxRecDepth 100000 in
set_option maxHeartbeats 400000 in
theorem braces_bad3 (b:Nat)(s:ByteArray)(l:List Int)(d m:Int)(w:World)(r:List Int)(x y:Int)(q q2:List Int)(hc:countP 0 r=.ok x (44::q))(h1:q.head?≠some 125)(hc2:countP x q=.ok y q2)(h3:q2.head?≠some 125)(h:PSt w b s l (123::r) d m):Calls Tryz.prog 307 #[.pointer (some ⟨b,0,none⟩)] w fun e w'=>Off b w w'/\DoneP b s l d m (.bad q2) w' e okT badT:=by
  have HC:=hide hc
  have HC2:=hide hc2
  have H3:=hide h3
  have H1:=hide h1
  have hx:=countP_ok hc
  obtain ⟨hx0,hx1,_⟩:=hx
  have HS:=hide h
  have HO:Hid (Off b w w):=Off.refl _ _
  clear h3 h hc hc2 h1
  go_enter Tryz.func307,Tryz.ntmps307
  go_wp2_with fail
  refine (take_yes b s l _ _ d m _ HS.out).mono ?_
  rintro e wi ⟨rfl,hsi,hoi⟩
  replace HS:=hide hsi
  replace HO:=hide (HO.out.trans hoi)
  clear hsi hoi
  go_wp2_with fail
  refine (count_any2 b s l d m _ _ 0 HS.out (by decide) (by decide)).mono ?_
  rintro e wi ⟨hoi,hdi⟩
  replace HO:=hide (HO.out.trans hoi)
  clear hoi
  rw [HC.out] at hdi
  obtain ⟨hsi,rfl⟩:=hdi
  replace HS:=hide hsi
  clear hsi
  go_wp2_with fail
  refine (take_no b s l _ _ d m _ HS.out (by decide) (by simp)).mono ?_
  rintro e wi ⟨rfl,hbi⟩
  replace HS:=hide (HS.out.below hbi)
  replace HO:=hide (HO.out.trans (Off.below hbi))
  clear hbi
  go_wp2_with fail
  refine (take_yes b s l _ _ d m _ HS.out).mono ?_
  rintro e wi ⟨rfl,hsi,hoi⟩
  replace HS:=hide hsi
  replace HO:=hide (HO.out.trans hoi)
  clear hsi hoi
  go_wp2_with fail
  refine (take_no b s l _ _ d m _ HS.out (by decide) H1.out).mono ?_
  rintro e wi ⟨rfl,hbi⟩
  replace HS:=hide (HS.out.below hbi)
  replace HO:=hide (HO.out.trans (Off.below hbi))
  clear hbi
  go_wp2_with fail
  refine (count_any2 b s l d m _ _ x HS.out hx0 hx1).mono ?_
  rintro e wi ⟨hoi,hdi⟩
  replace HO:=hide (HO.out.trans hoi)
  clear hoi
  rw [HC2.out] at hdi
  obtain ⟨hsi,rfl⟩:=hdi
  replace HS:=hide hsi
  clear hsi
  go_wp2_with fail
  refine (take_no b s l _ _ d m _ HS.out (by decide) H3.out).mono ?_
  rintro e wi ⟨rfl,hbi⟩
  replace HS:=hide (HS.out.below hbi)
  replace HO:=hide (HO.out.trans (Off.below hbi))
  clear hbi
  go_wp2
  refine bodyPost_ret (v:=.tuple #[.int .i64 x,.int .i64 y,.bool false]) (by simp [results,Tryz.results307,go_sem]) rfl ?_
  exact ⟨HO.out,HS.out,_,_,rfl⟩
theorem braces_any (b:Nat)(s:ByteArray)(l:List Int)(d m:Int)(w:World)(r:List Int)(h:PSt w b s l (123::r) d m):Calls Tryz.prog 307 #[.pointer (some ⟨b,0,none⟩)] w fun e w'=>Off b w w'/\DoneP b s l d m (countsP r) w' e okT badT:=by
  unfold countsP
  cases hc:countP 0 r with
  | bad q=>exact braces_bad0 b s l d m w r q hc h
  | ok x q =>
    simp only [Res.bind]
    by_cases h1:q.head?=some 44
    · rw [if_pos h1]
      have e1:=head_cons h1
      rw [e1] at hc
      by_cases h2:q.tail.head?=some 125
      · rw [if_pos h2]
        have e2:=head_cons h2
        rw [e2] at hc
        exact braces_up b s l d m w r x _ hc h
      · rw [if_neg h2]
        cases hc2:countP x q.tail with
        | bad q2=>exact braces_bad2 b s l d m w r x q.tail q2 hc h2 hc2 h
        | ok y q2 =>
          simp only [closeP]
          by_cases h3:q2.head?=some 125
          · rw [if_pos h3]
            have e3:=head_cons h3
            rw [e3] at hc2
            exact braces_two b s l d m w r x y q.tail _ hc h2 hc2 h
          · rw [if_neg h3]
            exact braces_bad3 b s l d m w r x y q.tail q2 hc h2 hc2 h3 h
    · rw [if_neg h1]
      simp only [closeP]
      by_cases h2:q.head?=some 125
      · rw [if_pos h2]
        have e2:=head_cons h2
        rw [e2] at hc
        exact braces_one b s l d m w r x _ hc h
      · rw [if_neg h2]
        exact braces_bad1 b s l d m w r x q hc h2 h1 h
set_option maxRecDepth 100000 in
set_option maxHeartbeats 400000 in
theorem times_star (b:Nat)(s:ByteArray)(l:List Int)(d m:Int)(w:World)(r:List Int)(h:PSt w b s l (42::r) d m):Calls Tryz.prog 287 #[.pointer (some ⟨b,0,none⟩)] w fun e w'=>Off b w w'/\DoneP b s l d m (.ok (0,-1) r) w' e okT badT:=by
  have HS:=hide h
  have HO:Hid (Off b w w):=Off.refl _ _
  clear h
  go_enter Tryz.func287,Tryz.ntmps287
  go_wp2_with fail
  refine (take_yes b s l _ _ d m _ HS.out).mono ?_
  rintro e wi ⟨rfl,hsi,hoi⟩
  replace HS:=hide hsi
  replace HO:=hide (HO.out.trans hoi)
  clear hsi hoi
  go_wp2
  refine bodyPost_ret (v:=.tuple #[.int .i64 0,.int .i64 (-1),.bool true]) (by simp [results,Tryz.results287,go_sem]) rfl ?_
  exact ⟨HO.out,HS.out,rfl⟩
set_option maxRecDepth 100000 in
set_option maxHeartbeats 400000 in
theorem times_plus (b:Nat)(s:ByteArray)(l:List Int)(d m:Int)(w:World)(r:List Int)(h:PSt w b s l (43::r) d m):Calls Tryz.prog 287 #[.pointer (some ⟨b,0,none⟩)] w fun e w'=>Off b w w'/\DoneP b s l d m (.ok (1,-1) r) w' e okT badT:=by
  have HS:=hide h
  have HO:Hid (Off b w w):=Off.refl _ _
  clear h
  go_enter Tryz.func287,Tryz.ntmps287
  go_wp2_with fail
  refine (take_no b s l _ _ d m _ HS.out (by decide) (by simp)).mono ?_
  rintro e wi ⟨rfl,hbi⟩
  replace HS:=hide (HS.out.below hbi)
  replace HO:=hide (HO.out.trans (Off.below hbi))
  clear hbi
  go_wp2_with fail
  refine (take_yes b s l _ _ d m _ HS.out).mono ?_
  rintro e wi ⟨rfl,hsi,hoi⟩
  replace HS:=hide hsi
  replace HO:=hide (HO.out.trans hoi)
  clear hsi hoi
  go_wp2
  refine bodyPost_ret (v:=.tuple #[.int .i64 1,.int .i64 (-1),.bool true]) (by simp [results,Tryz.results287,go_sem]) rfl ?_
  exact ⟨HO.out,HS.out,rfl⟩
set_option maxRecDepth 100000 in
set_option maxHeartbeats 400000 in
theorem times_opt (b:Nat)(s:ByteArray)(l:List Int)(d m:Int)(w:World)(r:List Int)(h:PSt w b s l (63::r) d m):Calls Tryz.prog 287 #[.pointer (some ⟨b,0,none⟩)] w fun e w'=>Off b w w'/\DoneP b s l d m (.ok (0,1) r) w' e okT badT:=by
  have HS:=hide h
  have HO:Hid (Off b w w):=Off.refl _ _
  clear h
  go_enter Tryz.func287,Tryz.ntmps287
  go_wp2_with fail
  refine (take_no b s l _ _ d m _ HS.out (by decide) (by simp)).mono ?_
  rintro e wi ⟨rfl,hbi⟩
  replace HS:=hide (HS.out.below hbi)
  replace HO:=hide (HO.out.trans (Off.below hbi))
  clear hbi
  go_wp2_with fail
  refine (take_no b s l _ _ d m _ HS.out (by decide) (by simp)).mono ?_
  rintro e wi ⟨rfl,hbi⟩
  replace HS:=hide (HS.out.below hbi)
  replace HO:=hide (HO.out.trans (Off.below hbi))
  clear hbi
  go_wp2_with fail
  refine (take_yes b s l _ _ d m _ HS.out).mono ?_
  rintro e wi ⟨rfl,hsi,hoi⟩
  replace HS:=hide hsi
  replace HO:=hide (HO.out.trans hoi)
  clear hsi hoi
  go_wp2
  refine bodyPost_ret (v:=.tuple #[.int .i64 0,.int .i64 1,.bool true]) (by simp [results,Tryz.results287,go_sem]) rfl ?_
  exact ⟨HO.out,HS.out,rfl⟩
set_option maxRecDepth 100000 in
set_option maxHeartbeats 400000 in
theorem times_brace (b:Nat)(s:ByteArray)(l:List Int)(d m:Int)(w:World)(r:List Int)(h:PSt w b s l (123::r) d m):Calls Tryz.prog 287 #[.pointer (some ⟨b,0,none⟩)] w fun e w'=>Off b w w'/\DoneP b s l d m (countsP r) w' e okT badT:=by
  have HS:=hide h
  have HO:Hid (Off b w w):=Off.refl _ _
  clear h
  go_enter Tryz.func287,Tryz.ntmps287
  go_wp2_with fail
  refine (take_no b s l _ _ d m _ HS.out (by decide) (by simp)).mono ?_
  rintro e wi ⟨rfl,hbi⟩
  replace HS:=hide (HS.out.below hbi)
  replace HO:=hide (HO.out.trans (Off.below hbi))
  clear hbi
  go_wp2_with fail
  refine (take_no b s l _ _ d m _ HS.out (by decide) (by simp)).mono ?_
  rintro e wi ⟨rfl,hbi⟩
  replace HS:=hide (HS.out.below hbi)
  replace HO:=hide (HO.out.trans (Off.below hbi))
  clear hbi
  go_wp2_with fail
  refine (take_no b s l _ _ d m _ HS.out (by decide) (by simp)).mono ?_
  rintro e wi ⟨rfl,hbi⟩
  replace HS:=hide (HS.out.below hbi)
  replace HO:=hide (HO.out.trans (Off.below hbi))
  clear hbi
  go_wp2_with fail
  refine (braces_any b s l d m _ r HS.out).mono ?_
  rintro e w2 ⟨ho2,hd2⟩
  replace HO:=hide (HO.out.trans ho2)
  clear ho2
  generalize hRR:countsP r=RR at hd2
  have HRR:=hide hRR
  clear hRR
  cases RR with
  | ok a q =>
    obtain ⟨hs2,rfl⟩:=hd2
    have HS2:=hide hs2
    clear hs2
    go_wp2
    refine bodyPost_ret (v:=.tuple #[.int .i64 a.1,.int .i64 a.2,.bool true]) (by simp [results,Tryz.results287,go_sem]) rfl ?_
    exact ⟨HO.out,by rw [HRR.out];exact ⟨HS2.out,rfl⟩⟩
  | bad q =>
    obtain ⟨hs2,v,u,rfl⟩:=hd2
    have HS2:=hide hs2
    clear hs2
    go_wp2
    refine bodyPost_ret (v:=.tuple #[.int .i64 v,.int .i64 u,.bool false]) (by simp [results,Tryz.results287,go_sem]) rfl ?_
    exact ⟨HO.out,by rw [HRR.out];exact ⟨HS2.out,_,_,rfl⟩⟩
theorem times_any (b:Nat)(s:ByteArray)(l:List Int)(d m:Int)(w:World)(r:List Int)(h:PSt w b s l r d m)(ht:headIs isTimes r=true):Calls Tryz.prog 287 #[.pointer (some ⟨b,0,none⟩)] w fun e w'=>Off b w w'/\DoneP b s l d m (timesP r) w' e okT badT:=by
  cases r with
  | nil=>simp [headIs] at ht
  | cons c t =>
    have hc:c=42\/c=43\/c=63\/c=123:=by simpa [headIs,isTimes] using ht
    rcases hc with rfl | rfl | rfl | rfl
    · exact times_star b s l d m w t h
    · exact times_plus b s l d m w t h
    · exact times_opt b s l d m w t h
    · exact times_brace b s l d m w t h
end Go.Proofs.YtpoibdhhcbelnaaGreatDoor
namespace Go.Proofs.YtpoibdhhcbelnaaGreatDoor
open Go.RowKit Brm
abbrev New (w:World):Nat->Prop:=fun k=>w.heap.size<=k
theorem form_set (ao:Option Addr)(l:List (Int×Int))(cap:Nat)(w:World)(hr:Rd w ao l)(hlen:l.length<=1000000)(hok:∀ x∈l,okB x=true) :
    Calls Tryz.prog 210 #[.slice ao l.length cap] w fun e w'=>∃ v,e=.returned v/\SlA w' (New w) v (form l)/\Below w.heap.size w w':=by
  refine (form_said ao l cap w hr hlen hok).mono ?_
  rintro e w' ⟨v,rfl,out,⟨h1,h2⟩,ho,hb⟩
  have:=form_unique hok h1
  subst this
  exact ⟨v,rfl,own_slA ho (fun k hk=>hk),hb⟩
theorem pnot_set (ao:Option Addr)(l:List (Int×Int))(cap:Nat)(w:World)(hr:Rd w ao l)(hlen:l.length<=1000000)(hok:∀ x∈l,okB x=true) :
    Calls Tryz.prog 161 #[.slice ao l.length cap] w fun e w'=>∃ v,e=.returned v/\SlA w' (New w) v (notC (form l))/\Below w.heap.size w w':=by
  refine (not_any form_said ao l cap w hr hlen hok).mono ?_
  rintro e w' ⟨v,rfl,out,⟨h1,h2,h3⟩,ho,hb⟩
  have hf:=form_is hok
  have:=notC_unique hf.1 h1 (fun r hr=>by rw [h2 r hr,hf.2 r hr])
  subst this
  exact ⟨v,rfl,own_slA ho (fun k hk=>hk),hb⟩
theorem new_sla (w:World)(l:List (Int×Int)):SlA (w.alloc (.cells (cellsR l).toArray 149)) (New w) (.slice (some ⟨w.heap.size,0,none⟩) l.length l.length) l :=
  .inr ⟨_,0,l.length,rfl,Nat.le_refl _,Nat.le_refl _,by simp,rd_lit w l⟩
set_option maxRecDepth 100000 in
set_option maxHeartbeats 400000 in
theorem pone_any (c:Int)(w:World)(h0:0<=c)(h1:c<=1114111):Calls Tryz.prog 162 #[.int .i32 c] w fun e w'=>∃ v,e=.returned v/\SlA w' (New w) v [(c,c)]/\Below w.heap.size w w':=by
  have HN:=hide (new_sla w [(c,c)])
  have HB:=hide ((Below.refl w.heap.size w).alloc (Nat.le_refl _) (.cells (cellsR [(c,c)]).toArray 149))
  go_enter Tryz.func162,Tryz.ntmps162
  go_wp2
  go_ret
  exact ⟨_,rfl,HN.out,HB.out⟩
set_option maxRecDepth 100000 in
set_option maxHeartbeats 400000 in
theorem pdot_any (w:World):Calls Tryz.prog 108 #[] w fun e w'=>∃ v,e=.returned v/\SlA w' (New w) v dot/\Below w.heap.size w w':=by
  have HOK:Hid (∀ x∈[((10:Int),(10:Int))],okB x=true):=by show ∀ x∈_,_;decide
  go_enter Tryz.func108,Tryz.ntmps108
  go_wp2_with fail
  refine (pone_any 10 w (by decide) (by decide)).mono ?_
  rintro e w1 ⟨v1,rfl,h1,hb1⟩
  obtain ⟨ao,cap,rfl,hr,_⟩:=h1.sl.rd
  have HR:=hide hr
  have HB1:=hide hb1
  clear h1 hr hb1
  go_wp2_with fail
  refine (pnot_set ao [(10,10)] cap w1 HR.out (by decide) HOK.out).mono ?_
  rintro e w2 ⟨v2,rfl,h2,hb2⟩
  have H2:=hide (SlA.mono h2 (A':=New w) (fun k _ hk=>Nat.le_trans HB1.out.size hk))
  have HB2:=hide (HB1.out.trans (hb2.mono HB1.out.size))
  clear h2 hb2
  go_wp2
  go_ret
  refine ⟨_,rfl,?_,HB2.out⟩
  have e:dot=notC (form [(10,10)]):=by rw [form_canon (canon_one (by decide))];rfl
  rw [e];exact H2.out
def lowOf (c:Int):Int:=if c=68 then 100 else if c=87 then 119 else 115
set_option maxRecDepth 100000 in
set_option maxHeartbeats 400000 in
theorem lower_any (c:Int)(w:World)(hc:c=68\/c=87\/c=83):Calls Tryz.prog 323 #[.int .i32 c] w fun e w'=>e=.returned (.int .i32 (lowOf c))/\w'=w:=by
  rcases hc with rfl | rfl | rfl <;>
  · go_enter Tryz.func323,Tryz.ntmps323
    go_wp2
    go_ret
    exact ⟨rfl,rfl⟩
def okS (w0:World)(w':World)(x:List (Int×Int))(e:Ending):Prop:=∃ v,e=.returned (.tuple #[v,.bool true])/\SlA w' (New w0) v x
def badS (e:Ending):Prop:=e=.returned (.tuple #[.slice none 0 0,.bool false])
-- GENERATED
set_option maxRecDepth 100000 in
set_option maxHeartbeats 400000 in
theorem pclass_d (w:World):Calls Tryz.prog 315 #[.int .i32 100] w fun e w'=>okS w w' digits e/\Below w.heap.size w w':=by
  have HN:=hide (new_sla w digits)
  have HB:=hide ((Below.refl w.heap.size w).alloc (Nat.le_refl _) (.cells (cellsR digits).toArray 149))
  go_enter Tryz.func315,Tryz.ntmps315
  go_wp2
  go_ret2
  exact ⟨⟨_,rfl,HN.out⟩,HB.out⟩
set_option maxRecDepth 100000 in
set_option maxHeartbeats 400000 in
theorem pclass_w (w:World):Calls Tryz.prog 315 #[.int .i32 119] w fun e w'=>okS w w' words e/\Below w.heap.size w w':=by
  have HN:=hide (new_sla w words)
  have HB:=hide ((Below.refl w.heap.size w).alloc (Nat.le_refl _) (.cells (cellsR words).toArray 149))
  go_enter Tryz.func315,Tryz.ntmps315
  go_wp2
  go_ret2
  exact ⟨⟨_,rfl,HN.out⟩,HB.out⟩
set_option maxRecDepth 100000 in
set_option maxHeartbeats 400000 in
theorem pclass_s (w:World):Calls Tryz.prog 315 #[.int .i32 115] w fun e w'=>okS w w' spaces e/\Below w.heap.size w w':=by
  have HN:=hide (new_sla w spaces)
  have HB:=hide ((Below.refl w.heap.size w).alloc (Nat.le_refl _) (.cells (cellsR spaces).toArray 149))
  go_enter Tryz.func315,Tryz.ntmps315
  go_wp2
  go_ret2
  exact ⟨⟨_,rfl,HN.out⟩,HB.out⟩
set_option maxRecDepth 100000 in
set_option maxHeartbeats 400000 in
theorem pclass_D (w:World):Calls Tryz.prog 315 #[.int .i32 68] w fun e w'=>okS w w' (notC digits) e/\Below w.heap.size w w':=by
  have HL:=hide (lower_any 68 w (by decide))
  go_enter Tryz.func315,Tryz.ntmps315
  go_wp2_with fail
  refine HL.out.mono ?_
  rintro e w0 ⟨rfl,hw0⟩
  have hw1:=hw0.symm
  subst hw1
  clear hw0
  rw [show lowOf 68=100 from rfl]
  go_wp2_with fail
  refine (pclass_d w).mono ?_
  rintro e w1 ⟨⟨v1,rfl,h1⟩,hb1⟩
  obtain ⟨ao,cap,rfl,hr,_⟩:=h1.sl.rd
  have HR:=hide hr
  have HB1:=hide hb1
  clear h1 hr hb1
  go_wp2_with fail
  refine (pnot_set ao digits cap w1 HR.out (by decide) (canon_ok canon_digits)).mono ?_
  rintro e w2 ⟨v2,rfl,h2,hb2⟩
  rw [form_canon canon_digits] at h2
  have H2:=hide (SlA.mono h2 (A':=New w) (fun k _ hk=>Nat.le_trans HB1.out.size hk))
  have HB2:=hide (HB1.out.trans (hb2.mono HB1.out.size))
  clear h2 hb2
  go_wp2
  go_ret2
  exact ⟨⟨_,rfl,H2.out⟩,HB2.out⟩
set_option maxRecDepth 100000 in
set_option maxHeartbeats 400000 in
theorem pclass_W (w:World):Calls Tryz.prog 315 #[.int .i32 87] w fun e w'=>okS w w' (notC words) e/\Below w.heap.size w w':=by
  have HL:=hide (lower_any 87 w (by decide))
  go_enter Tryz.func315,Tryz.ntmps315
  go_wp2_with fail
  refine HL.out.mono ?_
  rintro e w0 ⟨rfl,hw0⟩
  have hw1:=hw0.symm
  subst hw1
  clear hw0
  rw [show lowOf 87=119 from rfl]
  go_wp2_with fail
  refine (pclass_w w).mono ?_
  rintro e w1 ⟨⟨v1,rfl,h1⟩,hb1⟩
  obtain ⟨ao,cap,rfl,hr,_⟩:=h1.sl.rd
  have HR:=hide hr
  have HB1:=hide hb1
  clear h1 hr hb1
  go_wp2_with fail
  refine (pnot_set ao words cap w1 HR.out (by decide) (canon_ok canon_words)).mono ?_
  rintro e w2 ⟨v2,rfl,h2,hb2⟩
  rw [form_canon canon_words] at h2
  have H2:=hide (SlA.mono h2 (A':=New w) (fun k _ hk=>Nat.le_trans HB1.out.size hk))
  have HB2:=hide (HB1.out.trans (hb2.mono HB1.out.size))
  clear h2 hb2
  go_wp2
  go_ret2
  exact ⟨⟨_,rfl,H2.out⟩,HB2.out⟩
set_option maxRecDepth 100000 in
set_option maxHeartbeats 400000 in
theorem pclass_S (w:World):Calls Tryz.prog 315 #[.int .i32 83] w fun e w'=>okS w w' (notC spaces) e/\Below w.heap.size w w':=by
  have HL:=hide (lower_any 83 w (by decide))
  go_enter Tryz.func315,Tryz.ntmps315
  go_wp2_with fail
  refine HL.out.mono ?_
  rintro e w0 ⟨rfl,hw0⟩
  have hw1:=hw0.symm
  subst hw1
  clear hw0
  rw [show lowOf 83=115 from rfl]
  go_wp2_with fail
  refine (pclass_s w).mono ?_
  rintro e w1 ⟨⟨v1,rfl,h1⟩,hb1⟩
  obtain ⟨ao,cap,rfl,hr,_⟩:=h1.sl.rd
  have HR:=hide hr
  have HB1:=hide hb1
  clear h1 hr hb1
  go_wp2_with fail
  refine (pnot_set ao spaces cap w1 HR.out (by decide) (canon_ok canon_spaces)).mono ?_
  rintro e w2 ⟨v2,rfl,h2,hb2⟩
  rw [form_canon canon_spaces] at h2
  have H2:=hide (SlA.mono h2 (A':=New w) (fun k _ hk=>Nat.le_trans HB1.out.size hk))
  have HB2:=hide (HB1.out.trans (hb2.mono HB1.out.size))
  clear h2 hb2
  go_wp2
  go_ret2
  exact ⟨⟨_,rfl,H2.out⟩,HB2.out⟩
set_option maxRecDepth 100000 in
set_option maxHeartbeats 400000 in
theorem pclass_no (c:Int)(w:World)(h:isClass c=false):Calls Tryz.prog 315 #[.int .i32 c] w fun e w'=>badS e/\w'=w:=by
  have hn:¬ (c=100\/c=119\/c=115\/c=68\/c=87\/c=83):=by
    intro hh
    have:isClass c=true:=by simpa [isClass] using hh
    rw [h] at this;cases this
  have b1:(c == 100)=false:=beq_eq_false_iff_ne.2 (by omega)
  have b2:(c == 119)=false:=beq_eq_false_iff_ne.2 (by omega)
  have b3:(c == 115)=false:=beq_eq_false_iff_ne.2 (by omega)
  have b4:(c == 68)=false:=beq_eq_false_iff_ne.2 (by omega)
  have b5:(c == 87)=false:=beq_eq_false_iff_ne.2 (by omega)
  have b6:(c == 83)=false:=beq_eq_false_iff_ne.2 (by omega)
  clear hn h
  go_enter Tryz.func315,Tryz.ntmps315
  go_wp2
  go_ret2
  exact ⟨rfl,rfl⟩
theorem pclass_yes (c:Int)(w:World)(h:isClass c=true):Calls Tryz.prog 315 #[.int .i32 c] w fun e w'=>okS w w' (classOf c) e/\Below w.heap.size w w':=by
  rcases class_cases h with rfl | rfl | rfl | rfl | rfl | rfl
  · exact pclass_d w
  · exact pclass_w w
  · exact pclass_s w
  · exact pclass_D w
  · exact pclass_W w
  · exact pclass_S w
end Go.Proofs.YtpoibdhhcbelnaaGreatDoor
namespace Go.Proofs.YtpoibdhhcbelnaaGreatDoor
open Go.RowKit Brm
theorem pos_ascii {s:ByteArray}{l t:List Int}{c:Int}(hr:Runes (bytesOf s) l)(h:(c::t) <:+ l)(hc:c<128):posOf (l.length-t.length) (bytesOf s)=posOf (l.length-(c::t).length) (bytesOf s)+1:=by
  obtain ⟨h1,h2,h3⟩:=front_cons hr h
  rw [h3]
  have:=decL_ascii (bs:=bytesOf (s.extract (posOf (l.length-(c::t).length) (bytesOf s)) s.size)) (by omega)
  rw [this.2]
set_option maxRecDepth 100000 in
set_option maxHeartbeats 400000 in
theorem class_none (b:Nat)(s:ByteArray)(l:List Int)(d m:Int)(w:World)(r:List Int)(h:PSt w b s l r d m)(h1:nextP r≠92):Calls Tryz.prog 304 #[.pointer (some ⟨b,0,none⟩)] w fun e w'=>badS e/\Below w.heap.size w w':=by
  have HL:=hide (look_any b s l r d m w h)
  have hb:(nextP r == 92)=false:=beq_eq_false_iff_ne.2 h1
  generalize nextP r=N at HL hb
  clear h h1
  go_enter Tryz.func304,Tryz.ntmps304
  go_wp2_with fail
  refine HL.out.mono ?_
  rintro e w1 ⟨rfl,hb1⟩
  have HB1:=hide hb1
  clear hb1
  go_wp2
  go_ret2
  exact ⟨rfl,HB1.out⟩
set_option maxRecDepth 100000 in
set_option maxHeartbeats 400000 in
theorem class_other (b:Nat)(s:ByteArray)(l:List Int)(d m:Int)(w:World)(r:List Int)(h:PSt w b s l (92::r) d m)(h1:isClass (nextP r)=false):Calls Tryz.prog 304 #[.pointer (some ⟨b,0,none⟩)] w fun e w'=>badS e/\Below w.heap.size w w':=by
  have HL:=hide (look_any b s l (92::r) d m w h)
  obtain ⟨c0,c1,c2,c3,hb⟩:=h.cells
  have hs2:r <:+ l:=(List.suffix_cons 92 r).trans h.2.1
  have hpa:=pos_ascii h.2.2.1 h.2.1 (by decide)
  have HRA:=hide (fun w' (hw:Below w.heap.size w w')=>runeAt_any s l r w' (h.below hw).2.2.2.2.1 h.2.2.1 hs2)
  rw [hpa] at HRA
  have hps:=(front h.2.2.1 hs2).2
  have h60:=h.2.2.2.1
  rw [hpa] at hps
  have HS:=hide h
  generalize posOf (l.length-(92::r).length) (bytesOf s)=P at c1 HRA hps
  have HCL:=hide (fun w=>pclass_no (nextP r) w h1)
  generalize nextP r=N at HRA HCL
  clear h1 hs2 hpa
  have hcast:((P+1:Nat):Int)=(P:Int)+1:=by omega
  rw [hcast] at HRA
  have p0:(0:Int)<=(P:Int):=Int.natCast_nonneg _
  have p1:(P:Int)<=60:=by omega
  have hwrap:IntKind.i64.wrap ((P:Int)+1)=(P:Int)+1:=by simp [IntKind.wrap,IntKind.bits,IntKind.signed];omega
  clear h c2 c3 hcast
  go_enter Tryz.func304,Tryz.ntmps304
  go_wp2_with fail
  refine HL.out.mono ?_
  rintro e w1 ⟨rfl,hb1⟩
  have HB1:=hide hb1
  have hbw:b<w1.heap.size:=Nat.lt_of_lt_of_le hb hb1.size
  rw [<- hb1.cell (p:=⟨b,_,none⟩) hb] at c0 c1
  replace HRA:=hide (fun w' (hw:Below w1.heap.size w1 w')=>HRA.out w' (hb1.trans (hw.mono hb1.size)))
  clear hb1
  simp only [nextP]
  go_wp2_with fail
  go_region_held3 (fun w'=>Below w1.heap.size w1 w'/\w'.cell? ⟨b,0,none⟩=some (.string s)/\w'.cell? ⟨b,1,none⟩=some (.int .i64 P))
    (first | exact ⟨(Below.refl _ _).drew,c0,c1⟩ | exact ⟨by assumption,(Below.cell (by assumption) hbw).trans c0,(Below.cell (by assumption) hbw).trans c1⟩)
    ((first
      | (go_at_call 106;refine (HRA.out _ (‹Below w1.heap.size w1 _/\_›.1)).mono ?_;rintro e w5 ⟨rfl,hb5⟩;have hb6:Below w1.heap.size w1 w5:=(‹Below w1.heap.size w1 _/\_›.1).trans (hb5.mono (‹Below w1.heap.size w1 _/\_›.1).size);clear hb5)
      | (go_at_call 315;refine (HCL.out _).mono ?_;rintro e w7 ⟨rfl,hw7⟩;have hw72:=hw7.symm;subst hw72;clear hw7)))
  have HB6:=hide (HB1.out.trans (hb6.mono HB1.out.size))
  go_wp2
  go_ret2
  exact ⟨rfl,HB6.out⟩
set_option maxRecDepth 100000 in
set_option maxHeartbeats 400000 in
theorem class_yes (b:Nat)(s:ByteArray)(l:List Int)(d m:Int)(w:World)(c:Int)(t:List Int)(h:PSt w b s l (92::c::t) d m)(h1:isClass c=true):Calls Tryz.prog 304 #[.pointer (some ⟨b,0,none⟩)] w fun e w'=>okS w w' (classOf c) e/\PSt w' b s l t d m/\Off b w w':=by
  have HL:=hide (look_any b s l (92::c::t) d m w h)
  obtain ⟨c0,c1,c2,c3,hb⟩:=h.cells
  have hs2:(c::t) <:+ l:=(List.suffix_cons 92 (c::t)).trans h.2.1
  have hpa:=pos_ascii h.2.2.1 h.2.1 (by decide)
  have HRA:=hide (fun w' (hw:Below w.heap.size w w')=>runeAt_any s l (c::t) w' (h.below hw).2.2.2.2.1 h.2.2.1 hs2)
  rw [hpa] at HRA
  have hps:=(front h.2.2.1 hs2).2
  have h60:=h.2.2.2.1
  rw [hpa] at hps
  have HS:=hide h
  have hca:c<128:=by rcases class_cases h1 with rfl | rfl | rfl | rfl | rfl | rfl<;>decide
  have hpb:=pos_ascii h.2.2.1 hs2 hca
  rw [hpa] at hpb
  have HST:Hid (∀ w',Below w.heap.size w w'->∀ q:Int,q=(posOf (l.length-t.length) (bytesOf s):Int)->PSt (w'.setCell ⟨b,1,none⟩ (.int .i64 q)) b s l t d m/\Off b w' (w'.setCell ⟨b,1,none⟩ (.int .i64 q))):=by
    intro w' hw q hq
    have hh:=h.below hw
    have ho:Off b w' (w'.setCell ⟨b,1,none⟩ (.int .i64 q)):=(Off.refl _ _).setCell 1 _
    have hbd:=hh.2.2.2.2.2
    simp only [List.length_cons] at hbd
    refine ⟨⟨?_,(List.suffix_cons c t).trans hs2,hh.2.2.1,hh.2.2.2.1,hh.2.2.2.2.1.off ho hbd.1,by omega⟩,ho⟩
    subst hq
    exact Blk.set hh.1 1 _
  have HPB:=hide hpb
  generalize posOf (l.length-(92::c::t).length) (bytesOf s)=P at c1 HRA hps HPB
  have HCL:=hide (fun w=>pclass_yes c w h1)
  clear h1 hs2 hpa hpb hca
  have hcast:((P+1:Nat):Int)=(P:Int)+1:=by omega
  rw [hcast] at HRA
  have p0:(0:Int)<=(P:Int):=Int.natCast_nonneg _
  have p1:(P:Int)<=60:=by omega
  have hwrap:IntKind.i64.wrap ((P:Int)+1)=(P:Int)+1:=by simp [IntKind.wrap,IntKind.bits,IntKind.signed];omega
  clear h c2 c3 hcast
  go_enter Tryz.func304,Tryz.ntmps304
  go_wp2_with fail
  refine HL.out.mono ?_
  rintro e w1 ⟨rfl,hb1⟩
  have HB1:=hide hb1
  have hbw:b<w1.heap.size:=Nat.lt_of_lt_of_le hb hb1.size
  rw [<- hb1.cell (p:=⟨b,_,none⟩) hb] at c0 c1
  replace HRA:=hide (fun w' (hw:Below w1.heap.size w1 w')=>HRA.out w' (hb1.trans (hw.mono hb1.size)))
  clear hb1
  simp only [nextP]
  go_wp2_with fail
  go_region_held3 (fun w'=>Below w1.heap.size w1 w'/\w'.cell? ⟨b,0,none⟩=some (.string s)/\w'.cell? ⟨b,1,none⟩=some (.int .i64 P))
    (first | exact ⟨(Below.refl _ _).drew,c0,c1⟩ | exact ⟨by assumption,(Below.cell (by assumption) hbw).trans c0,(Below.cell (by assumption) hbw).trans c1⟩)
    ((first
      | (go_at_call 106;refine (HRA.out _ (‹Below w1.heap.size w1 _/\_›.1)).mono ?_;rintro e w5 ⟨rfl,hb5⟩;have hb6:Below w1.heap.size w1 w5:=(‹Below w1.heap.size w1 _/\_›.1).trans (hb5.mono (‹Below w1.heap.size w1 _/\_›.1).size);clear hb5)
      | (go_at_call 315;refine (HCL.out _).mono ?_;rintro e w7 ⟨⟨v7,rfl,hv7⟩,hb7⟩;have hb8:Below w1.heap.size w1 w7:=hb6.trans (hb7.mono hb6.size);have HV7:=hide hv7;have hn7:=hb6.size;clear hb7 hv7)))
  obtain ⟨ao,cap,rfl,hr7,_⟩:=(SlA.sl HV7.out).rd
  clear hr7
  have d1:=(hb8.cell (p:=⟨b,1,none⟩) hbw).trans c1
  have hb9:b<w7.heap.size:=Nat.lt_of_lt_of_le hbw hb8.size
  have HB9:=hide (HB1.out.trans (hb8.mono HB1.out.size))
  have hfz:w7.frozen? ⟨b,1,none⟩=false:=(HS.out.below HB9.out).1.frozen 1
  have HST6:=hide (HST.out w7 HB9.out ((P:Int)+2) (by rw [HPB.out];omega))
  have HOF:Hid (Off b w w7):=Off.below HB9.out
  have hbo:b<w.heap.size:=hb
  have HV8:Hid (SlA (w7.setCell ⟨b,1,none⟩ (.int .i64 ((P:Int)+2))) (New w) (.slice ao (classOf c).length cap) (classOf c)):=by
    have hm:=HV7.out
    have hsz:=HB1.out.size
    rcases hm with ⟨e1,e2⟩ | ⟨bb,oo,cc,e1,e2,e3,e4,e5⟩
    · exact .inl ⟨e1,e2⟩
    · refine .inr ⟨bb,oo,cc,e1,e2,by show w.heap.size<=bb;have:w5.heap.size<=bb:=e3;omega,by simpa [World.setCell] using e4,?_⟩
      intro i x hx
      obtain ⟨b3,o3,e6,e7,e8,e9⟩:=e5 i x hx
      cases e6
      have:w5.heap.size<=bb:=e3
      have hne:bb≠b:=by omega
      exact ⟨bb,oo,rfl,by simpa [World.setCell] using e7,(HST6.out.2.cell (p:=⟨bb,_,none⟩) e4 hne).trans e8,(HST6.out.2.cell (p:=⟨bb,_,none⟩) e4 hne).trans e9⟩
  clear hb8 hb6 c0 c1 hn7
  go_wp2
  go_ret2
  exact ⟨⟨_,rfl,HV8.out⟩,HST6.out.1,HOF.out.trans HST6.out.2⟩
end Go.Proofs.YtpoibdhhcbelnaaGreatDoor
namespace Go.Proofs.YtpoibdhhcbelnaaGreatDoor
open Go.RowKit Brm
abbrev Ptr (b:Nat):Value:=.pointer (some ⟨b,0,none⟩)
mutual
def PN (w:World)(A:Nat->Prop):Pat->Nat->Prop
  | .set s,b=>A b/\∃ sv,Blk w b [.int .i64 0,sv,.slice none 0 0,.int .i64 0,.int .i64 0] 76/\SlA w A sv s
  | .row l,b=>A b/\l.length<=100/\∃ lv xs,Blk w b [.int .i64 1,.slice none 0 0,lv,.int .i64 0,.int .i64 0] 76/\Own w A 65 1 lv l.length (xs.map Ptr)/\PL w A l xs
  | .or l,b=>l.length<=100/\∃ xs,PL w A l xs/\((l.length=1/\xs=[b])\/(l.length≠1/\A b/\∃ lv,Blk w b [.int .i64 2,.slice none 0 0,lv,.int .i64 0,.int .i64 0] 76/\Own w A 65 1 lv l.length (xs.map Ptr)))
  | .and l,b=>l.length<=100/\∃ xs,PL w A l xs/\((l.length=1/\xs=[b])\/(l.length≠1/\A b/\∃ lv,Blk w b [.int .i64 3,.slice none 0 0,lv,.int .i64 0,.int .i64 0] 76/\Own w A 65 1 lv l.length (xs.map Ptr)))
  | .not p,b=>A b/\∃ lv x,Blk w b [.int .i64 4,.slice none 0 0,lv,.int .i64 0,.int .i64 0] 76/\Own w A 65 1 lv 1 [Ptr x]/\PN w A p x
  | .many p m n,b=>A b/\∃ lv x,Blk w b [.int .i64 5,.slice none 0 0,lv,.int .i64 m,.int .i64 n] 76/\Own w A 65 1 lv 1 [Ptr x]/\PN w A p x
  | .group p,b=>A b/\∃ lv x,Blk w b [.int .i64 6,.slice none 0 0,lv,.int .i64 0,.int .i64 0] 76/\Own w A 65 1 lv 1 [Ptr x]/\PN w A p x
def PL (w:World)(A:Nat->Prop):List Pat->List Nat->Prop
  | [],xs=>xs=[]
  | p::l,xs=>∃ x r,xs=x::r/\PN w A p x/\PL w A l r
end
theorem SlA.keep {A:Nat->Prop}{w w':World}{v:Value}{l:List (Int×Int)}(h:SlA w A v l)(k:Keeps A w w'):SlA w' A v l:=by
  rcases h with h | ⟨b,off,cap,e,hc,ha,hb,hr⟩
  · exact .inl h
  · refine .inr ⟨b,off,cap,e,hc,ha,Nat.lt_of_lt_of_le hb k.1,?_⟩
    intro i x hx
    obtain ⟨b',off',e',hb',c1,c2⟩:=hr i x hx
    cases e'
    have hk:=k.2 b hb ha
    exact ⟨b,off,rfl,Nat.lt_of_lt_of_le hb k.1,by rw [World.cell?_of_block (w:=w) hk];exact c1,by rw [World.cell?_of_block (w:=w) hk];exact c2⟩
theorem Blk.keep {A:Nat->Prop}{w w':World}{b:Nat}{cs:List Value}{T:TypeId}(h:Blk w b cs T)(k:Keeps A w w')(ha:A b):Blk w' b cs T:=(k.2 b h.lt ha).trans h
mutual
theorem PN.keep {A:Nat->Prop}{w w':World}(k:Keeps A w w'):∀ (p:Pat) (b:Nat),PN w A p b->PN w' A p b
  | .set s,b,h=>by obtain ⟨ha,sv,hb,hs⟩:=h;exact ⟨ha,sv,hb.keep k ha,hs.keep k⟩
  | .row l,b,h=>by obtain ⟨ha,h9,lv,xs,hb,ho,hl⟩:=h;exact ⟨ha,h9,lv,xs,hb.keep k ha,ho.keep k,PL.keep k l xs hl⟩
  | .or l,b,h=>by
    obtain ⟨h9,xs,hl,hh⟩:=h
    refine ⟨h9,xs,PL.keep k l xs hl,?_⟩
    rcases hh with hh | ⟨hn,ha,lv,hb,ho⟩
    · exact .inl hh
    · exact .inr ⟨hn,ha,lv,hb.keep k ha,ho.keep k⟩
  | .and l,b,h=>by
    obtain ⟨h9,xs,hl,hh⟩:=h
    refine ⟨h9,xs,PL.keep k l xs hl,?_⟩
    rcases hh with hh | ⟨hn,ha,lv,hb,ho⟩
    · exact .inl hh
    · exact .inr ⟨hn,ha,lv,hb.keep k ha,ho.keep k⟩
  | .not p,b,h=>by obtain ⟨ha,lv,x,hb,ho,hl⟩:=h;exact ⟨ha,lv,x,hb.keep k ha,ho.keep k,PN.keep k p x hl⟩
  | .many p m n,b,h=>by obtain ⟨ha,lv,x,hb,ho,hl⟩:=h;exact ⟨ha,lv,x,hb.keep k ha,ho.keep k,PN.keep k p x hl⟩
  | .group p,b,h=>by obtain ⟨ha,lv,x,hb,ho,hl⟩:=h;exact ⟨ha,lv,x,hb.keep k ha,ho.keep k,PN.keep k p x hl⟩
theorem PL.keep {A:Nat->Prop}{w w':World}(k:Keeps A w w'):∀ (l:List Pat) (xs:List Nat),PL w A l xs->PL w' A l xs
  | [],xs,h=>h
  | p::l,xs,h=>by obtain ⟨x,r,e,hp,hl⟩:=h;exact ⟨x,r,e,PN.keep k p x hp,PL.keep k l r hl⟩
end
mutual
theorem PN.mono {A A':Nat->Prop}{w:World}(k:∀ g,g<w.heap.size->A g->A' g):∀ (p:Pat) (b:Nat),PN w A p b->PN w A' p b
  | .set s,b,h=>by obtain ⟨ha,sv,hb,hs⟩:=h;exact ⟨k _ hb.lt ha,sv,hb,hs.mono k⟩
  | .row l,b,h=>by obtain ⟨ha,h9,lv,xs,hb,ho,hl⟩:=h;exact ⟨k _ hb.lt ha,h9,lv,xs,hb,ho.mono k,PL.mono k l xs hl⟩
  | .or l,b,h=>by
    obtain ⟨h9,xs,hl,hh⟩:=h
    refine ⟨h9,xs,PL.mono k l xs hl,?_⟩
    rcases hh with hh | ⟨hn,ha,lv,hb,ho⟩
    · exact .inl hh
    · exact .inr ⟨hn,k _ hb.lt ha,lv,hb,ho.mono k⟩
  | .and l,b,h=>by
    obtain ⟨h9,xs,hl,hh⟩:=h
    refine ⟨h9,xs,PL.mono k l xs hl,?_⟩
    rcases hh with hh | ⟨hn,ha,lv,hb,ho⟩
    · exact .inl hh
    · exact .inr ⟨hn,k _ hb.lt ha,lv,hb,ho.mono k⟩
  | .not p,b,h=>by obtain ⟨ha,lv,x,hb,ho,hl⟩:=h;exact ⟨k _ hb.lt ha,lv,x,hb,ho.mono k,PN.mono k p x hl⟩
  | .many p m n,b,h=>by obtain ⟨ha,lv,x,hb,ho,hl⟩:=h;exact ⟨k _ hb.lt ha,lv,x,hb,ho.mono k,PN.mono k p x hl⟩
  | .group p,b,h=>by obtain ⟨ha,lv,x,hb,ho,hl⟩:=h;exact ⟨k _ hb.lt ha,lv,x,hb,ho.mono k,PN.mono k p x hl⟩
theorem PL.mono {A A':Nat->Prop}{w:World}(k:∀ g,g<w.heap.size->A g->A' g):∀ (l:List Pat) (xs:List Nat),PL w A l xs->PL w A' l xs
  | [],xs,h=>h
  | p::l,xs,h=>by obtain ⟨x,r,e,hp,hl⟩:=h;exact ⟨x,r,e,PN.mono k p x hp,PL.mono k l r hl⟩
end
theorem PL.len {w:World}{A:Nat->Prop}:∀ (l:List Pat) (xs:List Nat),PL w A l xs->xs.length=l.length
  | [],xs,h=>by rw [show xs=[] from h];rfl
  | p::l,xs,h=>by obtain ⟨x,r,rfl,hp,hl⟩:=h;simp [PL.len l r hl]
theorem PL.snoc {w:World}{A:Nat->Prop}:∀ (l:List Pat) (xs:List Nat) (p:Pat) (x:Nat),PL w A l xs->PN w A p x->PL w A (l++[p]) (xs++[x])
  | [],xs,p,x,h,hp=>by rw [show xs=[] from h];exact ⟨x,[],rfl,hp,rfl⟩
  | q::l,xs,p,x,h,hp=>by
    obtain ⟨y,r,rfl,hq,hl⟩:=h
    exact ⟨y,r++[x],by simp,hq,PL.snoc l r p x hl hp⟩
theorem PL.at {w:World}{A:Nat->Prop}:∀ (l:List Pat) (xs:List Nat),PL w A l xs->∀ (i:Nat) (p:Pat),l[i]?=some p->∃ x,xs[i]?=some x/\PN w A p x
  | [],_,_,i,p,hi=>by simp at hi
  | q::l,xs,h,0,p,hi=>by obtain ⟨y,r,rfl,hq,hl⟩:=h;simp at hi;subst hi;exact ⟨y,rfl,hq⟩
  | q::l,xs,h,i+1,p,hi=>by
    obtain ⟨y,r,rfl,hq,hl⟩:=h
    obtain ⟨x,hx,hp⟩:=PL.at l r hl i p (by simpa using hi)
    exact ⟨x,by simpa using hx,hp⟩
theorem PN.lt {w:World}{A:Nat->Prop}:∀ (p:Pat) (b:Nat),PN w A p b->p.Ok->A b/\b<w.heap.size
  | .set s,b,h,_=>by obtain ⟨ha,sv,hb,hs⟩:=h;exact ⟨ha,hb.lt⟩
  | .row l,b,h,_=>by obtain ⟨ha,_,lv,xs,hb,ho,hl⟩:=h;exact ⟨ha,hb.lt⟩
  | .or [],b,h,hk=>absurd rfl hk.2
  | .or [p],b,h,hk=>by
    obtain ⟨_,xs,hl,hh⟩:=h
    rcases hh with ⟨_,rfl⟩ | ⟨hn,_⟩
    · obtain ⟨x,r,e,hp,_⟩:=hl
      cases e
      exact PN.lt p b hp hk.1.1
    · exact absurd rfl hn
  | .or (p::q::l),b,h,hk=>by
    obtain ⟨_,xs,hl,hh⟩:=h
    rcases hh with ⟨hn,_⟩ | ⟨hn,ha,lv,hb,ho⟩
    · simp at hn
    · exact ⟨ha,hb.lt⟩
  | .and [],b,h,hk=>absurd rfl hk.2
  | .and [p],b,h,hk=>by
    obtain ⟨_,xs,hl,hh⟩:=h
    rcases hh with ⟨_,rfl⟩ | ⟨hn,_⟩
    · obtain ⟨x,r,e,hp,_⟩:=hl
      cases e
      exact PN.lt p b hp hk.1.1
    · exact absurd rfl hn
  | .and (p::q::l),b,h,hk=>by
    obtain ⟨_,xs,hl,hh⟩:=h
    rcases hh with ⟨hn,_⟩ | ⟨hn,ha,lv,hb,ho⟩
    · simp at hn
    · exact ⟨ha,hb.lt⟩
  | .not p,b,h,_=>by obtain ⟨ha,lv,x,hb,ho,hl⟩:=h;exact ⟨ha,hb.lt⟩
  | .many p m n,b,h,_=>by obtain ⟨ha,lv,x,hb,ho,hl⟩:=h;exact ⟨ha,hb.lt⟩
  | .group p,b,h,_=>by obtain ⟨ha,lv,x,hb,ho,hl⟩:=h;exact ⟨ha,hb.lt⟩
theorem own_ptr (w:World)(x:Nat):Own (w.alloc (.cells #[Ptr x] 65)) (New w) 65 1 (.slice (some ⟨w.heap.size,0,none⟩) 1 1) 1 [Ptr x] :=
  ⟨⟨rfl,.inr ⟨w.heap.size,1,#[Ptr x],rfl,Nat.zero_le _,Blk.new w [Ptr x] 65,Nat.le_refl _,by unfold maxLen;omega,rfl,rfl⟩⟩,fun g hg=>by simp [Value.ownBlock] at hg;subst hg;exact Nat.le_refl _⟩
theorem PSt.alloc {w:World}{b:Nat}{s:ByteArray}{l r:List Int}{d m:Int}(h:PSt w b s l r d m)(o:Obj):PSt (w.alloc o) b s l r d m:=h.below ((Below.refl _ _).alloc (Nat.le_refl _) _)
theorem PSt.lt {w:World}{b:Nat}{s:ByteArray}{l r:List Int}{d m:Int}(h:PSt w b s l r d m):b<w.heap.size:=h.1.lt
def EndN (b:Nat)(s:ByteArray)(l:List Int)(d m:Int)(R:Res Pat)(w w':World)(e:Ending):Prop:=match R with
  | .ok p r=>∃ x,e=.returned (.tuple #[Ptr x,.bool true])/\PN w' (New w) p x/\PSt w' b s l r d (max m (d+p.deep))
  | .bad r=>e=.returned (.tuple #[.pointer none,.bool false])/\∃ m',PSt w' b s l r d m'
def PGives (F:Nat)(b:Nat)(s:ByteArray)(l:List Int)(d m:Int)(R:Res Pat)(w:World):Prop :=
  Calls Tryz.prog F #[.pointer (some ⟨b,0,none⟩)] w fun e w'=>Off b w w'/\EndN b s l d m R w w' e
def POrOk (n:Nat):Prop:=∀ (b:Nat) (s:ByteArray) (l r:List Int) (d m:Int) (w:World),PSt w b s l r d m->r.length<n->PGives 58 b s l d m (orN true n r) w
theorem Tryz.info65:(Tryz.prog.info? 65).map (fun i=>(i.zero,i.size,i.bytes))=some (some (.pointer none),1,8):=by kernel_rfl
theorem own_le65 {w:World}{B B':Nat}{v:Value}{n:Nat}{xs:List Value}(h:w.ownsRow B 65 1 v n xs)(hb:B'<=B):w.ownsRow B' 65 1 v n xs:=by
  refine ⟨h.1,?_⟩
  rcases h.2 with h2 | ⟨g,cap,cur,e,hg,r⟩
  · exact .inl h2
  · exact .inr ⟨g,cap,cur,e,Nat.le_trans hb hg,r⟩
theorem own65_form {w:World}{B n:Nat}{v:Value}{xs:List Value}(h:w.ownsRow B 65 1 v n xs):∃ ao cap,v=.slice ao n cap:=by
  rcases h.2 with ⟨rfl,rfl⟩ | ⟨g,cap,cur,rfl,_⟩<;>exact ⟨_,_,rfl⟩
theorem append_ptr {w:World}{ops:Array Oper}{rest:List Oper}{o:Oper}{a:Act}{Q:Exit->Act->World->Prop}(hgd:o.guard=none)(s x:Operand)
    (ho:o.op=.call { callee:=.builtin .append,args:=#[s,x],argTypes:=#[74,74] }) (B n:Nat) (v:Value) (xs:List Value) (hs:a.eval s=v) (hown:w.ownsRow B 65 1 v n xs)
    (ad:Addr) (news:List Value) (hx:a.eval x=.slice (some ad) 1 1) (hl:news.length=1) (hnews:∀ j u,news[j]?=some u->w.cell? (ad.add j)=some u) (h1:∀ u∈news,u.oneCell'=true)
    (hn:n<=100000) (hB:B<=w.heap.size)
    (h:∀ v' w',w'.ownsRow B 65 1 v' (n+1) (xs++news)->w.grownBy w' v.ownBlock->(v'.ownBlock=v.ownBlock\/∀ g,v'.ownBlock=some g->w.heap.size<=g) ->
      wpList Tryz.prog ops Q rest (a.put o.dst v') w'):wpList Tryz.prog ops Q (o::rest) a w:=by
  obtain ⟨i0,hi,hz0,hz1,hz2⟩:=info_parts Tryz.info65
  have hrow:=hown
  rcases hown.2 with ⟨rfl,rfl⟩ | ⟨g,cap,cur,rfl,hbg,hg,hnc,hcm,hcs,ht⟩
  · refine wpList_append_grows w hgd s x 74 ho 65 i0 (.pointer none) 1 8 Tryz.underlying74 hi hz0 hz1 hz2 rfl (by decide) none 0 0 xs hs (fun _=>⟨rfl,rfl⟩) hrow.1 (fun b e=>by cases e) ad 1 1 news hx hl hnews h1 (by omega) (by unfold maxLen;omega) (by omega) ?_
    intro v' w' ho' hg'
    exact h v' w' (own_le65 ho' hB) ⟨hg'.os,hg'.tape,hg'.output,hg'.size,fun k hk _=>hg'.block k hk (by simp)⟩ (.inr fun g e=>(ho'.lt g e).1)
  · by_cases hroom:n+1<=cap
    · refine wpList_append_fits w hgd s x 74 ho B 65 i0 1 Tryz.underlying74 hi hz1 g n cap xs hs hrow ad 1 1 news hx hl hnews h1 hroom ?_
      intro w' ho' hg'
      exact h _ w' ho' hg' (.inl rfl)
    · refine wpList_append_grows w hgd s x 74 ho 65 i0 (.pointer none) 1 8 Tryz.underlying74 hi hz0 hz1 hz2 rfl (by decide) (some ⟨g,0,none⟩) n cap xs hs (fun e=>by cases e) hrow.1 (fun b e j u hj=>by cases e;exact hrow.cells rfl j u hj) ad 1 1 news hx hl hnews h1 (by omega) (by unfold maxLen;omega) (by omega) ?_
      intro v' w' ho' hg'
      exact h v' w' (own_le65 ho' hB) ⟨hg'.os,hg'.tape,hg'.output,hg'.size,fun k hk _=>hg'.block k hk (by simp)⟩ (.inr fun g e=>(ho'.lt g e).1)
theorem ptr_new (w:World)(x:Nat):∀ j u,[Ptr x][j]?=some u->(w.alloc (.cells #[Ptr x] 65)).cell? ((⟨w.heap.size,0,none⟩:Addr).add j)=some u:=by
  intro j u hj
  match j,hj with
  | 0,hj=>simp at hj;subst hj;simp [Addr.add]
theorem ptr_one (x:Nat):∀ u∈[Ptr x],u.oneCell'=true:=by
  intro u hu;simp at hu;subst hu;rfl
def LP (w:World)(X:Nat)(v:Value)(L:List Pat)(wr:World):Prop:=∃ xs,wr.ownsRow w.heap.size 65 1 v L.length (xs.map Ptr)/\v.ownBlock≠some X/\PL wr (fun q=>w.heap.size<=q/\q≠X/\some q≠v.ownBlock) L xs
theorem LP.nil (w wr:World)(X:Nat):LP w X (.slice none 0 0) [] wr:=⟨[],World.ownsRow_nil _ _ _ _,by simp [Value.ownBlock],rfl⟩
theorem LP.keep {w wr w':World}{X:Nat}{v:Value}{L:List Pat}{b:Nat}(h:LP w X v L wr)(k:Off b wr w')(hb:b<w.heap.size\/b=X):LP w X v L w':=by
  obtain ⟨xs,h1,h2,h3⟩:=h
  refine ⟨xs,own_block h1 (fun q hq=>k.block q (h1.lt q hq).2 (fun e=>?_)),h2,PL.keep (Keeps.off k (fun hA=>?_)) L xs h3⟩
  · rcases hb with hb | rfl
    · have:=(h1.lt q hq).1;omega
    · exact h2 (e▸hq)
  · rcases hb with hb | rfl
    · have:=hA.1;omega
    · exact hA.2.1 rfl
theorem LP.own {w wr:World}{X:Nat}{v:Value}{L:List Pat}(h:LP w X v L wr):∃ xs,Own wr (New w) 65 1 v L.length (xs.map Ptr)/\PL wr (New w) L xs:=by
  obtain ⟨xs,h1,h2,h3⟩:=h
  exact ⟨xs,⟨own_le65 h1 (Nat.zero_le _),fun q hq=>(h1.lt q hq).1⟩,PL.mono (fun q _ hA=>hA.1) L xs h3⟩
theorem LP.push {w wr w1 w3:World}{X b:Nat}{v v':Value}{L:List Pat}{p:Pat}{x:Nat}{xs:List Nat}{o:Obj}
    (h1:wr.ownsRow w.heap.size 65 1 v L.length (xs.map Ptr)) (h2:v.ownBlock≠some X) (h3:PL wr (fun q=>w.heap.size<=q/\q≠X/\some q≠v.ownBlock) L xs) (hb:b<w.heap.size) (hX:X<wr.heap.size) (hw:w.heap.size<=wr.heap.size)
    (hoff:Off b wr w1) (hp:PN w1 (New wr) p x)
    (ho3:w3.ownsRow w.heap.size 65 1 v' (L.length+1) (xs.map Ptr++[Ptr x])) (hg:(w1.alloc o).grownBy w3 v.ownBlock) (hloc:v'.ownBlock=v.ownBlock\/∀ q,v'.ownBlock=some q->(w1.alloc o).heap.size<=q) :
    LP w X v' (L++[p]) w3:=by
  have hs:=hoff.size
  have hX1:v'.ownBlock≠some X:=by
    intro e
    rcases hloc with h | h
    · exact h2 (h▸e)
    · have h9:=h X e;simp at h9;omega
  have hlt:∀ q,v.ownBlock=some q->q<wr.heap.size:=fun q hq=>(h1.lt q hq).2
  have far:∀ q,q<w1.heap.size->some q≠v.ownBlock->some q≠v'.ownBlock:=by
    intro q hq hne e
    rcases hloc with h | h
    · exact hne (e.trans h)
    · have:=h q e.symm;simp at this;omega
  have kk:Keeps (fun q=>w.heap.size<=q/\q≠X/\some q≠v.ownBlock) w1 w3 :=
    (Keeps.alloc _ w1 o).trans (Keeps.grown hg (fun q e hA=>hA.2.2 e.symm))
  refine ⟨xs++[x],?_,hX1,?_⟩
  · rw [List.length_append,List.map_append];exact ho3
  · refine PL.snoc L xs p x ?_ ?_
    · have a1:=PL.keep (Keeps.off hoff (fun hA=>by have:=hA.1;omega)) L xs h3
      have a2:=PL.mono (A':=fun q=>(w.heap.size<=q/\q≠X/\some q≠v.ownBlock)/\some q≠v'.ownBlock) (fun q hq hA=>⟨hA,far q hq hA.2.2⟩) L xs a1
      have a3:=PL.keep (w':=w3) ⟨kk.1,fun q hq hA=>kk.2 q hq hA.1⟩ L xs a2
      exact PL.mono (fun q _ hA=>⟨hA.1.1,hA.1.2.1,hA.2⟩) L xs a3
    · have a2:=PN.mono (A':=fun q=>(w.heap.size<=q/\q≠X/\some q≠v.ownBlock)/\some q≠v'.ownBlock) (fun q hq hA=>by
        have hA':wr.heap.size<=q:=hA
        have hne:some q≠v.ownBlock:=fun e=>by have:=hlt q e.symm;omega
        exact ⟨⟨by omega,by omega,hne⟩,far q hq hne⟩) p x hp
      have a3:=PN.keep (w':=w3) ⟨kk.1,fun q hq hA=>kk.2 q hq hA.1⟩ p x a2
      exact PN.mono (fun q _ hA=>⟨hA.1.1,hA.1.2.1,hA.2⟩) p x a3
end Go.Proofs.YtpoibdhhcbelnaaGreatDoor
namespace Go.Proofs.YtpoibdhhcbelnaaGreatDoor
open Go.RowKit Brm
theorem enc_bytes {c:Int}(hc:runeB c=true):bytesOf (Utf8.encode c)=Lib.encodeRune c:=by
  have h:=(rune_iff c).1 hc
  obtain ⟨n,rfl⟩:∃ n:Nat,c=(n:Int):=⟨c.toNat,by omega⟩
  have hv:Utf8.valid (n:Int)=true:=by simp [Utf8.valid];omega
  unfold Utf8.encode Lib.encodeRune
  simp only [hv,if_true,Int.toNat_natCast]
  by_cases a1:n<128
  · rw [if_pos a1,Lib.encodeRuneZ_one (by omega) (by omega)];simp [bytesOf]
  · rw [if_neg a1]
    by_cases a2:n<2048
    · rw [if_pos a2,Lib.encodeRuneZ_two (by omega) (by omega)]
      simp only [bytesOf,List.map_cons,List.map_nil]
      have e1:(192+(n:Int) / 64).toNat=192+n / 64:=by omega
      have e2:(128+(n:Int) % 64).toNat=128+n % 64:=by omega
      rw [e1,e2]
    · rw [if_neg a2]
      by_cases a3:n<65536
      · rw [if_pos a3,Lib.encodeRuneZ_three (by omega)]
        simp only [bytesOf,List.map_cons,List.map_nil]
        have e1:(224+(n:Int) / 4096).toNat=224+n / 4096:=by omega
        have e2:(128+(n:Int) / 64 % 64).toNat=128+n / 64 % 64:=by omega
        have e3:(128+(n:Int) % 64).toNat=128+n % 64:=by omega
        rw [e1,e2,e3]
      · rw [if_neg a3,Lib.encodeRuneZ_four (by omega) (by omega)]
        simp only [bytesOf,List.map_cons,List.map_nil]
        have e1:(240+(n:Int) / 262144).toNat=240+n / 262144:=by omega
        have e2:(128+(n:Int) / 4096 % 64).toNat=128+n / 4096 % 64:=by omega
        have e3:(128+(n:Int) / 64 % 64).toNat=128+n / 64 % 64:=by omega
        have e4:(128+(n:Int) % 64).toNat=128+n % 64:=by omega
        rw [e1,e2,e3,e4]
def Str (bs:List UInt8)(w:World)(e:Ending)(w':World):Prop:=∃ t,e=.returned (.string t)/\bytesOf t=bs/\Below w.heap.size w w'
end Go.Proofs.YtpoibdhhcbelnaaGreatDoor
namespace Go.Proofs.YtpoibdhhcbelnaaGreatDoor
open Go.RowKit Brm
def ClassAt (r:List Int):Prop:=∃ c t,r=92::c::t/\isClass c=true
theorem class_no (b:Nat)(s:ByteArray)(l:List Int)(d m:Int)(w:World)(r:List Int)(h:PSt w b s l r d m)(h1:¬ ClassAt r):Calls Tryz.prog 304 #[.pointer (some ⟨b,0,none⟩)] w fun e w'=>badS e/\Below w.heap.size w w':=by
  by_cases h92:nextP r=92
  · cases r with
    | nil=>simp [nextP] at h92
    | cons c t =>
      simp only [nextP] at h92
      subst h92
      refine class_other b s l d m w t h ?_
      cases t with
      | nil=>rfl
      | cons c t =>
        cases hc:isClass c with
        | false=>exact hc
        | true=>exact absurd ⟨c,t,rfl,hc⟩ h1
  · exact class_none b s l d m w r h h92
theorem class_sign {c:Int}(h:isClass c=true):isSign c=false:=by
  rcases class_cases h with rfl | rfl | rfl | rfl | rfl | rfl<;>rfl
theorem item_class {c:Int}{t:List Int}(h:isClass c=true):itemP (92::c::t)=.ok (classOf c) t:=by
  simp [itemP,escP,class_sign h,h,Res.bind]
theorem item_else {r:List Int}(hr:AllR r)(h:¬ ClassAt r):itemP r=(singleP 0 r).bind fun a q=>rangeP a q:=by
  cases r with
  | nil=>rfl
  | cons c t =>
    simp only [itemP,singleP]
    by_cases h92:c=92
    · subst h92
      simp only [if_true]
      rw [if_pos (by decide)]
      cases t with
      | nil=>rfl
      | cons x t =>
        simp only [escP,signP]
        cases hs:isSign x with
        | true =>
          have:=sign_rune hs
          have h0:(0:Int)<=signOf x:=by omega
          simp [Res.bind,h0]
        | false =>
          cases hc:isClass x with
          | true=>exact absurd ⟨x,t,rfl,hc⟩ h
          | false=>simp [Res.bind]
    · have hx:=(rune_iff c).1 hr.head
      have h0:(0:Int)<=c:=by omega
      simp only [if_neg h92]
      cases hi:inner c with
      | true=>simp [Res.bind]
      | false=>simp [h0,Res.bind]
set_option maxRecDepth 100000 in
set_option maxHeartbeats 400000 in
theorem item_yes (b:Nat)(s:ByteArray)(l:List Int)(d m:Int)(w:World)(c:Int)(t:List Int)(h:PSt w b s l (92::c::t) d m)(hc:isClass c=true):Calls Tryz.prog 306 #[.pointer (some ⟨b,0,none⟩)] w fun e w'=>Off b w w'/\DoneP b s l d m (itemP (92::c::t)) w' e (fun x e=>okS w w' x e) badS:=by
  have HC:=hide (class_yes b s l d m w c t h hc)
  have HR:=hide (item_class (t:=t) hc)
  clear h hc
  go_enter Tryz.func306,Tryz.ntmps306
  go_wp2_with fail
  refine HC.out.mono ?_
  rintro e w1 ⟨⟨v1,rfl,hv1⟩,hs1,ho1⟩
  obtain ⟨ao,cap,rfl,_,_⟩:=hv1.sl.rd
  have HV:=hide hv1
  have HS:=hide hs1
  have HO:=hide ho1
  clear hv1 hs1 ho1
  go_wp2
  go_ret2
  exact ⟨HO.out,by rw [HR.out];exact ⟨HS.out,_,rfl,HV.out⟩⟩
set_option maxRecDepth 100000 in
set_option maxHeartbeats 400000 in
theorem item_no (b:Nat)(s:ByteArray)(l:List Int)(d m:Int)(w:World)(r:List Int)(h:PSt w b s l r d m)(hc:¬ ClassAt r):Calls Tryz.prog 306 #[.pointer (some ⟨b,0,none⟩)] w fun e w'=>Off b w w'/\DoneP b s l d m (itemP r) w' e (fun x e=>okS w w' x e) badS:=by
  have HC:=hide (class_no b s l d m w r h hc)
  have hall:=(runes_all h.2.2.1).suf h.2.1
  have HA:=hide hall
  have HR:=hide (item_else hall hc)
  have HNU:=hide (singleP_num (least:=0) hall)
  have HTK:=hide (singleP_takes 0 r)
  have HS:=hide h
  have HO:Hid (Off b w w):=Off.refl _ _
  clear h hc hall
  go_enter Tryz.func306,Tryz.ntmps306
  go_wp2_with fail
  refine HC.out.mono ?_
  rintro e wi ⟨rfl,hbi⟩
  replace HS:=hide (HS.out.below hbi)
  replace HO:=hide (HO.out.trans (Off.below hbi))
  clear hbi
  go_wp2_with fail
  refine (single_any2 b s l d m _ r 0 HS.out).mono ?_
  rintro e w2 ⟨ho2,hd2⟩
  replace HO:=hide (HO.out.trans ho2)
  clear ho2 HC
  generalize singleP 0 r=RR at HR hd2 HNU HTK
  cases RR with
  | bad q =>
    obtain ⟨hs2,v,rfl⟩:=hd2
    have HS2:=hide hs2
    clear hs2
    go_wp2
    go_ret2
    exact ⟨HO.out,by rw [HR.out];exact ⟨HS2.out,rfl⟩⟩
  | ok low q =>
    obtain ⟨hs2,rfl⟩:=hd2
    replace HS:=hide hs2
    obtain ⟨hlow0,hlow1⟩:=HNU.out
    have hlow2:low<=1114111:=by have:=(rune_iff low).1 hlow1;omega
    have HLR:=hide hlow1
    have HQA:=hide ((HA.out).suf (HTK.out).2)
    clear hs2 hlow1
    by_cases hq:q.head?=some 45
    · cases q with
      | nil=>simp at hq
      | cons c q =>
        simp only [List.head?_cons,Option.some.injEq] at hq
        subst hq
        go_wp2_with fail
        refine (take_yes b s l _ _ d m _ HS.out).mono ?_
        rintro e wi ⟨rfl,hsi,hoi⟩
        replace HS:=hide hsi
        replace HO:=hide (HO.out.trans hoi)
        clear hsi hoi
        have HR2:Hid (itemP r=(singleP low q).map fun b=>[(low,b)]):=by show _=_;rw [HR.out];simp [Res.bind,rangeP]
        have HNU2:=hide (singleP_num (least:=low) HQA.out.tail)
        go_wp2_with fail
        refine (single_any2 b s l d m _ q low HS.out).mono ?_
        rintro e w3 ⟨ho3,hd3⟩
        replace HO:=hide (HO.out.trans ho3)
        clear ho3
        generalize singleP low q=R3 at HR2 hd3 HNU2
        cases R3 with
        | bad q3 =>
          obtain ⟨hs3,v,rfl⟩:=hd3
          have HS3:=hide hs3
          clear hs3
          go_wp2
          go_ret2
          exact ⟨HO.out,by rw [HR2.out];exact ⟨HS3.out,rfl⟩⟩
        | ok high q3 =>
          obtain ⟨hs3,rfl⟩:=hd3
          obtain ⟨hh0,hh1⟩:=HNU2.out
          have hh2:high<=1114111:=by have:=(rune_iff high).1 hh1;omega
          have hh3:0<=high:=by omega
          have HS3:=hide (hs3.alloc (.cells (cellsR [(low,high)]).toArray 149))
          have HN:=hide (new_sla w3 [(low,high)])
          have HO3:=hide (HO.out.alloc (.cells (cellsR [(low,high)]).toArray 149))
          have HSZ:=hide HO.out.size
          clear hs3 hh0 hh1
          go_wp2
          go_ret2
          refine ⟨HO3.out,by rw [HR2.out];exact ⟨HS3.out,_,rfl,SlA.mono HN.out (fun k _ hk=>Nat.le_trans HSZ.out hk)⟩⟩
    · have HR2:Hid (itemP r=.ok [(low,low)] q):=by
        show _=_
        rw [HR.out]
        cases q with
        | nil=>rfl
        | cons c q =>
          have:¬ c=45:=by simpa using hq
          simp [Res.bind,rangeP,this]
      have HQ:=hide hq
      clear hq
      go_wp2_with fail
      refine (take_no b s l _ _ d m _ HS.out (by decide) HQ.out).mono ?_
      rintro e wi ⟨rfl,hbi⟩
      replace HS:=hide (HS.out.below hbi)
      replace HO:=hide (HO.out.trans (Off.below hbi))
      clear hbi
      go_wp2_with fail
      rename_i w5
      refine (pone_any low _ hlow0 hlow2).mono ?_
      rintro e w6 ⟨v6,rfl,hv6,hb6⟩
      obtain ⟨ao,cap,rfl,_,_⟩:=hv6.sl.rd
      have HSZ:=hide HO.out.size
      have HV6:Hid (SlA w6 (New w) _ [(low,low)]):=hv6.mono (fun k _ hk=>Nat.le_trans HSZ.out hk)
      have HS6:=hide (HS.out.below hb6)
      have HO6:=hide (HO.out.trans (Off.below hb6))
      clear hv6 hb6
      go_wp2
      go_ret2
      exact ⟨HO6.out,by rw [HR2.out];exact ⟨HS6.out,_,rfl,HV6.out⟩⟩
theorem pitem_any (b:Nat)(s:ByteArray)(l:List Int)(d m:Int)(w:World)(r:List Int)(h:PSt w b s l r d m):Calls Tryz.prog 306 #[.pointer (some ⟨b,0,none⟩)] w fun e w'=>Off b w w'/\DoneP b s l d m (itemP r) w' e (fun x e=>okS w w' x e) badS:=by
  by_cases hc:ClassAt r
  · obtain ⟨c,t,rfl,hc⟩:=hc
    exact item_yes b s l d m w c t h hc
  · exact item_no b s l d m w r h hc
end Go.Proofs.YtpoibdhhcbelnaaGreatDoor
namespace Go.Proofs.YtpoibdhhcbelnaaGreatDoor
open Go.RowKit Brm
def escPat (e:Int ⊕ List (Int×Int)):Pat:=match e with | .inl a=>.set [(a,a)] | .inr l=>.set l
theorem esc_class {c:Int}{t:List Int}(h:isClass c=true):(escP (c::t)).map escPat=.ok (.set (classOf c)) t:=by
  simp [escP,class_sign h,h,Res.map,escPat]
theorem esc_else {r:List Int}(h:¬ ClassAt (92::r)):(escP r).map escPat=(signR 0 r).map fun a=>.set [(a,a)]:=by
  unfold signR
  rw [if_pos (by decide)]
  cases r with
  | nil=>rfl
  | cons x t =>
    simp only [escP,signP]
    cases hs:isSign x with
    | true =>
      have:=sign_rune hs
      have h0:(0:Int)<=signOf x:=by omega
      simp [Res.map,h0,escPat]
    | false =>
      cases hc:isClass x with
      | true=>exact absurd ⟨x,t,rfl,hc⟩ h
      | false=>simp [Res.map]
theorem max_same {m d:Int}(h:d<=m):max m (d+((0:Nat):Int))=m:=by omega
theorem pn_set {w0 w:World}{sv:Value}{x:List (Int×Int)}(hs:SlA w (New w0) sv x)(hw:w0.heap.size<=w.heap.size):PN (w.alloc (.cells #[.int .i64 0,sv,.slice none 0 0,.int .i64 0,.int .i64 0] 76)) (New w0) (.set x) w.heap.size :=
  ⟨hw,sv,Blk.new w [.int .i64 0,sv,.slice none 0 0,.int .i64 0,.int .i64 0] 76,hs.keep (Keeps.alloc _ _ _)⟩
theorem end_set {w0 w:World}{b:Nat}{s:ByteArray}{l r:List Int}{d m:Int}{sv:Value}{x:List (Int×Int)}(ho:Off b w0 w)(hs:SlA w (New w0) sv x)(hp:PSt w b s l r d m) :
    Off b w0 (w.alloc (.cells #[.int .i64 0,sv,.slice none 0 0,.int .i64 0,.int .i64 0] 76))/\EndN b s l d m (.ok (.set x) r) w0 (w.alloc (.cells #[.int .i64 0,sv,.slice none 0 0,.int .i64 0,.int .i64 0] 76)) (.returned (.tuple #[Ptr w.heap.size,.bool true])):=by
  refine ⟨ho.alloc _,w.heap.size,rfl,pn_set hs ho.size,?_⟩
  have h:=hp.alloc (.cells #[.int .i64 0,sv,.slice none 0 0,.int .i64 0,.int .i64 0] 76)
  have hd:d<=m:=hp.2.2.2.2.2.2.2.2.2.2
  show PSt _ b s l r d (max m (d+((0:Nat):Int)))
  rw [max_same hd]
  exact h
set_option maxRecDepth 100000 in
set_option maxHeartbeats 400000 in
theorem escape_yes (b:Nat)(s:ByteArray)(l:List Int)(d m:Int)(w:World)(c:Int)(t:List Int)(h:PSt w b s l (92::c::t) d m)(hc:isClass c=true):PGives 284 b s l d m ((escP (c::t)).map escPat) w:=by
  have HC:=hide (class_yes b s l d m w c t h hc)
  have HR:=hide (esc_class (t:=t) hc)
  clear h hc
  unfold PGives
  rw [HR.out]
  go_enter Tryz.func284,Tryz.ntmps284
  go_wp2_with fail
  refine HC.out.mono ?_
  rintro e w1 ⟨⟨v1,rfl,hv1⟩,hs1,ho1⟩
  obtain ⟨ao,cap,rfl,_,_⟩:=hv1.sl.rd
  have HE:=hide (end_set ho1 hv1 hs1)
  clear hv1 hs1 ho1
  go_wp2
  go_ret2
  exact HE.out
set_option maxRecDepth 100000 in
set_option maxHeartbeats 400000 in
theorem escape_no (b:Nat)(s:ByteArray)(l:List Int)(d m:Int)(w:World)(r:List Int)(h:PSt w b s l (92::r) d m)(hc:¬ ClassAt (92::r)):PGives 284 b s l d m ((escP r).map escPat) w:=by
  have HC:=hide (class_no b s l d m w (92::r) h hc)
  have HR:=hide (esc_else hc)
  have HNU:=hide (signP_num 0 r)
  have HS:=hide h
  have HO:Hid (Off b w w):=Off.refl _ _
  clear h hc
  have HSG:=hide (fun w' hw=>sign_any2 b s l d m w' r 0 hw)
  have hsr:signR 0 r=signP 0 r:=if_pos (by decide)
  rw [hsr] at HSG HR
  clear hsr
  generalize signP 0 r=RR at HSG HNU HR
  generalize (escP r).map escPat=R at HR ⊢
  unfold PGives
  go_enter Tryz.func284,Tryz.ntmps284
  go_wp2_with fail
  refine HC.out.mono ?_
  rintro e wi ⟨rfl,hbi⟩
  replace HS:=hide (HS.out.below hbi)
  replace HO:=hide (HO.out.trans (Off.below hbi))
  clear hbi
  go_wp2_with fail
  refine (HSG.out _ HS.out).mono ?_
  rintro e w2 ⟨ho2,hd2⟩
  replace HO:=hide (HO.out.trans ho2)
  clear ho2 HC
  cases RR with
  | bad q =>
    obtain ⟨hs2,v,rfl⟩:=hd2
    have HS2:=hide hs2
    clear hs2
    go_wp2
    go_ret2
    exact ⟨HO.out,by rw [HR.out];exact ⟨rfl,_,HS2.out⟩⟩
  | ok low q =>
    obtain ⟨hs2,rfl⟩:=hd2
    replace HS:=hide hs2
    obtain ⟨hlow0,hlow1⟩:=HNU.out
    have hlow2:low<=1114111:=by have:=(rune_iff low).1 hlow1;omega
    clear hs2 hlow1
    go_wp2_with fail
    refine (pone_any low _ hlow0 hlow2).mono ?_
    rintro e w6 ⟨v6,rfl,hv6,hb6⟩
    obtain ⟨ao,cap,rfl,_,_⟩:=hv6.sl.rd
    have HE:=hide (end_set (HO.out.trans (Off.below hb6)) (hv6.mono (A':=New w) (fun k _ hk=>Nat.le_trans HO.out.size hk)) (HS.out.below hb6))
    clear hv6 hb6
    go_wp2
    go_ret2
    rw [HR.out]
    exact HE.out
theorem escape_any (b:Nat)(s:ByteArray)(l:List Int)(d m:Int)(w:World)(r:List Int)(h:PSt w b s l (92::r) d m):PGives 284 b s l d m ((escP r).map escPat) w:=by
  by_cases hc:ClassAt (92::r)
  · obtain ⟨c,t,e,hc⟩:=hc
    cases e
    exact escape_yes b s l d m w c t h hc
  · exact escape_no b s l d m w r h hc
end Go.Proofs.YtpoibdhhcbelnaaGreatDoor
namespace Go.Proofs.YtpoibdhhcbelnaaGreatDoor
open Go.RowKit Brm
def BrP (w:World)(b:Nat)(s:ByteArray)(l:List Int)(d m:Int)(R:Res (List (Int×Int)))(k:Nat)(v:Value)(wr:World):Prop :=
  Off b w wr/\∃ l0 s0,PSt wr b s l s0 d m/\wr.ownsRow w.heap.size 149 2 v l0.length (cellsR l0)/\itemsP k l0 s0=R/\(∀ x∈l0,okB x=true)/\l0.length+5*s0.length<=400/\s0.length<k
theorem range_ne {a:Int}{t q:List Int}{x:List (Int×Int)}(h:rangeP a t=.ok x q):x≠[]:=by
  cases t with
  | nil=>simp [rangeP] at h;rw [<- h.1];simp
  | cons e t =>
    simp only [rangeP] at h
    split at h
    · cases hs:singleP a t with
      | bad q=>rw [hs] at h;simp [Res.map] at h
      | ok y q=>rw [hs] at h;simp [Res.map] at h;rw [<- h.1];simp
    · simp at h;rw [<- h.1];simp
theorem class_ne {c:Int}(h:isClass c=true):classOf c≠[]:=by
  rcases class_cases h with rfl | rfl | rfl | rfl | rfl | rfl<;>decide
theorem item_ne {r q:List Int}{x:List (Int×Int)}(h:itemP r=.ok x q):x≠[]:=by
  cases r with
  | nil=>simp [itemP] at h
  | cons c t =>
    simp only [itemP] at h
    split at h
    · cases t with
      | nil=>simp [escP,Res.bind] at h
      | cons y t =>
        simp only [escP] at h
        split at h
        · exact range_ne h
        · split at h
          · rename_i hc
            simp [Res.bind] at h
            rw [<- h.1];exact class_ne hc
          · simp [Res.bind] at h
    · split at h
      · simp at h
      · exact range_ne h
theorem own_catR {w:World}{B:Nat}{v:Value}{a c:List (Int×Int)}(h:w.ownsRow B 149 2 v (a.length+c.length) (cellsR a++cellsR c)):w.ownsRow B 149 2 v (a++c).length (cellsR (a++c)):=by
  rw [List.length_append,cellsR_append];exact h
theorem PSt.grown {w w':World}{b:Nat}{s:ByteArray}{l r:List Int}{d m:Int}{row:Option Nat}(h:PSt w b s l r d m)(hg:w.grownBy w' row)(hr:∀ k,row=some k->b<k):PSt w' b s l r d m:=by
  have h7:=h.2.2.2.2.2.1
  refine ⟨Blk.grown h.1 hg (fun e=>by have:=hr b e.symm;omega),h.2.1,h.2.2.1,h.2.2.2.1,?_,h.2.2.2.2.2⟩
  have hT:=h.2.2.2.2.1
  exact ⟨Nat.le_trans hT.1 hg.size,fun W hW=>hT.2 W (fun k hk=>(hW k hk).trans (hg.block k (by have:=hT.1;omega) (fun e=>by have:=hr k e.symm;omega)))⟩
set_option maxRecDepth 100000 in
set_option maxHeartbeats 1000000 in
theorem bracket_not (b:Nat)(s:ByteArray)(l:List Int)(d m:Int)(w:World)(s1:List Int)(h:PSt w b s l (91::94::s1) d m):PGives 285 b s l d m (((itemsP (s1.length+2) [] s1).map (fun x=>notC (form x))).map .set) w:=by
  have HS:=hide h
  have HO:=hide (Off.refl b w)
  have HBb:=hide h.1.lt
  have hs60:=h.2.2.2.1
  have hl60:l.length<=60:=by have:=runes_len h.2.2.1;rw [bytes_len] at this;omega
  have hsl:=h.2.1.length_le
  skip
  clear h
  obtain ⟨i0,hi,hz0,hz1,hz2⟩:=info_parts Tryz.info149
  generalize hR:itemsP (s1.length+2) [] s1=R
  have HR0:=hide hR
  clear hR
  unfold PGives
  go_enter Tryz.func285,Tryz.ntmps285
  go_wp2_with (first
    | (go_at_call 207;refine (step_any b s l _ _ d m _ HS.out).mono ?_;rintro e wt ⟨rfl,hst,hot⟩;replace HS:=hide hst;replace HO:=hide (HO.out.trans hot);clear hst hot)
    | (go_at_call 159;refine (take_yes b s l _ _ d m _ HS.out).mono ?_;rintro e wt ⟨rfl,hst,hot⟩;replace HS:=hide hst;replace HO:=hide (HO.out.trans hot);clear hst hot))
  go_loopg [5] (s1.length+2) (fun k v wr=>BrP w b s l d m R k v wr)
  case atStart=>exact ⟨HO.out,[],s1,HS.out,World.ownsRow_nil _ _ _ _,HR0.out,by simp,by simp at hsl ⊢;omega,by omega⟩
  case round =>
    clear HO HS HR0
    obtain ⟨ho,l0,s0,hst,hown,heq,hok,hle,hk⟩:=hrel
    have hall:=(runes_all hst.2.2.1).suf hst.2.1
    have HO:=hide ho
    have HS:=hide hst
    have HOWN:=hide hown
    have HE:=hide heq
    have HOK:=hide hok
    have HLE:=hide hle
    clear ho hst heq hok
    obtain ⟨k',rfl⟩:∃ k',gk=k'+1:=⟨gk-1,by omega⟩
    by_cases h93:s0.head?=some 93
    · obtain ⟨u,rfl⟩:∃ u,s0=93::u:=⟨_,head_cons h93⟩
      have HR:Hid ((R.map (fun x=>notC (form x))).map Pat.set=.ok (.set ((fun x=>notC (form x)) l0)) u):=by
        have:=HE.out
        simp only [itemsP,List.head?_cons,if_true,List.tail_cons] at this
        show _=_
        rw [<- this];rfl
      clear h93 hall hown
      have HLN:Hid (l0.length<=1000000):=by show _<=_;omega
      go_wp2_with fail
      refine (take_yes b s l _ _ d m _ HS.out).mono ?_
      rintro e wt ⟨rfl,hst,hot⟩
      have HOW2:=hide (own_block HOWN.out (fun q hq=>hot.block q (HOWN.out.lt q hq).2 (by have:=(HOWN.out.lt q hq).1;have:=HBb.out;omega)))
      replace HS:=hide hst
      replace HO:=hide (HO.out.trans hot)
      clear hst hot
      obtain ⟨ao,cap,rfl,_,hrd⟩:=own_rd HOW2.out
      have HRD:=hide hrd
      clear hrd
      go_wp2_with fail
      refine (pnot_set ao l0 cap _ HRD.out HLN.out HOK.out).mono ?_
      rintro e w6 ⟨v6,rfl,hv6,hb6⟩
      obtain ⟨ao6,cap6,rfl,_,_⟩:=hv6.sl.rd
      have HEN:=hide (end_set (HO.out.trans (Off.below hb6)) (hv6.mono (A':=New w) (fun k _ hk=>Nat.le_trans HO.out.size hk)) (HS.out.below hb6))
      clear hv6 hb6
      go_wp2
      go_ret2
      rw [HR.out]
      exact HEN.out
    · have HN93:=hide h93
      have hl1:=itemP_list hall
      have htk:=itemP_takes s0
      cases hit:itemP s0 with
      | bad s2 =>
        have HRI:=hide hit
        have HRB:Hid ((R.map (fun x=>notC (form x))).map Pat.set=.bad s2):=by
          have:=HE.out
          simp only [itemsP,if_neg h93,hit,Res.bind] at this
          show _=_
          rw [<- this];rfl
        clear hit hl1 htk h93 hall hown
        go_wp2_with fail
        refine (take_no b s l _ _ d m _ HS.out (by decide) HN93.out).mono ?_
        rintro e wt ⟨rfl,hbt⟩
        replace HS:=hide (HS.out.below hbt)
        replace HO:=hide (HO.out.trans (Off.below hbt))
        clear hbt
        go_wp2_with fail
        refine (pitem_any b s l d m _ s0 HS.out).mono ?_
        rintro e wi ⟨hoi,hdi⟩
        rw [HRI.out] at hdi
        obtain ⟨hst,rfl⟩:=hdi
        replace HS:=hide hst
        replace HO:=hide (HO.out.trans hoi)
        clear hst hoi
        go_wp2
        go_ret2
        exact ⟨HO.out,by rw [HRB.out];exact ⟨rfl,_,HS.out⟩⟩
      | ok x s2 =>
        have HRI:=hide hit
        have hne:=item_ne hit
        rw [hit] at hl1 htk
        have HX0:=hide hl1
        have HE2:Hid (itemsP k' (l0++x) s2=R):=by
          have:=HE.out
          simp only [itemsP,if_neg h93,hit,Res.bind] at this
          exact this
        have HLT:=hide htk.1
        have hx9:x.length<=400:=by have:=hl1.2;simp at this;omega
        have HX9:=hide hx9
        have hl9:l0.length<=400:=by omega
        have HL9:=hide hl9
        clear hit hl1 htk h93 hall hown hx9 hl9
        go_wp2_with fail
        refine (take_no b s l _ _ d m _ HS.out (by decide) HN93.out).mono ?_
        rintro e wt ⟨rfl,hbt⟩
        replace HOWN:=hide (own_block HOWN.out (fun q hq=>hbt.block q (HOWN.out.lt q hq).2))
        replace HS:=hide (HS.out.below hbt)
        replace HO:=hide (HO.out.trans (Off.below hbt))
        clear hbt
        go_wp2_with fail
        refine (pitem_any b s l d m _ s0 HS.out).mono ?_
        rintro e wi ⟨hoi,hdi⟩
        rw [HRI.out] at hdi
        obtain ⟨hst,vx,rfl,hvx⟩:=hdi
        replace HOWN:=hide (own_block HOWN.out (fun q hq=>hoi.block q (HOWN.out.lt q hq).2 (by have:=(HOWN.out.lt q hq).1;have:=HBb.out;omega)))
        replace HS:=hide hst
        replace HO:=hide (HO.out.trans hoi)
        clear hst hoi
        rcases hvx with ⟨_,e0⟩ | ⟨bb,oo,cc,rfl,hcc,hnew,hblt,hrd⟩
        · exact absurd e0 hne
        have HSC:=hide (src_cells hrd (Below.refl _ _) rfl)
        have hsz:=HO.out.size
        clear hrd hnew hblt hne hcc
        go_wp2_with (at_builtin;refine wpList_append_own _ rfl _ _ 29 rfl w.heap.size 149 i0 (.agg #[.int .i64 0,.int .i64 0]) 2 16 Tryz.underlying29 hi hz0 hz1 hz2 rfl (by decide) _ _ _ rfl HOWN.out ⟨bb,oo,none⟩ x.length cc (cellsR x) rfl (cellsR_length x) HSC.out (src_one x) (by unfold maxLen;have:=HX9.out;have:=HL9.out;omega) (by have:=HX9.out;have:=HL9.out;omega) hsz ?_;intro v3 w3 ho3 hg3 hnil3;have HW3:=hide (own_catR ho3);have HG3:=hide hg3;clear ho3 hg3 hnil3)
        go_roundg k'
        case measure=>omega
        case rel =>
          refine ⟨HO.out.grown HG3.out (fun q e=>(HOWN.out.lt q e).1),l0++x,s2,?_,HW3.out,HE2.out,?_,?_,?_⟩
          · exact HS.out.grown HG3.out (fun q e=>by have:=(HOWN.out.lt q e).1;have:=HBb.out;omega)
          · intro y hy
            rcases List.mem_append.1 hy with hy | hy
            · exact HOK.out y hy
            · exact HX0.out.1 y hy
          · have:=HLE.out;have:=HX0.out.2;rw [List.length_append];omega
          · have:=HLT.out;omega
set_option maxRecDepth 100000 in
set_option maxHeartbeats 1000000 in
theorem bracket_yes (b:Nat)(s:ByteArray)(l:List Int)(d m:Int)(w:World)(s1:List Int)(h:PSt w b s l (91::s1) d m)(hn:s1.head?≠some 94):PGives 285 b s l d m (((itemsP (s1.length+2) [] s1).map form).map .set) w:=by
  have HS:=hide h
  have HO:=hide (Off.refl b w)
  have HBb:=hide h.1.lt
  have hs60:=h.2.2.2.1
  have hl60:l.length<=60:=by have:=runes_len h.2.2.1;rw [bytes_len] at this;omega
  have hsl:=h.2.1.length_le
  have HN:=hide hn;clear hn
  clear h
  obtain ⟨i0,hi,hz0,hz1,hz2⟩:=info_parts Tryz.info149
  generalize hR:itemsP (s1.length+2) [] s1=R
  have HR0:=hide hR
  clear hR
  unfold PGives
  go_enter Tryz.func285,Tryz.ntmps285
  go_wp2_with (first
    | (go_at_call 207;refine (step_any b s l _ _ d m _ HS.out).mono ?_;rintro e wt ⟨rfl,hst,hot⟩;replace HS:=hide hst;replace HO:=hide (HO.out.trans hot);clear hst hot)
    | (go_at_call 159;refine (take_no b s l _ _ d m _ HS.out (by decide) HN.out).mono ?_;rintro e wt ⟨rfl,hbt⟩;replace HS:=hide (HS.out.below hbt);replace HO:=hide (HO.out.trans (Off.below hbt));clear hbt))
  go_loopg [5] (s1.length+2) (fun k v wr=>BrP w b s l d m R k v wr)
  case atStart=>exact ⟨HO.out,[],s1,HS.out,World.ownsRow_nil _ _ _ _,HR0.out,by simp,by simp at hsl ⊢;omega,by omega⟩
  case round =>
    clear HO HS HR0
    obtain ⟨ho,l0,s0,hst,hown,heq,hok,hle,hk⟩:=hrel
    have hall:=(runes_all hst.2.2.1).suf hst.2.1
    have HO:=hide ho
    have HS:=hide hst
    have HOWN:=hide hown
    have HE:=hide heq
    have HOK:=hide hok
    have HLE:=hide hle
    clear ho hst heq hok
    obtain ⟨k',rfl⟩:∃ k',gk=k'+1:=⟨gk-1,by omega⟩
    by_cases h93:s0.head?=some 93
    · obtain ⟨u,rfl⟩:∃ u,s0=93::u:=⟨_,head_cons h93⟩
      have HR:Hid ((R.map form).map Pat.set=.ok (.set (form l0)) u):=by
        have:=HE.out
        simp only [itemsP,List.head?_cons,if_true,List.tail_cons] at this
        show _=_
        rw [<- this];rfl
      clear h93 hall hown
      have HLN:Hid (l0.length<=1000000):=by show _<=_;omega
      go_wp2_with fail
      refine (take_yes b s l _ _ d m _ HS.out).mono ?_
      rintro e wt ⟨rfl,hst,hot⟩
      have HOW2:=hide (own_block HOWN.out (fun q hq=>hot.block q (HOWN.out.lt q hq).2 (by have:=(HOWN.out.lt q hq).1;have:=HBb.out;omega)))
      replace HS:=hide hst
      replace HO:=hide (HO.out.trans hot)
      clear hst hot
      obtain ⟨ao,cap,rfl,_,hrd⟩:=own_rd HOW2.out
      have HRD:=hide hrd
      clear hrd
      go_wp2_with fail
      refine (form_set ao l0 cap _ HRD.out HLN.out HOK.out).mono ?_
      rintro e w6 ⟨v6,rfl,hv6,hb6⟩
      obtain ⟨ao6,cap6,rfl,_,_⟩:=hv6.sl.rd
      have HEN:=hide (end_set (HO.out.trans (Off.below hb6)) (hv6.mono (A':=New w) (fun k _ hk=>Nat.le_trans HO.out.size hk)) (HS.out.below hb6))
      clear hv6 hb6
      go_wp2
      go_ret2
      rw [HR.out]
      exact HEN.out
    · have HN93:=hide h93
      have hl1:=itemP_list hall
      have htk:=itemP_takes s0
      cases hit:itemP s0 with
      | bad s2 =>
        have HRI:=hide hit
        have HRB:Hid ((R.map form).map Pat.set=.bad s2):=by
          have:=HE.out
          simp only [itemsP,if_neg h93,hit,Res.bind] at this
          show _=_
          rw [<- this];rfl
        clear hit hl1 htk h93 hall hown
        go_wp2_with fail
        refine (take_no b s l _ _ d m _ HS.out (by decide) HN93.out).mono ?_
        rintro e wt ⟨rfl,hbt⟩
        replace HS:=hide (HS.out.below hbt)
        replace HO:=hide (HO.out.trans (Off.below hbt))
        clear hbt
        go_wp2_with fail
        refine (pitem_any b s l d m _ s0 HS.out).mono ?_
        rintro e wi ⟨hoi,hdi⟩
        rw [HRI.out] at hdi
        obtain ⟨hst,rfl⟩:=hdi
        replace HS:=hide hst
        replace HO:=hide (HO.out.trans hoi)
        clear hst hoi
        go_wp2
        go_ret2
        exact ⟨HO.out,by rw [HRB.out];exact ⟨rfl,_,HS.out⟩⟩
      | ok x s2 =>
        have HRI:=hide hit
        have hne:=item_ne hit
        rw [hit] at hl1 htk
        have HX0:=hide hl1
        have HE2:Hid (itemsP k' (l0++x) s2=R):=by
          have:=HE.out
          simp only [itemsP,if_neg h93,hit,Res.bind] at this
          exact this
        have HLT:=hide htk.1
        have hx9:x.length<=400:=by have:=hl1.2;simp at this;omega
        have HX9:=hide hx9
        have hl9:l0.length<=400:=by omega
        have HL9:=hide hl9
        clear hit hl1 htk h93 hall hown hx9 hl9
        go_wp2_with fail
        refine (take_no b s l _ _ d m _ HS.out (by decide) HN93.out).mono ?_
        rintro e wt ⟨rfl,hbt⟩
        replace HOWN:=hide (own_block HOWN.out (fun q hq=>hbt.block q (HOWN.out.lt q hq).2))
        replace HS:=hide (HS.out.below hbt)
        replace HO:=hide (HO.out.trans (Off.below hbt))
        clear hbt
        go_wp2_with fail
        refine (pitem_any b s l d m _ s0 HS.out).mono ?_
        rintro e wi ⟨hoi,hdi⟩
        rw [HRI.out] at hdi
        obtain ⟨hst,vx,rfl,hvx⟩:=hdi
        replace HOWN:=hide (own_block HOWN.out (fun q hq=>hoi.block q (HOWN.out.lt q hq).2 (by have:=(HOWN.out.lt q hq).1;have:=HBb.out;omega)))
        replace HS:=hide hst
        replace HO:=hide (HO.out.trans hoi)
        clear hst hoi
        rcases hvx with ⟨_,e0⟩ | ⟨bb,oo,cc,rfl,hcc,hnew,hblt,hrd⟩
        · exact absurd e0 hne
        have HSC:=hide (src_cells hrd (Below.refl _ _) rfl)
        have hsz:=HO.out.size
        clear hrd hnew hblt hne hcc
        go_wp2_with (at_builtin;refine wpList_append_own _ rfl _ _ 29 rfl w.heap.size 149 i0 (.agg #[.int .i64 0,.int .i64 0]) 2 16 Tryz.underlying29 hi hz0 hz1 hz2 rfl (by decide) _ _ _ rfl HOWN.out ⟨bb,oo,none⟩ x.length cc (cellsR x) rfl (cellsR_length x) HSC.out (src_one x) (by unfold maxLen;have:=HX9.out;have:=HL9.out;omega) (by have:=HX9.out;have:=HL9.out;omega) hsz ?_;intro v3 w3 ho3 hg3 hnil3;have HW3:=hide (own_catR ho3);have HG3:=hide hg3;clear ho3 hg3 hnil3)
        go_roundg k'
        case measure=>omega
        case rel =>
          refine ⟨HO.out.grown HG3.out (fun q e=>(HOWN.out.lt q e).1),l0++x,s2,?_,HW3.out,HE2.out,?_,?_,?_⟩
          · exact HS.out.grown HG3.out (fun q e=>by have:=(HOWN.out.lt q e).1;have:=HBb.out;omega)
          · intro y hy
            rcases List.mem_append.1 hy with hy | hy
            · exact HOK.out y hy
            · exact HX0.out.1 y hy
          · have:=HLE.out;have:=HX0.out.2;rw [List.length_append];omega
          · have:=HLT.out;omega
theorem bracket_any (b:Nat)(s:ByteArray)(l:List Int)(d m:Int)(w:World)(r:List Int)(h:PSt w b s l (91::r) d m):PGives 285 b s l d m ((bracketP r).map .set) w:=by
  unfold bracketP
  by_cases h94:r.head?=some 94
  · obtain ⟨u,rfl⟩:∃ u,r=94::u:=⟨_,head_cons h94⟩
    simp only [List.head?_cons,if_true,List.tail_cons,List.length_cons]
    exact bracket_not b s l d m w u h
  · rw [if_neg h94]
    have:=bracket_yes b s l d m w r h h94
    rw [<- itemsP_more (r.length+1) [] r (Nat.lt_succ_self _)] at this
    exact this
end Go.Proofs.YtpoibdhhcbelnaaGreatDoor
namespace Go.Proofs.YtpoibdhhcbelnaaGreatDoor
open Go.RowKit Brm
theorem PSt.deeper {w:World}{b:Nat}{s:ByteArray}{l r:List Int}{d m:Int}(h:PSt w b s l r d m)(h1:d+1<=((l.length-r.length:Nat):Int)):PSt ((w.setCell ⟨b,2,none⟩ (.int .i64 (d+1))).setCell ⟨b,3,none⟩ (.int .i64 (max m (d+1)))) b s l r (d+1) (max m (d+1)):=by
  have hb:=h.2.2.2.2.2
  exact ⟨(Blk.set h.1 2 _).set 3 _,h.2.1,h.2.2.1,h.2.2.2.1,h.2.2.2.2.1.off (((Off.refl b w).setCell 2 _).setCell 3 _) hb.1,by omega⟩
theorem PSt.setD {w:World}{b:Nat}{s:ByteArray}{l r:List Int}{d m:Int}(h:PSt w b s l r d m)(x:Int)(h0:0<=x)(h1:x<=d):PSt (w.setCell ⟨b,2,none⟩ (.int .i64 x)) b s l r x m:=by
  have hb:=h.2.2.2.2.2
  exact ⟨Blk.set h.1 2 _,h.2.1,h.2.2.1,h.2.2.2.1,h.2.2.2.2.1.off ((Off.refl b w).setCell 2 _) hb.1,by omega⟩
theorem PSt.facts {w:World}{b:Nat}{s:ByteArray}{l r:List Int}{d m:Int}(h:PSt w b s l r d m):0<=d/\d<=60/\0<=m/\m<=60:=by
  have:=h.2.2.2.2.2;have h1:=runes_len h.2.2.1;rw [bytes_len] at h1;have:=h.2.2.2.1;omega
theorem PSt.drew {w:World}{b:Nat}{s:ByteArray}{l r:List Int}{d m:Int}(h:PSt w b s l r d m):PSt w.drew b s l r d m:=h
theorem end_wrap {w0 w:World}{b x:Nat}{s:ByteArray}{l r:List Int}{d m M:Int}{p q:Pat}{K mm nn:Int}(ho:Off b w0 w)(hp:PN w (New w0) p x)(hs:PSt w b s l r d M)
    (hq:∀ (w':World) (y:Nat) (lv:Value),New w0 y->Blk w' y [.int .i64 K,.slice none 0 0,lv,.int .i64 mm,.int .i64 nn] 76->Own w' (New w0) 65 1 lv 1 [Ptr x]->PN w' (New w0) p x->PN w' (New w0) q y) (hM:M=max m (d+q.deep)) :
    Off b w0 ((w.alloc (.cells #[Ptr x] 65)).alloc (.cells #[.int .i64 K,.slice none 0 0,.slice (some ⟨w.heap.size,0,none⟩) 1 1,.int .i64 mm,.int .i64 nn] 76)) /\
    EndN b s l d m (.ok q r) w0 ((w.alloc (.cells #[Ptr x] 65)).alloc (.cells #[.int .i64 K,.slice none 0 0,.slice (some ⟨w.heap.size,0,none⟩) 1 1,.int .i64 mm,.int .i64 nn] 76)) (.returned (.tuple #[Ptr (w.heap.size+1),.bool true])):=by
  refine ⟨(ho.alloc _).alloc _,w.heap.size+1,rfl,?_,?_⟩
  · have e:(w.alloc (.cells #[Ptr x] 65)).heap.size=w.heap.size+1:=by simp
    have hb:=Blk.new (w.alloc (.cells #[Ptr x] 65)) [.int .i64 K,.slice none 0 0,.slice (some ⟨w.heap.size,0,none⟩) 1 1,.int .i64 mm,.int .i64 nn] 76
    rw [e] at hb
    have hz:=ho.size
    refine hq _ _ (.slice (some ⟨w.heap.size,0,none⟩) 1 1) (by show w0.heap.size<=w.heap.size+1;omega) hb ?_ ?_
    · exact ((own_ptr w x).mono (A':=New w0) (fun g _ hg=>Nat.le_trans hz hg)).keep (Keeps.alloc _ _ _)
    · exact PN.keep ((Keeps.alloc _ _ _).trans (Keeps.alloc _ _ _)) p x hp
  · rw [<- hM];exact (hs.alloc _).alloc _
set_option maxRecDepth 100000 in
set_option maxHeartbeats 1000000 in
theorem inside_not (b:Nat)(s:ByteArray)(l:List Int)(d m:Int)(w:World)(r:List Int)(R:Res Pat)(h:PSt w b s l r d m)(hd:d+1<=((l.length-r.length:Nat):Int))
    (hc:∀ w',PSt w' b s l r (d+1) (max m (d+1))->PGives 209 b s l (d+1) (max m (d+1)) R w') :
    Calls Tryz.prog 241 #[.pointer (some ⟨b,0,none⟩),.int .i64 4,.func (.func 209) #[.pointer (some ⟨b,0,none⟩)] #[]] w fun e w'=>Off b w w'/\EndN b s l d m (R.map Pat.not) w w' e:=by
  have HS:=hide h
  have HD:=hide hd
  obtain ⟨f1,f2,f3,f4⟩:=h.facts
  obtain ⟨c0,c1,c2,c3,hb⟩:=h.cells
  have hf2:=h.1.frozen 2
  have hf3:=h.1.frozen 3
  have HC:=hide (hc ((w.setCell ⟨b,2,none⟩ (.int .i64 (d+1))).setCell ⟨b,3,none⟩ (.int .i64 (max m (d+1)))).drew (h.deeper hd).drew)
  have HOD:Hid (Off b w ((w.setCell ⟨b,2,none⟩ (.int .i64 (d+1))).setCell ⟨b,3,none⟩ (.int .i64 (max m (d+1)))).drew):=(((Off.refl b w).setCell 2 _).setCell 3 _).drew
  clear h hd hc c0 c1
  go_enter Tryz.func241,Tryz.ntmps241
  go_wp2_with fail
  go_region
  go_wp2_with fail
  refine HC.out.mono ?_
  rintro e w1 ⟨ho1,he1⟩
  have HO:=hide (HOD.out.trans ho1)
  clear ho1 c2 c3 hf2 hf3
  generalize hW:((w.setCell ⟨b,2,none⟩ (.int .i64 (d+1))).setCell ⟨b,3,none⟩ (.int .i64 (max m (d+1)))).drew=W1 at HC HOD he1
  have HWZ:Hid (w.heap.size<=W1.heap.size):=HOD.out.size
  clear hW
  cases R with
  | bad q =>
    obtain ⟨rfl,m',hs1⟩:=he1
    obtain ⟨c0,c1,c2,c3,hb1⟩:=hs1.cells
    have hf2:=hs1.1.frozen 2
    have HS1:=hide (hs1.setD d f1 (by omega))
    have HO1:=hide (HO.out.setCell 2 (.int .i64 d))
    have e1:d+1-1=d:=by omega
    clear hs1 c0 c1 c3
    go_wp2
    go_ret2
    exact ⟨HO1.out,rfl,_,HS1.out⟩
  | ok p q =>
    obtain ⟨x,rfl,hp1,hs1⟩:=he1
    obtain ⟨c0,c1,c2,c3,hb1⟩:=hs1.cells
    have hf2:=hs1.1.frozen 2
    have hs2:=hs1.setD d f1 (by omega)
    have hp2:PN (w1.setCell ⟨b,2,none⟩ (.int .i64 d)) (New w) p x:=PN.keep (Keeps.set _ (by show ¬ w.heap.size<=b;omega)) p x (PN.mono (fun k _ hk=>Nat.le_trans HWZ.out hk) p x hp1)
    have HEN:=hide (end_wrap (m:=m) (q:=Pat.not p) (K:=4) (mm:=0) (nn:=0) (HO.out.setCell 2 (.int .i64 d)) hp2 hs2 (fun w' y lv hy hb ho hp=>⟨hy,lv,x,hb,ho,hp⟩) (by simp only [Pat.deep];omega))
    have hsz:(w1.setCell ⟨b,2,none⟩ (.int .i64 d)).heap.size=w1.heap.size:=by simp [World.setCell]
    rw [hsz] at HEN
    have e1:d+1-1=d:=by omega
    clear hs1 hs2 hp2 hp1 c0 c1 c3 hsz
    go_wp2
    go_ret2
    exact HEN.out
set_option maxRecDepth 100000 in
set_option maxHeartbeats 1000000 in
theorem inside_or (b:Nat)(s:ByteArray)(l:List Int)(d m:Int)(w:World)(r:List Int)(R:Res Pat)(h:PSt w b s l r d m)(hd:d+1<=((l.length-r.length:Nat):Int))
    (hc:∀ w',PSt w' b s l r (d+1) (max m (d+1))->PGives 58 b s l (d+1) (max m (d+1)) R w') :
    Calls Tryz.prog 241 #[.pointer (some ⟨b,0,none⟩),.int .i64 6,.func (.func 58) #[.pointer (some ⟨b,0,none⟩)] #[]] w fun e w'=>Off b w w'/\EndN b s l d m (R.map Pat.group) w w' e:=by
  have HS:=hide h
  have HD:=hide hd
  obtain ⟨f1,f2,f3,f4⟩:=h.facts
  obtain ⟨c0,c1,c2,c3,hb⟩:=h.cells
  have hf2:=h.1.frozen 2
  have hf3:=h.1.frozen 3
  have HC:=hide (hc ((w.setCell ⟨b,2,none⟩ (.int .i64 (d+1))).setCell ⟨b,3,none⟩ (.int .i64 (max m (d+1)))).drew (h.deeper hd).drew)
  have HOD:Hid (Off b w ((w.setCell ⟨b,2,none⟩ (.int .i64 (d+1))).setCell ⟨b,3,none⟩ (.int .i64 (max m (d+1)))).drew):=(((Off.refl b w).setCell 2 _).setCell 3 _).drew
  clear h hd hc c0 c1
  go_enter Tryz.func241,Tryz.ntmps241
  go_wp2_with fail
  go_region
  go_wp2_with fail
  refine HC.out.mono ?_
  rintro e w1 ⟨ho1,he1⟩
  have HO:=hide (HOD.out.trans ho1)
  clear ho1 c2 c3 hf2 hf3
  generalize hW:((w.setCell ⟨b,2,none⟩ (.int .i64 (d+1))).setCell ⟨b,3,none⟩ (.int .i64 (max m (d+1)))).drew=W1 at HC HOD he1
  have HWZ:Hid (w.heap.size<=W1.heap.size):=HOD.out.size
  clear hW
  cases R with
  | bad q =>
    obtain ⟨rfl,m',hs1⟩:=he1
    obtain ⟨c0,c1,c2,c3,hb1⟩:=hs1.cells
    have hf2:=hs1.1.frozen 2
    have HS1:=hide (hs1.setD d f1 (by omega))
    have HO1:=hide (HO.out.setCell 2 (.int .i64 d))
    have e1:d+1-1=d:=by omega
    clear hs1 c0 c1 c3
    go_wp2
    go_ret2
    exact ⟨HO1.out,rfl,_,HS1.out⟩
  | ok p q =>
    obtain ⟨x,rfl,hp1,hs1⟩:=he1
    obtain ⟨c0,c1,c2,c3,hb1⟩:=hs1.cells
    have hf2:=hs1.1.frozen 2
    have hs2:=hs1.setD d f1 (by omega)
    have hp2:PN (w1.setCell ⟨b,2,none⟩ (.int .i64 d)) (New w) p x:=PN.keep (Keeps.set _ (by show ¬ w.heap.size<=b;omega)) p x (PN.mono (fun k _ hk=>Nat.le_trans HWZ.out hk) p x hp1)
    have HEN:=hide (end_wrap (m:=m) (q:=Pat.group p) (K:=6) (mm:=0) (nn:=0) (HO.out.setCell 2 (.int .i64 d)) hp2 hs2 (fun w' y lv hy hb ho hp=>⟨hy,lv,x,hb,ho,hp⟩) (by simp only [Pat.deep];omega))
    have hsz:(w1.setCell ⟨b,2,none⟩ (.int .i64 d)).heap.size=w1.heap.size:=by simp [World.setCell]
    rw [hsz] at HEN
    have e1:d+1-1=d:=by omega
    clear hs1 hs2 hp2 hp1 c0 c1 c3 hsz
    go_wp2
    go_ret2
    exact HEN.out
end Go.Proofs.YtpoibdhhcbelnaaGreatDoor
namespace Go.Proofs.YtpoibdhhcbelnaaGreatDoor
open Go.RowKit Brm
set_option maxRecDepth 100000 in
set_option maxHeartbeats 1000000 in
theorem group_any (n:Nat)(ih:POrOk n)(b:Nat)(s:ByteArray)(l:List Int)(d m:Int)(w:World)(r:List Int)(h:PSt w b s l (40::r) d m)(hn:r.length<n):PGives 286 b s l d m ((orN true n r).bind fun p q=>closeP (.group p) 41 q) w:=by
  have HS:=hide h
  have HO:Hid (Off b w w):=Off.refl _ _
  have hd:d+1<=((l.length-r.length:Nat):Int):=by have h1:=h.2.2.2.2.2;have h2:=h.2.1.length_le;simp only [List.length_cons] at h1 h2;omega
  have HBb:=hide h.lt
  have HC:=hide (fun (w':World) (hw:PSt w' b s l r d m)=>inside_or b s l d m w' r (orN true n r) hw hd (fun w2 hw2=>ih b s l r (d+1) (max m (d+1)) w2 hw2 hn))
  clear h hd
  generalize orN true n r=RR at HC ⊢
  obtain ⟨R,HM⟩:∃ R:Res Pat,Hid (R=RR.bind fun p q=>closeP (Pat.group p) 41 q):=⟨_,rfl⟩
  rw [<- HM.out]
  unfold PGives
  go_enter Tryz.func286,Tryz.ntmps286
  go_wp2_with fail
  refine (step_any b s l _ _ d m _ HS.out).mono ?_
  rintro e w1 ⟨rfl,hsi,hoi⟩
  replace HS:=hide hsi
  replace HO:=hide (HO.out.trans hoi)
  clear hsi hoi
  go_wp2_with fail
  refine (HC.out _ HS.out).mono ?_
  rintro e w2 ⟨ho2,he2⟩
  have HZ1:=hide HO.out.size
  replace HO:=hide (HO.out.trans ho2)
  clear ho2
  cases RR with
  | bad q =>
    obtain ⟨rfl,m',hs2⟩:=he2
    have HS2:=hide hs2
    clear hs2
    go_wp2
    go_ret2
    exact ⟨HO.out,by rw [HM.out];exact ⟨rfl,_,HS2.out⟩⟩
  | ok p q =>
    obtain ⟨x,rfl,hp2,hs2⟩:=he2
    have HS2:=hide hs2
    have HP2:=hide (PN.mono (A':=New w) (fun k _ hk=>Nat.le_trans HZ1.out hk) (.group p) x hp2)
    clear hs2 hp2
    by_cases hq:q.head?=some 41
    · obtain ⟨u,rfl⟩:∃ u,q=41::u:=⟨_,head_cons hq⟩
      have HR:Hid ((Res.ok p (41::u)).bind (fun p q=>closeP (Pat.group p) 41 q)=.ok (Pat.group p) u):=by show _=_;simp [Res.bind,closeP]
      clear hq
      go_wp2_with fail
      refine (take_yes b s l _ _ d _ _ HS2.out).mono ?_
      rintro e w3 ⟨rfl,hs3,ho3⟩
      have HS3:=hide hs3
      have HP3:=hide (PN.keep (Keeps.off ho3 (Nat.not_le_of_lt HBb.out)) (.group p) x HP2.out)
      have HO3:=hide (HO.out.trans ho3)
      clear hs3 ho3
      go_wp2
      go_ret2
      exact ⟨HO3.out,by rw [HM.out,HR.out];exact ⟨x,rfl,HP3.out,HS3.out⟩⟩
    · have HR:Hid ((Res.ok p q).bind (fun p q=>closeP (Pat.group p) 41 q)=.bad q):=by show _=_;simp [Res.bind,closeP,hq]
      have HQ:=hide hq
      clear hq
      go_wp2_with fail
      refine (take_no b s l _ _ d _ _ HS2.out (by decide) HQ.out).mono ?_
      rintro e w3 ⟨rfl,hb3⟩
      have HS3:=hide (HS2.out.below hb3)
      have HO3:=hide (HO.out.trans (Off.below hb3))
      clear hb3
      go_wp2
      go_ret2
      exact ⟨HO3.out,by rw [HM.out,HR.out];exact ⟨rfl,_,HS3.out⟩⟩
set_option maxRecDepth 100000 in
set_option maxHeartbeats 1000000 in
theorem patom_dot (b:Nat)(s:ByteArray)(l:List Int)(d m:Int)(w:World)(t:List Int)(h:PSt w b s l (46::t) d m):PGives 269 b s l d m (.ok (.set dot) t) w:=by
  have HS:=hide h
  have HO:Hid (Off b w w):=Off.refl _ _
  clear h
  unfold PGives
  go_enter Tryz.func269,Tryz.ntmps269
  go_wp2_with fail
  refine (look_any b s l _ d m _ HS.out).mono ?_
  rintro e wi ⟨rfl,hbi⟩
  replace HS:=hide (HS.out.below hbi)
  replace HO:=hide (HO.out.trans (Off.below hbi))
  clear hbi
  simp only [nextP]
  go_wp2_with fail
  refine (step_any b s l _ _ d m _ HS.out).mono ?_
  rintro e wi ⟨rfl,hsi,hoi⟩
  replace HS:=hide hsi
  replace HO:=hide (HO.out.trans hoi)
  clear hsi hoi
  go_wp2_with fail
  refine (pdot_any _).mono ?_
  rintro e w6 ⟨v6,rfl,hv6,hb6⟩
  obtain ⟨ao,cap,rfl,_,_⟩:=hv6.sl.rd
  have HE:=hide (end_set (HO.out.trans (Off.below hb6)) (hv6.mono (A':=New w) (fun k _ hk=>Nat.le_trans HO.out.size hk)) (HS.out.below hb6))
  clear hv6 hb6
  go_wp2
  go_ret2
  exact HE.out
set_option maxRecDepth 100000 in
set_option maxHeartbeats 1000000 in
theorem patom_one (b:Nat)(s:ByteArray)(l:List Int)(d m:Int)(w:World)(c:Int)(t:List Int)(hc:atomB c=true)(h:PSt w b s l (c::t) d m):PGives 269 b s l d m (.ok (.set [(c,c)]) t) w:=by
  have hru:=(runes_all h.2.2.1).suf h.2.1 c (by simp)
  have HRN:Hid (Rn c):=.inr hru
  have hc0:0<=c:=by have:=(rune_iff c).1 hru;omega
  have hc1:c<=1114111:=by have:=(rune_iff c).1 hru;omega
  have hsp:special c=false:=by simp [atomB] at hc;exact hc.2
  have b1:(c == 46)=false:=beq_eq_false_iff_ne.2 (fun e=>by subst e;simp [special] at hsp)
  have b2:(c == 92)=false:=beq_eq_false_iff_ne.2 (fun e=>by subst e;simp [special] at hsp)
  have b3:(c == 91)=false:=beq_eq_false_iff_ne.2 (fun e=>by subst e;simp [special] at hsp)
  have b4:(c == 40)=false:=beq_eq_false_iff_ne.2 (fun e=>by subst e;simp [special] at hsp)
  have HC:=hide hc
  clear hc hru hsp
  have HS:=hide h
  have HO:Hid (Off b w w):=Off.refl _ _
  clear h
  unfold PGives
  go_enter Tryz.func269,Tryz.ntmps269
  go_wp2_with fail
  refine (look_any b s l _ d m _ HS.out).mono ?_
  rintro e wi ⟨rfl,hbi⟩
  replace HS:=hide (HS.out.below hbi)
  replace HO:=hide (HO.out.trans (Off.below hbi))
  clear hbi
  simp only [nextP]
  go_wp2_with fail
  refine (isOfAtom_any _ _ HRN.out).mono ?_
  rintro e wi ⟨rfl,hbi⟩
  rw [HC.out]
  replace HS:=hide (HS.out.below hbi)
  replace HO:=hide (HO.out.trans (Off.below hbi))
  clear hbi
  go_wp2_with fail
  refine (step_any b s l _ _ d m _ HS.out).mono ?_
  rintro e wi ⟨rfl,hsi,hoi⟩
  replace HS:=hide hsi
  replace HO:=hide (HO.out.trans hoi)
  clear hsi hoi
  go_wp2_with fail
  refine (pone_any c _ hc0 hc1).mono ?_
  rintro e w6 ⟨v6,rfl,hv6,hb6⟩
  obtain ⟨ao,cap,rfl,_,_⟩:=hv6.sl.rd
  have HE:=hide (end_set (HO.out.trans (Off.below hb6)) (hv6.mono (A':=New w) (fun k _ hk=>Nat.le_trans HO.out.size hk)) (HS.out.below hb6))
  clear hv6 hb6
  go_wp2
  go_ret2
  exact HE.out
set_option maxRecDepth 100000 in
set_option maxHeartbeats 1000000 in
theorem patom_none (b:Nat)(s:ByteArray)(l:List Int)(d m:Int)(w:World)(r:List Int)(hc:atomB (nextP r)=false)(h1:nextP r≠46)(h2:nextP r≠92)(h3:nextP r≠91)(h4:nextP r≠40)(h:PSt w b s l r d m):PGives 269 b s l d m (.bad r) w:=by
  have HRN:Hid (Rn (nextP r)):=nextP_rn h.2.2.1 h.2.1
  have b1:(nextP r == 46)=false:=beq_eq_false_iff_ne.2 h1
  have b2:(nextP r == 92)=false:=beq_eq_false_iff_ne.2 h2
  have b3:(nextP r == 91)=false:=beq_eq_false_iff_ne.2 h3
  have b4:(nextP r == 40)=false:=beq_eq_false_iff_ne.2 h4
  have HC:=hide hc
  clear hc h1 h2 h3 h4
  have HS:=hide h
  have HO:Hid (Off b w w):=Off.refl _ _
  clear h
  unfold PGives
  go_enter Tryz.func269,Tryz.ntmps269
  go_wp2_with fail
  refine (look_any b s l _ d m _ HS.out).mono ?_
  rintro e wi ⟨rfl,hbi⟩
  replace HS:=hide (HS.out.below hbi)
  replace HO:=hide (HO.out.trans (Off.below hbi))
  clear hbi
  generalize nextP r=N at HRN HC b1 b2 b3 b4
  go_wp2_with fail
  refine (isOfAtom_any _ _ HRN.out).mono ?_
  rintro e wi ⟨rfl,hbi⟩
  rw [HC.out]
  replace HS:=hide (HS.out.below hbi)
  replace HO:=hide (HO.out.trans (Off.below hbi))
  clear hbi
  go_wp2
  go_ret2
  exact ⟨HO.out,rfl,_,HS.out⟩
set_option maxRecDepth 100000 in
set_option maxHeartbeats 1000000 in
theorem patom_esc (b:Nat)(s:ByteArray)(l:List Int)(d m:Int)(w:World)(t:List Int)(h:PSt w b s l (92::t) d m):PGives 269 b s l d m ((escP t).map escPat) w:=by
  have HC:=hide (fun (w9:World) (hw:PSt w9 b s l _ d m)=>escape_any b s l d m w9 t hw)
  generalize (escP t).map escPat=RR at HC ⊢
  obtain ⟨R,HM⟩:∃ R:Res Pat,Hid (R=RR):=⟨_,rfl⟩
  rw [<- HM.out]
  have HS:=hide h
  have HO:Hid (Off b w w):=Off.refl _ _
  clear h
  unfold PGives
  go_enter Tryz.func269,Tryz.ntmps269
  go_wp2_with fail
  refine (look_any b s l _ d m _ HS.out).mono ?_
  rintro e wi ⟨rfl,hbi⟩
  replace HS:=hide (HS.out.below hbi)
  replace HO:=hide (HO.out.trans (Off.below hbi))
  clear hbi
  simp only [nextP]
  go_wp2_with fail
  refine (HC.out _ HS.out).mono ?_
  rintro e w2 ⟨ho2,he2⟩
  have HO2:=hide (HO.out.trans ho2)
  have HZ:=hide HO.out.size
  clear ho2
  cases RR with
  | bad q =>
    obtain ⟨rfl,m',hs2⟩:=he2
    have HS2:=hide hs2
    clear hs2
    go_wp2
    go_ret2
    exact ⟨HO2.out,by rw [HM.out];exact ⟨rfl,_,HS2.out⟩⟩
  | ok p q =>
    obtain ⟨x,rfl,hp2,hs2⟩:=he2
    have HS2:=hide hs2
    have HP2:=hide (PN.mono (A':=New w) (fun k _ hk=>Nat.le_trans HZ.out hk) p x hp2)
    clear hs2 hp2
    go_wp2
    go_ret2
    exact ⟨HO2.out,by rw [HM.out];exact ⟨x,rfl,HP2.out,HS2.out⟩⟩
set_option maxRecDepth 100000 in
set_option maxHeartbeats 1000000 in
theorem patom_brk (b:Nat)(s:ByteArray)(l:List Int)(d m:Int)(w:World)(t:List Int)(h:PSt w b s l (91::t) d m):PGives 269 b s l d m ((bracketP t).map .set) w:=by
  have HC:=hide (fun (w9:World) (hw:PSt w9 b s l _ d m)=>bracket_any b s l d m w9 t hw)
  generalize (bracketP t).map Pat.set=RR at HC ⊢
  obtain ⟨R,HM⟩:∃ R:Res Pat,Hid (R=RR):=⟨_,rfl⟩
  rw [<- HM.out]
  have HS:=hide h
  have HO:Hid (Off b w w):=Off.refl _ _
  clear h
  unfold PGives
  go_enter Tryz.func269,Tryz.ntmps269
  go_wp2_with fail
  refine (look_any b s l _ d m _ HS.out).mono ?_
  rintro e wi ⟨rfl,hbi⟩
  replace HS:=hide (HS.out.below hbi)
  replace HO:=hide (HO.out.trans (Off.below hbi))
  clear hbi
  simp only [nextP]
  go_wp2_with fail
  refine (HC.out _ HS.out).mono ?_
  rintro e w2 ⟨ho2,he2⟩
  have HO2:=hide (HO.out.trans ho2)
  have HZ:=hide HO.out.size
  clear ho2
  cases RR with
  | bad q =>
    obtain ⟨rfl,m',hs2⟩:=he2
    have HS2:=hide hs2
    clear hs2
    go_wp2
    go_ret2
    exact ⟨HO2.out,by rw [HM.out];exact ⟨rfl,_,HS2.out⟩⟩
  | ok p q =>
    obtain ⟨x,rfl,hp2,hs2⟩:=he2
    have HS2:=hide hs2
    have HP2:=hide (PN.mono (A':=New w) (fun k _ hk=>Nat.le_trans HZ.out hk) p x hp2)
    clear hs2 hp2
    go_wp2
    go_ret2
    exact ⟨HO2.out,by rw [HM.out];exact ⟨x,rfl,HP2.out,HS2.out⟩⟩
set_option maxRecDepth 100000 in
set_option maxHeartbeats 1000000 in
theorem patom_grp (n:Nat)(b:Nat)(s:ByteArray)(l:List Int)(d m:Int)(w:World)(ih:POrOk n)(t:List Int)(hn:t.length<n)(h:PSt w b s l (40::t) d m):PGives 269 b s l d m ((orN true n t).bind fun p q=>closeP (.group p) 41 q) w:=by
  have HC:=hide (fun (w9:World) (hw:PSt w9 b s l _ d m)=>group_any n ih b s l d m w9 t hw hn)
  generalize ((orN true n t).bind fun p q=>closeP (Pat.group p) 41 q)=RR at HC ⊢
  obtain ⟨R,HM⟩:∃ R:Res Pat,Hid (R=RR):=⟨_,rfl⟩
  rw [<- HM.out]
  have HS:=hide h
  have HO:Hid (Off b w w):=Off.refl _ _
  clear h
  unfold PGives
  go_enter Tryz.func269,Tryz.ntmps269
  go_wp2_with fail
  refine (look_any b s l _ d m _ HS.out).mono ?_
  rintro e wi ⟨rfl,hbi⟩
  replace HS:=hide (HS.out.below hbi)
  replace HO:=hide (HO.out.trans (Off.below hbi))
  clear hbi
  simp only [nextP]
  go_wp2_with fail
  refine (HC.out _ HS.out).mono ?_
  rintro e w2 ⟨ho2,he2⟩
  have HO2:=hide (HO.out.trans ho2)
  have HZ:=hide HO.out.size
  clear ho2
  cases RR with
  | bad q =>
    obtain ⟨rfl,m',hs2⟩:=he2
    have HS2:=hide hs2
    clear hs2
    go_wp2
    go_ret2
    exact ⟨HO2.out,by rw [HM.out];exact ⟨rfl,_,HS2.out⟩⟩
  | ok p q =>
    obtain ⟨x,rfl,hp2,hs2⟩:=he2
    have HS2:=hide hs2
    have HP2:=hide (PN.mono (A':=New w) (fun k _ hk=>Nat.le_trans HZ.out hk) p x hp2)
    clear hs2 hp2
    go_wp2
    go_ret2
    exact ⟨HO2.out,by rw [HM.out];exact ⟨x,rfl,HP2.out,HS2.out⟩⟩
theorem patom_any (n:Nat)(ih:POrOk n)(b:Nat)(s:ByteArray)(l:List Int)(d m:Int)(w:World)(r:List Int)(h:PSt w b s l r d m)(hn:r.length<=n):PGives 269 b s l d m (atomP (orN true n) r) w:=by
  cases r with
  | nil=>exact patom_none b s l d m w [] rfl (by decide) (by decide) (by decide) (by decide) h
  | cons c t =>
    have hru:=(runes_all h.2.2.1).suf h.2.1 c (by simp)
    simp only [List.length_cons] at hn
    simp only [atomP]
    by_cases h40:c=40
    · subst h40;rw [if_pos rfl];exact patom_grp n b s l d m w ih t (by omega) h
    rw [if_neg h40]
    by_cases h91:c=91
    · subst h91;rw [if_pos rfl];exact patom_brk b s l d m w t h
    rw [if_neg h91]
    by_cases h46:c=46
    · subst h46;rw [if_pos rfl];exact patom_dot b s l d m w t h
    rw [if_neg h46]
    by_cases h92:c=92
    · subst h92;rw [if_pos rfl];exact patom_esc b s l d m w t h
    rw [if_neg h92]
    cases hs:special c with
    | true =>
      rw [if_pos rfl]
      exact patom_none b s l d m w (c::t) (by simp [nextP,atomB,hs]) h46 h92 h91 h40 h
    | false =>
      rw [if_neg (by decide)]
      exact patom_one b s l d m w c t (by simp only [atomB,bne,rune_ne hru,hs];rfl) h
end Go.Proofs.YtpoibdhhcbelnaaGreatDoor
namespace Go.Proofs.YtpoibdhhcbelnaaGreatDoor
open Go.RowKit Brm
set_option maxRecDepth 100000 in
set_option maxHeartbeats 400000 in
theorem beginsTimes_any (c:Int)(w:World):Calls Tryz.prog 270 #[.int .i32 c] w fun e w'=>e=.returned (.bool (isTimes c))/\w'=w:=by
  go_enter Tryz.func270,Tryz.ntmps270
  go_wp2
  all_goals (go_ret;exact ⟨ret_bool (by rw [Bool.eq_iff_iff];simp [isTimes];omega),rfl⟩)
theorem times_next (r:List Int):isTimes (nextP r)=headIs isTimes r:=by
  cases r with
  | nil=>rfl
  | cons c t=>rfl
set_option maxRecDepth 100000 in
set_option maxHeartbeats 400000 in
theorem timesOf_any (b:Nat)(s:ByteArray)(l:List Int)(d m:Int)(w:World)(w0:World)(p:Pat)(x:Nat)(r:List Int)(h:PSt w b s l r d (max m (d+p.deep)))(ho:Off b w0 w)(hb0:b<w0.heap.size)(hp:PN w (New w0) p x)(ht:headIs isTimes r=true) :
    Calls Tryz.prog 271 #[.pointer (some ⟨b,0,none⟩),Ptr x] w fun e w'=>Off b w0 w'/\EndN b s l d m ((timesP r).map fun mn=>Pat.many p mn.1 mn.2) w0 w' e:=by
  have HC:=hide (times_any b s l d _ w r h ht)
  have HO:=hide ho
  have HP:=hide hp
  have HB0:=hide hb0
  clear h ho hp ht hb0
  generalize timesP r=RR at HC ⊢
  obtain ⟨R,HM⟩:∃ R:Res Pat,Hid (R=RR.map fun mn=>Pat.many p mn.1 mn.2):=⟨_,rfl⟩
  rw [<- HM.out]
  go_enter Tryz.func271,Tryz.ntmps271
  go_wp2_with fail
  refine HC.out.mono ?_
  rintro e w1 ⟨ho1,hd1⟩
  replace HP:=hide (PN.keep (Keeps.off ho1 (Nat.not_le_of_lt HB0.out)) p x HP.out)
  replace HO:=hide (HO.out.trans ho1)
  clear ho1 HC
  cases RR with
  | bad q =>
    obtain ⟨hs1,v,u,rfl⟩:=hd1
    have HS1:=hide hs1
    clear hs1
    go_wp2
    go_ret2
    exact ⟨HO.out,by rw [HM.out];exact ⟨rfl,_,HS1.out⟩⟩
  | ok mn q =>
    obtain ⟨hs1,rfl⟩:=hd1
    obtain ⟨mm,nn⟩:=mn
    have HEN:=hide (end_wrap (m:=m) (q:=.many p mm nn) (K:=5) (mm:=mm) (nn:=nn) HO.out HP.out hs1 (fun w' y lv hy hb ho hp=>⟨hy,lv,x,hb,ho,hp⟩) rfl)
    clear hs1
    go_wp2
    go_ret2
    rw [HM.out]
    exact HEN.out
def ManyQ (w:World)(b:Nat)(s:ByteArray)(l:List Int)(d m:Int)(R:Res Pat)(k:Nat)(nv ov:Value)(wr:World):Prop:=Off b w wr /\
  ((∃ p x s0,nv=Ptr x/\ov=.bool true/\PN wr (New w) p x/\PSt wr b s l s0 d (max m (d+p.deep))/\manyLoop k p s0=R/\s0.length<k)\/(∃ q m',nv=.pointer none/\ov=.bool false/\R=.bad q/\PSt wr b s l q d m'))
set_option maxRecDepth 100000 in
set_option maxHeartbeats 1000000 in
theorem pmany_any (n:Nat)(ih:POrOk n)(b:Nat)(s:ByteArray)(l:List Int)(d m:Int)(w:World)(r:List Int)(h:PSt w b s l r d m)(hn:r.length<=n):PGives 240 b s l d m (manyP (orN true n) r) w:=by
  have HC:=hide (patom_any n ih b s l d m w r h hn)
  have HBb:=hide h.lt
  clear h
  have HM:Hid (manyP (orN true n) r=(atomP (orN true n) r).bind fun x s'=>manyLoop (s'.length+1) x s'):=rfl
  generalize atomP (orN true n) r=R1 at HC HM
  generalize manyP (orN true n) r=R at HM ⊢
  unfold PGives
  go_enter Tryz.func240,Tryz.ntmps240
  go_wp2_with fail
  refine HC.out.mono ?_
  rintro e w1 ⟨ho1,he1⟩
  have HO1:=hide ho1
  clear ho1 HC
  cases R1 with
  | bad q =>
    obtain ⟨rfl,m',hs1⟩:=he1
    have HS1:=hide hs1
    clear hs1
    have HR0:Hid (R=.bad q):=HM.out
    clear HM
    go_wp2_with fail
    go_loopg [4,5] 1 (fun k nv ov wr=>ManyQ w b s l d m R k nv ov wr)
    case atStart=>exact ⟨HO1.out,.inr ⟨q,m',rfl,rfl,HR0.out,HS1.out⟩⟩
    case round =>
      obtain ⟨ho,hcase⟩:=hrel
      have HO:=hide ho
      clear ho
      rcases hcase with ⟨p,x,s0,rfl,rfl,hp,hs,heq,hk⟩ | ⟨q,m',rfl,rfl,hRb,hs⟩
      · have HS:=hide hs
        have HP:=hide hp
        have HE:=hide heq
        have HTN:=hide (times_next s0)
        obtain ⟨k',rfl⟩:∃ k',gk=k'+1:=⟨gk-1,by omega⟩
        have HK:=hide hk
        clear hs hp heq hk
        cases ht:headIs isTimes s0 with
        | false =>
          have HR:Hid (R=.ok p s0):=by have:=HE.out;simp only [manyLoop,ht,Bool.false_eq_true,if_false] at this;exact this.symm
          rw [ht] at HTN
          clear ht
          go_wp2_with fail
          refine (look_any b s l s0 d _ _ HS.out).mono ?_
          rintro e wi ⟨rfl,hbi⟩
          replace HS:=hide (HS.out.below hbi)
          replace HO:=hide (HO.out.trans (Off.below hbi))
          replace HP:=hide (PN.keep (Keeps.below hbi) p x HP.out)
          clear hbi
          generalize nextP s0=NN at HTN
          go_wp2_with fail
          refine (beginsTimes_any NN _).mono ?_
          rintro e wj ⟨rfl,hwj⟩
          have hwk:=hwj.symm
          subst hwk
          clear hwj
          rw [HTN.out]
          go_wp2
          go_ret2
          exact ⟨HO.out,by rw [HR.out];exact ⟨x,rfl,HP.out,HS.out⟩⟩
        | true =>
          have HT:=hide ht
          have HTK:=hide (timesP_takes s0)
          have HR:Hid ((timesP s0).bind (fun mn s'=>manyLoop k' (.many p mn.1 mn.2) s')=R):=by have:=HE.out;simp only [manyLoop,ht,if_true] at this;exact this
          rw [ht] at HTN
          clear ht
          go_wp2_with fail
          refine (look_any b s l s0 d _ _ HS.out).mono ?_
          rintro e wi ⟨rfl,hbi⟩
          replace HS:=hide (HS.out.below hbi)
          replace HO:=hide (HO.out.trans (Off.below hbi))
          replace HP:=hide (PN.keep (Keeps.below hbi) p x HP.out)
          clear hbi
          generalize nextP s0=NN at HTN
          go_wp2_with fail
          refine (beginsTimes_any NN _).mono ?_
          rintro e wj ⟨rfl,hwj⟩
          have hwk:=hwj.symm
          subst hwk
          clear hwj
          rw [HTN.out]
          go_wp2_with fail
          refine (timesOf_any b s l d m _ w p x s0 HS.out HO.out HBb.out HP.out HT.out).mono ?_
          rintro e w5 ⟨ho5,he5⟩
          have HO5:=hide ho5
          clear ho5
          generalize timesP s0=RR at he5 HR HTK
          cases RR with
          | bad q =>
            obtain ⟨rfl,m',hs5⟩:=he5
            have HS5:=hide hs5
            clear hs5
            go_wp2_with fail
            go_roundg k'
            case measure=>omega
            case rel=>exact ⟨HO5.out,.inr ⟨q,m',rfl,rfl,HR.out.symm,HS5.out⟩⟩
          | ok mn q =>
            obtain ⟨y,rfl,hp5,hs5⟩:=he5
            have HS5:=hide hs5
            have HP5:=hide hp5
            clear hs5 hp5
            go_wp2_with fail
            go_roundg k'
            case measure=>omega
            case rel=>exact ⟨HO5.out,.inl ⟨.many p mn.1 mn.2,y,q,rfl,rfl,HP5.out,HS5.out,HR.out,by have:=HTK.out.1;have:=HK.out;omega⟩⟩
      · have HS:=hide hs
        have HR:=hide hRb
        clear hs hRb
        go_wp2
        go_ret2
        exact ⟨HO.out,by rw [HR.out];exact ⟨rfl,_,HS.out⟩⟩
  | ok p0 q0 =>
    obtain ⟨x0,rfl,hp1,hs1⟩:=he1
    have HS1:=hide hs1
    have HP1:=hide hp1
    clear hs1 hp1
    have HR0:Hid (manyLoop (q0.length+1) p0 q0=R):=HM.out.symm
    clear HM
    go_wp2_with fail
    go_loopg [4,5] (q0.length+1) (fun k nv ov wr=>ManyQ w b s l d m R k nv ov wr)
    case atStart=>exact ⟨HO1.out,.inl ⟨p0,x0,q0,rfl,rfl,HP1.out,HS1.out,HR0.out,Nat.lt_succ_self _⟩⟩
    case round =>
      obtain ⟨ho,hcase⟩:=hrel
      have HO:=hide ho
      clear ho
      rcases hcase with ⟨p,x,s0,rfl,rfl,hp,hs,heq,hk⟩ | ⟨q,m',rfl,rfl,hRb,hs⟩
      · have HS:=hide hs
        have HP:=hide hp
        have HE:=hide heq
        have HTN:=hide (times_next s0)
        obtain ⟨k',rfl⟩:∃ k',gk=k'+1:=⟨gk-1,by omega⟩
        have HK:=hide hk
        clear hs hp heq hk
        cases ht:headIs isTimes s0 with
        | false =>
          have HR:Hid (R=.ok p s0):=by have:=HE.out;simp only [manyLoop,ht,Bool.false_eq_true,if_false] at this;exact this.symm
          rw [ht] at HTN
          clear ht
          go_wp2_with fail
          refine (look_any b s l s0 d _ _ HS.out).mono ?_
          rintro e wi ⟨rfl,hbi⟩
          replace HS:=hide (HS.out.below hbi)
          replace HO:=hide (HO.out.trans (Off.below hbi))
          replace HP:=hide (PN.keep (Keeps.below hbi) p x HP.out)
          clear hbi
          generalize nextP s0=NN at HTN
          go_wp2_with fail
          refine (beginsTimes_any NN _).mono ?_
          rintro e wj ⟨rfl,hwj⟩
          have hwk:=hwj.symm
          subst hwk
          clear hwj
          rw [HTN.out]
          go_wp2
          go_ret2
          exact ⟨HO.out,by rw [HR.out];exact ⟨x,rfl,HP.out,HS.out⟩⟩
        | true =>
          have HT:=hide ht
          have HTK:=hide (timesP_takes s0)
          have HR:Hid ((timesP s0).bind (fun mn s'=>manyLoop k' (.many p mn.1 mn.2) s')=R):=by have:=HE.out;simp only [manyLoop,ht,if_true] at this;exact this
          rw [ht] at HTN
          clear ht
          go_wp2_with fail
          refine (look_any b s l s0 d _ _ HS.out).mono ?_
          rintro e wi ⟨rfl,hbi⟩
          replace HS:=hide (HS.out.below hbi)
          replace HO:=hide (HO.out.trans (Off.below hbi))
          replace HP:=hide (PN.keep (Keeps.below hbi) p x HP.out)
          clear hbi
          generalize nextP s0=NN at HTN
          go_wp2_with fail
          refine (beginsTimes_any NN _).mono ?_
          rintro e wj ⟨rfl,hwj⟩
          have hwk:=hwj.symm
          subst hwk
          clear hwj
          rw [HTN.out]
          go_wp2_with fail
          refine (timesOf_any b s l d m _ w p x s0 HS.out HO.out HBb.out HP.out HT.out).mono ?_
          rintro e w5 ⟨ho5,he5⟩
          have HO5:=hide ho5
          clear ho5
          generalize timesP s0=RR at he5 HR HTK
          cases RR with
          | bad q =>
            obtain ⟨rfl,m',hs5⟩:=he5
            have HS5:=hide hs5
            clear hs5
            go_wp2_with fail
            go_roundg k'
            case measure=>omega
            case rel=>exact ⟨HO5.out,.inr ⟨q,m',rfl,rfl,HR.out.symm,HS5.out⟩⟩
          | ok mn q =>
            obtain ⟨y,rfl,hp5,hs5⟩:=he5
            have HS5:=hide hs5
            have HP5:=hide hp5
            clear hs5 hp5
            go_wp2_with fail
            go_roundg k'
            case measure=>omega
            case rel=>exact ⟨HO5.out,.inl ⟨.many p mn.1 mn.2,y,q,rfl,rfl,HP5.out,HS5.out,HR.out,by have:=HTK.out.1;have:=HK.out;omega⟩⟩
      · have HS:=hide hs
        have HR:=hide hRb
        clear hs hRb
        go_wp2
        go_ret2
        exact ⟨HO.out,by rw [HR.out];exact ⟨rfl,_,HS.out⟩⟩
end Go.Proofs.YtpoibdhhcbelnaaGreatDoor
namespace Go.Proofs.YtpoibdhhcbelnaaGreatDoor
open Go.RowKit Brm
set_option maxRecDepth 100000 in
set_option maxHeartbeats 1000000 in
theorem pnot_tilde (b:Nat)(s:ByteArray)(l:List Int)(d m:Int)(w:World)(t:List Int)(R:Res Pat)(h:PSt w b s l (126::t) d m)(ih:∀ (d m:Int) (w:World),PSt w b s l t d m->PGives 209 b s l d m R w):PGives 209 b s l d m (R.map .not) w:=by
  have HS:=hide h
  have HO:Hid (Off b w w):=Off.refl _ _
  have hd:d+1<=((l.length-t.length:Nat):Int):=by have h1:=h.2.2.2.2.2;have h2:=h.2.1.length_le;simp only [List.length_cons] at h1 h2;omega
  have HC:=hide (fun (w':World) (hw:PSt w' b s l t d m)=>inside_not b s l d m w' t R hw hd (fun w2 hw2=>ih (d+1) (max m (d+1)) w2 hw2))
  clear h hd ih
  obtain ⟨R0,HM⟩:∃ R0:Res Pat,Hid (R0=R.map Pat.not):=⟨_,rfl⟩
  rw [<- HM.out]
  unfold PGives
  go_enter Tryz.func209,Tryz.ntmps209
  go_wp2_with fail
  refine (take_yes b s l _ _ d m _ HS.out).mono ?_
  rintro e wi ⟨rfl,hsi,hoi⟩
  replace HS:=hide hsi
  replace HO:=hide (HO.out.trans hoi)
  clear hsi hoi
  go_wp2_with fail
  refine (HC.out _ HS.out).mono ?_
  rintro e w2 ⟨ho2,he2⟩
  have HO2:=hide (HO.out.trans ho2)
  have HZ:=hide HO.out.size
  clear ho2 HC
  cases R with
  | bad q =>
    obtain ⟨rfl,m',hs2⟩:=he2
    have HS2:=hide hs2
    clear hs2
    go_wp2
    go_ret2
    exact ⟨HO2.out,by rw [HM.out];exact ⟨rfl,_,HS2.out⟩⟩
  | ok p q =>
    obtain ⟨x,rfl,hp2,hs2⟩:=he2
    have HS2:=hide hs2
    have HP2:=hide (PN.mono (A':=New w) (fun k _ hk=>Nat.le_trans HZ.out hk) (.not p) x hp2)
    clear hs2 hp2
    go_wp2
    go_ret2
    exact ⟨HO2.out,by rw [HM.out];exact ⟨x,rfl,HP2.out,HS2.out⟩⟩
set_option maxRecDepth 100000 in
set_option maxHeartbeats 1000000 in
theorem pnot_many (n:Nat)(ih:POrOk n)(b:Nat)(s:ByteArray)(l:List Int)(d m:Int)(w:World)(r:List Int)(h:PSt w b s l r d m)(hn:r.length<=n)(h1:r.head?≠some 126):PGives 209 b s l d m (manyP (orN true n) r) w:=by
  have HS:=hide h
  have HO:Hid (Off b w w):=Off.refl _ _
  have HC:=hide (fun (w':World) (hw:PSt w' b s l r d m)=>pmany_any n ih b s l d m w' r hw hn)
  have H1:=hide h1
  clear h h1 hn ih
  generalize manyP (orN true n) r=R at HC ⊢
  obtain ⟨R0,HM⟩:∃ R0:Res Pat,Hid (R0=R):=⟨_,rfl⟩
  rw [<- HM.out]
  unfold PGives
  go_enter Tryz.func209,Tryz.ntmps209
  go_wp2_with fail
  refine (take_no b s l _ _ d m _ HS.out (by decide) H1.out).mono ?_
  rintro e wi ⟨rfl,hbi⟩
  replace HS:=hide (HS.out.below hbi)
  replace HO:=hide (HO.out.trans (Off.below hbi))
  clear hbi
  go_wp2_with fail
  refine (HC.out _ HS.out).mono ?_
  rintro e w2 ⟨ho2,he2⟩
  have HO2:=hide (HO.out.trans ho2)
  have HZ:=hide HO.out.size
  clear ho2 HC
  cases R with
  | bad q =>
    obtain ⟨rfl,m',hs2⟩:=he2
    have HS2:=hide hs2
    clear hs2
    go_wp2
    go_ret2
    exact ⟨HO2.out,by rw [HM.out];exact ⟨rfl,_,HS2.out⟩⟩
  | ok p q =>
    obtain ⟨x,rfl,hp2,hs2⟩:=he2
    have HS2:=hide hs2
    have HP2:=hide (PN.mono (A':=New w) (fun k _ hk=>Nat.le_trans HZ.out hk) p x hp2)
    clear hs2 hp2
    go_wp2
    go_ret2
    exact ⟨HO2.out,by rw [HM.out];exact ⟨x,rfl,HP2.out,HS2.out⟩⟩
theorem pnot_any (n:Nat)(ih:POrOk n):∀ (r:List Int) (b:Nat) (s:ByteArray) (l:List Int) (d m:Int) (w:World),PSt w b s l r d m->r.length<=n->PGives 209 b s l d m (notP (orN true n) r) w
  | [],b,s,l,d,m,w,h,hn=>pnot_many n ih b s l d m w [] h hn (by simp)
  | c::t,b,s,l,d,m,w,h,hn=>by
    simp only [notP]
    by_cases hc:c=126
    · subst hc
      rw [if_pos rfl]
      exact pnot_tilde b s l d m w t _ h (fun d m w hw=>pnot_any n ih t b s l d m w hw (by simp only [List.length_cons] at hn;omega))
    · rw [if_neg hc]
      exact pnot_many n ih b s l d m w (c::t) h hn (by simpa using hc)
end Go.Proofs.YtpoibdhhcbelnaaGreatDoor
namespace Go.Proofs.YtpoibdhhcbelnaaGreatDoor
open Go.RowKit Brm
theorem PSt.setOther {w:World}{b:Nat}{s:ByteArray}{l r:List Int}{d m:Int}(h:PSt w b s l r d m){p:Addr}(hp:b≠p.block)(h7:7<=p.block)(u:Value):PSt (w.setCell p u) b s l r d m:=by
  have hb:=h.2.2.2.2.2
  refine ⟨Blk.setOther h.1 hp _,h.2.1,h.2.2.1,h.2.2.2.1,?_,hb⟩
  have hT:=h.2.2.2.2.1
  exact ⟨by have:=hT.1;simpa [World.setCell] using this,fun W hW=>hT.2 W (fun k hk=>(hW k hk).trans (Below.heap_setCell _ _ _ _ (by omega)))⟩
def beginsB (c:Int):Bool:=[126,46,92,91,40].contains c || atomB c
theorem begins_iff {s:List Int}(h:AllR s):beginsB (nextP s)=!rowEnds true s:=by
  cases s with
  | nil=>rfl
  | cons c t =>
    have hc:=(rune_iff c).1 h.head
    simp only [nextP,rowEnds,beginsB,atomB,Bool.true_and]
    rw [Bool.eq_iff_iff]
    simp [special,ends,loose]
    omega
set_option maxRecDepth 100000 in
set_option maxHeartbeats 400000 in
theorem beginsPart_any (c:Int)(w:World)(hr:Rn c):Calls Tryz.prog 208 #[.int .i32 c] w fun e w'=>e=.returned (.bool (beginsB c))/\Below w.heap.size w w':=by
  by_cases h1:c=126
  · subst h1;go_enter Tryz.func208,Tryz.ntmps208;go_wp2;go_ret;exact ⟨rfl,Below.refl _ _⟩
  by_cases h2:c=46
  · subst h2;go_enter Tryz.func208,Tryz.ntmps208;go_wp2;go_ret;exact ⟨rfl,Below.refl _ _⟩
  by_cases h3:c=92
  · subst h3;go_enter Tryz.func208,Tryz.ntmps208;go_wp2;go_ret;exact ⟨rfl,Below.refl _ _⟩
  by_cases h4:c=91
  · subst h4;go_enter Tryz.func208,Tryz.ntmps208;go_wp2;go_ret;exact ⟨rfl,Below.refl _ _⟩
  by_cases h5:c=40
  · subst h5;go_enter Tryz.func208,Tryz.ntmps208;go_wp2;go_ret;exact ⟨rfl,Below.refl _ _⟩
  have b1:(c == 126)=false:=beq_eq_false_iff_ne.2 h1
  have b2:(c == 46)=false:=beq_eq_false_iff_ne.2 h2
  have b3:(c == 92)=false:=beq_eq_false_iff_ne.2 h3
  have b4:(c == 91)=false:=beq_eq_false_iff_ne.2 h4
  have b5:(c == 40)=false:=beq_eq_false_iff_ne.2 h5
  have HB:Hid (beginsB c=atomB c):=by show _=_;simp [beginsB,h1,h2,h3,h4,h5]
  have HC:=hide (isOfAtom_any c w hr)
  generalize atomB c=B at HB HC
  clear hr h1 h2 h3 h4 h5
  go_enter Tryz.func208,Tryz.ntmps208
  go_wp2_with fail
  refine HC.out.mono ?_
  rintro e w1 ⟨rfl,hb1⟩
  have HB1:=hide hb1
  clear hb1
  go_wp2
  go_ret
  exact ⟨ret_bool HB.out.symm,HB1.out⟩
def RowQ (w:World)(b:Nat)(s:ByteArray)(l:List Int)(d m:Int)(n:Nat)(R:Res Pat)(k:Nat)(wr:World):Prop:=Off b w wr /\
  ∃ L s0 v,PSt wr b s l s0 d (max m (d+deepL L))/\Blk wr w.heap.size [.int .i64 1,.slice none 0 0,v,.int .i64 0,.int .i64 0] 76/\LP w w.heap.size v L wr/\rowLoop true (orN true n) k L s0=R/\s0.length<k/\L.length+s0.length<=60/\s0.length<=n
theorem max_deep {m d:Int}{L:List Pat}{p:Pat}:max (max m (d+(deepL L:Int))) (d+(p.deep:Int))=max m (d+(deepL (L++[p]):Int)):=by rw [deepL_snoc];omega
set_option maxRecDepth 100000 in
set_option maxHeartbeats 1000000 in
theorem prow_any (n:Nat)(ih:POrOk n)(b:Nat)(s:ByteArray)(l:List Int)(d m:Int)(w:World)(r:List Int)(h:PSt w b s l r d m)(hn:r.length<=n):PGives 160 b s l d m (rowP true (orN true n) r) w:=by
  have hb0:=h.lt
  have h7:=h.2.2.2.2.2.1
  have hl60:l.length<=60:=by have:=runes_len h.2.2.1;rw [bytes_len] at this;have:=h.2.2.2.1;omega
  have hrl:=h.2.1.length_le
  have HI0:=hide (show RowQ w b s l d m n (rowP true (orN true n) r) (r.length+1) (w.alloc (.cells #[.int .i64 1,.slice none 0 0,.slice none 0 0,.int .i64 0,.int .i64 0] 76)) from by
    refine ⟨(Off.refl b w).alloc _,[],r,.slice none 0 0,?_,Blk.new w [.int .i64 1,.slice none 0 0,.slice none 0 0,.int .i64 0,.int .i64 0] 76,LP.nil _ _ _,rfl,by omega,by simp;omega,hn⟩
    have e:max m (d+((deepL []:Nat):Int))=m:=by have:=h.2.2.2.2.2;simp [deepL];omega
    rw [e];exact h.alloc _)
  have HIH:=hide ih
  generalize hR:rowP true (orN true n) r=R at HI0 ⊢
  clear h hR ih hn
  unfold PGives
  go_enter Tryz.func160,Tryz.ntmps160
  go_wp2_with fail
  go_loopg [] (r.length+1) (fun k wr=>RowQ w b s l d m n R k wr)
  case atStart=>exact HI0.out
  case round =>
    clear HI0
    obtain ⟨ho,L,s0,v,hs,hx,hlp,heq,hk,h60,hsn⟩:=hrel
    have hall:=(runes_all hs.2.2.1).suf hs.2.1
    have HBE:=hide (begins_iff hall)
    have HRN:Hid (Rn (nextP s0)):=nextP_rn hs.2.2.1 hs.2.1
    have HO:=hide ho
    have HS:=hide hs
    have HX:=hide hx
    have HLP:=hide hlp
    have HE:=hide heq
    obtain ⟨k',rfl⟩:∃ k',gk=k'+1:=⟨gk-1,by omega⟩
    clear ho hs hx hlp heq hall
    cases hre:rowEnds true s0 with
    | true =>
      have HR:Hid (R=.ok (.row L) s0):=by have:=HE.out;simp only [rowLoop,hre,if_true] at this;exact this.symm
      rw [hre] at HBE
      clear hre
      go_wp2_with fail
      refine (look_any b s l s0 d _ _ HS.out).mono ?_
      rintro e wi ⟨rfl,hbi⟩
      replace HS:=hide (HS.out.below hbi)
      replace HO:=hide (HO.out.trans (Off.below hbi))
      replace HX:=hide (HX.out.below hbi)
      replace HLP:=hide (HLP.out.keep (Off.below hbi) (.inl hb0))
      clear hbi
      generalize nextP s0=NN at HBE HRN
      go_wp2_with fail
      refine (beginsPart_any NN _ HRN.out).mono ?_
      rintro e wj ⟨rfl,hbi⟩
      replace HS:=hide (HS.out.below hbi)
      replace HO:=hide (HO.out.trans (Off.below hbi))
      replace HX:=hide (HX.out.below hbi)
      replace HLP:=hide (HLP.out.keep (Off.below hbi) (.inl hb0))
      clear hbi
      rw [HBE.out]
      go_wp2
      go_ret2
      obtain ⟨xs,o1,o2⟩:=HLP.out.own
      exact ⟨HO.out,by rw [HR.out];exact ⟨w.heap.size,rfl,⟨Nat.le_refl _,by omega,v,xs,HX.out,o1,o2⟩,HS.out⟩⟩
    | false =>
      have HR:Hid ((notP (orN true n) s0).bind (fun p s'=>rowLoop true (orN true n) k' (L++[p]) s')=R):=by have:=HE.out;simp only [rowLoop,hre,Bool.false_eq_true,if_false] at this;exact this
      have HTK:=hide (notP_takes (orN_goes true n) s0)
      rw [hre] at HBE
      clear hre
      go_wp2_with fail
      refine (look_any b s l s0 d _ _ HS.out).mono ?_
      rintro e wi ⟨rfl,hbi⟩
      replace HS:=hide (HS.out.below hbi)
      replace HO:=hide (HO.out.trans (Off.below hbi))
      replace HX:=hide (HX.out.below hbi)
      replace HLP:=hide (HLP.out.keep (Off.below hbi) (.inl hb0))
      clear hbi
      generalize nextP s0=NN at HBE HRN
      go_wp2_with fail
      refine (beginsPart_any NN _ HRN.out).mono ?_
      rintro e wj ⟨rfl,hbi⟩
      replace HS:=hide (HS.out.below hbi)
      replace HO:=hide (HO.out.trans (Off.below hbi))
      replace HX:=hide (HX.out.below hbi)
      replace HLP:=hide (HLP.out.keep (Off.below hbi) (.inl hb0))
      clear hbi
      rw [HBE.out]
      go_wp2_with fail
      refine (pnot_any n HIH.out s0 b s l d _ _ HS.out hsn).mono ?_
      rintro e w1 ⟨ho1,he1⟩
      generalize notP (orN true n) s0=RR at he1 HR HTK
      cases RR with
      | bad q =>
        obtain ⟨rfl,m',hs1⟩:=he1
        have HS1:=hide hs1
        have HR2:Hid (R=.bad q):=HR.out.symm
        replace HO:=hide (HO.out.trans ho1)
        clear hs1 ho1
        go_wp2
        go_ret2
        exact ⟨HO.out,by rw [HR2.out];exact ⟨rfl,_,HS1.out⟩⟩
      | ok p q =>
        obtain ⟨x,rfl,hp1,hs1⟩:=he1
        obtain ⟨xs,l1,l2,l3⟩:=HLP.out
        obtain ⟨ao,cap,rfl⟩:=own65_form l1
        have hsz1:=ho1.size
        have hszw:=HO.out.size
        have hx1:=HX.out.off ho1 (by omega)
        have x2:=hx1.cell 2
        simp only [List.getElem?_cons_succ,List.getElem?_cons_zero] at x2
        have hxl:=hx1.lt
        have hL1:=own_block l1 (fun q hq=>ho1.block q (l1.lt q hq).2 (by have:=(l1.lt q hq).1;omega))
        have HL1:=hide hL1
        have HX1:=hide hx1
        have HS1:=hide hs1
        have HP1:=hide hp1
        have HO1:=hide ho1
        have HOW:=hide (HO.out.trans ho1)
        have H1:=hide l1
        have H2:=hide l2
        have H3:=hide l3
        have hl9:L.length<=60:=by omega
        clear hs1 hp1 ho1 l1 l2 l3 hx1 hL1
        go_wp2_with (at_builtin;refine append_ptr rfl (.tmp 23) (.tmp 25) rfl w.heap.size L.length _ _ rfl (HL1.out.alloc _) ⟨w1.heap.size,0,none⟩ [Ptr x] rfl rfl (ptr_new _ _) (ptr_one _) (by omega) (by simp;omega) ?_;intro v3 w3 ho3 hg3 hl3;obtain ⟨ao3,cap3,rfl⟩:=own65_form ho3;have hx3:=(HX1.out.alloc (.cells #[Ptr x] 65)).grown hg3 (fun e=>H2.out e.symm);have hf3:=hx3.frozen 2;have hc3:=hx3.cell 2;simp only [List.getElem?_cons_succ,List.getElem?_cons_zero] at hc3;have hxl3:=hx3.lt;have HX3:=hide hx3;have HO3:=hide ho3;have HG3:=hide hg3;have HL3:=hide hl3;clear ho3 hg3 hl3 hx3)
        go_roundg k'
        case measure=>omega
        case rel =>
          have hpush:=LP.push (b:=b) H1.out H2.out H3.out hb0 (by have:=HX1.out.lt;have:=HX.out.lt;omega) hszw HO1.out HP1.out HO3.out HG3.out HL3.out
          refine ⟨((HOW.out.alloc _).grown HG3.out (fun q e=>(H1.out.lt q e).1)).setNew (Nat.le_refl _) _,L++[p],q,_,?_,HX3.out.set 2 _,hpush.keep ((Off.refl w.heap.size w3).setCell 2 _) (.inr rfl),HR.out,?_,?_,?_⟩
          · rw [<- max_deep]
            exact ((HS1.out.alloc _).grown HG3.out (fun q e=>by have:=(H1.out.lt q e).1;omega)).setOther (p:=⟨w.heap.size,2,none⟩) (by show b≠w.heap.size;omega) (by show 7<=w.heap.size;omega) _
          · have:=HTK.out.1;omega
          · have:=HTK.out.1;rw [List.length_append];simp only [List.length_cons,List.length_nil];omega
          · have:=HTK.out.1;omega
end Go.Proofs.YtpoibdhhcbelnaaGreatDoor
namespace Go.Proofs.YtpoibdhhcbelnaaGreatDoor
open Go.RowKit Brm
def JoinQ (w:World)(b:Nat)(s:ByteArray)(l:List Int)(d m:Int)(n:Nat)(part:List Int->Res Pat)(sign:Int)(mk:List Pat->Pat)(R:Res Pat)(k:Nat)(v:Value)(wr:World):Prop:=Off b w wr /\
  ∃ L s0,PSt wr b s l s0 d (max m (d+deepL L))/\LP w b v L wr/\joinLoop part sign mk k L s0=R/\s0.length<k/\L.length+s0.length<=60/\s0.length<=n
theorem own_head {w:World}{B n:Nat}{v:Value}{xs:List Value}(h:w.ownsRow B 65 1 v (n+1) xs):∃ g cap,v=.slice (some ⟨g,0,none⟩) (n+1) cap/\B<=g/\g<w.heap.size:=by
  rcases h.2 with ⟨_,h0⟩ | ⟨g,cap,cur,rfl,hg,_⟩
  · omega
  · exact ⟨g,cap,rfl,hg,(h.lt g rfl).2⟩
theorem own_first {w:World}{B n g cap:Nat}{x:Value}{xs:List Value}(h:w.ownsRow B 65 1 (.slice (some ⟨g,0,none⟩) n cap) n (x::xs)):w.cell? ⟨g,0,none⟩=some x:=by
  have:=h.cells rfl 0 x rfl
  rw [Addr.add_lit] at this;simpa using this
set_option maxRecDepth 100000 in
set_option maxHeartbeats 1000000 in
theorem joined_or (n:Nat)(part:List Int->Res Pat)(b:Nat)(s:ByteArray)(l:List Int)(d m:Int)(w:World)(r:List Int)(h:PSt w b s l r d m)(hn:r.length<=n)
    (hc:∀ (r:List Int) (d m:Int) (w:World),PSt w b s l r d m->r.length<=n->PGives 105 b s l d m (part r) w) (hgo:∀ s,Goes (part s) s) :
    Calls Tryz.prog 104 #[.pointer (some ⟨b,0,none⟩),.int .i32 124,.int .i64 2,.func (.func 105) #[.pointer (some ⟨b,0,none⟩)] #[]] w fun e w'=>Off b w w'/\EndN b s l d m (joinLoop part 124 Pat.or (r.length+1) [] r) w w' e:=by
  have hb0:=h.lt
  have hl60:l.length<=60:=by have:=runes_len h.2.2.1;rw [bytes_len] at this;have:=h.2.2.2.1;omega
  have hrl:=h.2.1.length_le
  have HI0:=hide (show JoinQ w b s l d m n part 124 Pat.or (joinLoop part 124 Pat.or (r.length+1) [] r) (r.length+1) (.slice none 0 0) w from by
    refine ⟨Off.refl b w,[],r,?_,LP.nil _ _ _,rfl,by omega,by simp;omega,hn⟩
    have e:max m (d+((deepL []:Nat):Int))=m:=by have:=h.2.2.2.2.2;simp [deepL];omega
    rw [e];exact h)
  have HC:=hide hc
  have HGO:=hide hgo
  generalize hR:joinLoop part 124 Pat.or (r.length+1) [] r=R at HI0 ⊢
  clear h hR hc hn hgo
  go_enter Tryz.func104,Tryz.ntmps104
  go_wp2_with fail
  go_loopg [10] (r.length+1) (fun k v wr=>JoinQ w b s l d m n part 124 Pat.or R k v wr)
  case atStart=>exact HI0.out
  case round =>
    clear HI0
    obtain ⟨ho,L,s0,hs,hlp,heq,hk,h60,hsn⟩:=hrel
    have HO:=hide ho
    have HS:=hide hs
    have HE:=hide heq
    obtain ⟨k',rfl⟩:∃ k',gk=k'+1:=⟨gk-1,by omega⟩
    have HGS:=hide (HGO.out s0)
    have HR:Hid ((part s0).bind (fun p s'=>if s'.head?=some 124 then joinLoop part 124 Pat.or k' (L++[p]) s'.tail else .ok (Pat.or (L++[p])) s')=R):=by have:=HE.out;simp only [joinLoop] at this;exact this
    obtain ⟨xs,l1,l2,l3⟩:=hlp
    obtain ⟨ao,cap,rfl⟩:=own65_form l1
    have H1:=hide l1
    have H2:=hide l2
    have H3:=hide l3
    clear ho hs heq l1 l2 l3
    go_wp2_with fail
    refine (HC.out s0 d _ _ HS.out hsn).mono ?_
    rintro e w1 ⟨ho1,he1⟩
    generalize part s0=RR at he1 HR HGS
    cases RR with
    | bad q =>
      obtain ⟨rfl,m',hs1⟩:=he1
      have HS1:=hide hs1
      have HR2:Hid (R=.bad q):=HR.out.symm
      replace HO:=hide (HO.out.trans ho1)
      clear hs1 ho1
      go_wp2
      go_ret2
      exact ⟨HO.out,by rw [HR2.out];exact ⟨rfl,_,HS1.out⟩⟩
    | ok p q =>
      obtain ⟨x,rfl,hp1,hs1⟩:=he1
      have hsz1:=ho1.size
      have hszw:=HO.out.size
      have HL1:=hide (own_block H1.out (fun q hq=>ho1.block q (H1.out.lt q hq).2 (by have:=(H1.out.lt q hq).1;omega)))
      have HS1:=hide hs1
      have HP1:=hide hp1
      have HO1:=hide ho1
      have HOW:=hide (HO.out.trans ho1)
      have hl9:L.length<=60:=by omega
      have hql:q.length<=s0.length:=(show q <:+ s0 from HGS.out).length_le
      clear hs1 hp1 ho1
      by_cases hq:q.head?=some 124
      · obtain ⟨u,rfl⟩:∃ u,q=124::u:=⟨_,head_cons hq⟩
        have HR2:Hid (joinLoop part 124 Pat.or k' (L++[p]) u=R):=by have:=HR.out;simp only [Res.bind,List.head?_cons,if_true,List.tail_cons] at this;exact this
        simp only [List.length_cons] at hql
        clear hq
        go_wp2_with (first
          | (at_builtin;refine append_ptr rfl (.tmp 20) (.tmp 22) rfl w.heap.size L.length _ _ rfl (HL1.out.alloc _) ⟨w1.heap.size,0,none⟩ [Ptr x] rfl rfl (ptr_new _ _) (ptr_one _) (by omega) (by simp;omega) ?_;intro v3 w3 ho3 hg3 hl3;have HS3:=hide ((HS1.out.alloc (.cells #[Ptr x] 65)).grown hg3 (fun q e=>by have:=(H1.out.lt q e).1;omega));have HO3:=hide ho3;have HG3:=hide hg3;have HL3:=hide hl3;clear ho3 hg3 hl3)
          | (go_at_call 159;refine (take_yes b s l _ _ d _ _ HS3.out).mono ?_;rintro e w4 ⟨rfl,hs4,ho4⟩;have HS4:=hide hs4;have HO4:=hide ho4;clear hs4 ho4))
        go_roundg k'
        case measure=>omega
        case rel =>
          have hpush:=LP.push (b:=b) H1.out H2.out H3.out hb0 (Nat.lt_of_lt_of_le hb0 hszw) hszw HO1.out HP1.out HO3.out HG3.out HL3.out
          refine ⟨((HOW.out.alloc _).grown HG3.out (fun q e=>(H1.out.lt q e).1)).trans HO4.out,L++[p],u,?_,hpush.keep HO4.out (.inl hb0),HR2.out,?_,?_,?_⟩
          · rw [<- max_deep];exact HS4.out
          · omega
          · rw [List.length_append];simp only [List.length_cons,List.length_nil];omega
          · omega
      · have HR2:Hid (R=.ok (Pat.or (L++[p])) q):=by have:=HR.out;simp only [Res.bind,if_neg hq] at this;exact this.symm
        have HQ:=hide hq
        clear hq
        by_cases hL:L=[]
        · subst hL
          have hxs:xs=[]:=by have:=PL.len [] xs H3.out;exact List.length_eq_zero_iff.1 this
          subst hxs
          go_wp2_with (first
            | (at_builtin;refine append_ptr rfl (.tmp 20) (.tmp 22) rfl w.heap.size 0 _ _ rfl (HL1.out.alloc _) ⟨w1.heap.size,0,none⟩ [Ptr x] rfl rfl (ptr_new _ _) (ptr_one _) (by omega) (by simp;omega) ?_;intro v3 w3 ho3 hg3 hl3;have HS3:=hide ((HS1.out.alloc (.cells #[Ptr x] 65)).grown hg3 (fun q e=>by have:=(H1.out.lt q e).1;omega));have HO3:=hide ho3;have HG3:=hide hg3;have HL3:=hide hl3;obtain ⟨g3,cap3,rfl,hg30,hg31⟩:=own_head ho3;have hcell3:=own_first ho3;clear ho3 hg3 hl3)
            | (go_at_call 159;refine (take_no b s l _ _ d _ _ HS3.out (by decide) HQ.out).mono ?_;rintro e w4 ⟨rfl,hb4⟩;have HS4:=hide (HS3.out.below hb4);have HB4:=hide hb4;rw [<- hb4.cell (p:=⟨g3,0,none⟩) hg31] at hcell3;have hg4:=Nat.lt_of_lt_of_le hg31 hb4.size;clear hb4))
          go_ret2
          have hpush:=LP.push (b:=b) H1.out H2.out H3.out hb0 (Nat.lt_of_lt_of_le hb0 hszw) hszw HO1.out HP1.out HO3.out HG3.out HL3.out
          obtain ⟨ys,o1,o2⟩:=(hpush.keep (Off.below HB4.out) (.inl hb0)).own
          rw [HR2.out]
          refine ⟨((HOW.out.alloc _).grown HG3.out (fun q e=>(H1.out.lt q e).1)).trans (Off.below HB4.out),x,rfl,⟨by simp,ys,o2,.inl ⟨rfl,?_⟩⟩,?_⟩
          · obtain ⟨y,r,rfl,_,hr⟩:=o2
            have hr':r=[]:=hr
            subst hr'
            have hy:=o1.1.cells rfl 0 (Ptr y) rfl
            rw [Addr.add_lit] at hy
            have hy2:w4.cell? ⟨g3,0,none⟩=some (Ptr y):=by simpa using hy
            rw [hcell3] at hy2
            simp only [Option.some.injEq,Value.pointer.injEq,Addr.mk.injEq,and_true] at hy2
            rw [hy2]
          · have e:max m (d+((Pat.or ([]++[p])).deep:Int))=max m (d+(deepL ([]++[p]):Int)):=rfl
            rw [e,<- max_deep];exact HS4.out
        · have hLp:1<=L.length:=by cases L with | nil=>exact absurd rfl hL | cons a t=>simp
          have hne1:¬ L.length+1=1:=by omega
          go_wp2_with (first
            | (at_builtin;refine append_ptr rfl (.tmp 20) (.tmp 22) rfl w.heap.size L.length _ _ rfl (HL1.out.alloc _) ⟨w1.heap.size,0,none⟩ [Ptr x] rfl rfl (ptr_new _ _) (ptr_one _) (by omega) (by simp;omega) ?_;intro v3 w3 ho3 hg3 hl3;have HS3:=hide ((HS1.out.alloc (.cells #[Ptr x] 65)).grown hg3 (fun q e=>by have:=(H1.out.lt q e).1;omega));have HO3:=hide ho3;have HG3:=hide hg3;have HL3:=hide hl3;obtain ⟨g3,cap3,rfl,hg30,hg31⟩:=own_head ho3;clear ho3 hg3 hl3;have hn3:(((L.length:Nat):Int)+1 == 1)=false:=beq_eq_false_iff_ne.2 (by omega);have hn4:((((L.length+1:Nat)):Int) == 1)=false:=beq_eq_false_iff_ne.2 (by omega))
            | (go_at_call 159;refine (take_no b s l _ _ d _ _ HS3.out (by decide) HQ.out).mono ?_;rintro e w4 ⟨rfl,hb4⟩;have HS4:=hide (HS3.out.below hb4);have HB4:=hide hb4;have hg4:=Nat.lt_of_lt_of_le hg31 hb4.size;clear hb4))
          go_ret2
          have hpush:=LP.push (b:=b) H1.out H2.out H3.out hb0 (Nat.lt_of_lt_of_le hb0 hszw) hszw HO1.out HP1.out HO3.out HG3.out HL3.out
          obtain ⟨ys,o1,o2⟩:=(hpush.keep (Off.below HB4.out) (.inl hb0)).own
          have HOF:=((HOW.out.alloc (.cells #[Ptr x] 65)).grown HG3.out (fun q e=>(H1.out.lt q e).1)).trans (Off.below (b:=b) HB4.out)
          have hlen:(L++[p]).length=L.length+1:=by simp
          rw [HR2.out]
          refine ⟨HOF.alloc _,w4.heap.size,rfl,⟨by rw [hlen];omega,ys,PL.keep (Keeps.alloc _ _ _) _ ys o2,.inr ⟨by rw [hlen];omega,HOF.size,_,Blk.new w4 [.int .i64 2,.slice none 0 0,.slice (some ⟨g3,0,none⟩) (L.length+1) cap3,.int .i64 0,.int .i64 0] 76,o1.keep (Keeps.alloc _ _ _)⟩⟩,?_⟩
          have e:max m (d+((Pat.or (L++[p])).deep:Int))=max m (d+(deepL (L++[p]):Int)):=rfl
          rw [e,<- max_deep];exact HS4.out.alloc _
set_option maxRecDepth 100000 in
set_option maxHeartbeats 1000000 in
theorem joined_and (n:Nat)(part:List Int->Res Pat)(b:Nat)(s:ByteArray)(l:List Int)(d m:Int)(w:World)(r:List Int)(h:PSt w b s l r d m)(hn:r.length<=n)
    (hc:∀ (r:List Int) (d m:Int) (w:World),PSt w b s l r d m->r.length<=n->PGives 160 b s l d m (part r) w) (hgo:∀ s,Goes (part s) s) :
    Calls Tryz.prog 104 #[.pointer (some ⟨b,0,none⟩),.int .i32 38,.int .i64 3,.func (.func 160) #[.pointer (some ⟨b,0,none⟩)] #[]] w fun e w'=>Off b w w'/\EndN b s l d m (joinLoop part 38 Pat.and (r.length+1) [] r) w w' e:=by
  have hb0:=h.lt
  have hl60:l.length<=60:=by have:=runes_len h.2.2.1;rw [bytes_len] at this;have:=h.2.2.2.1;omega
  have hrl:=h.2.1.length_le
  have HI0:=hide (show JoinQ w b s l d m n part 38 Pat.and (joinLoop part 38 Pat.and (r.length+1) [] r) (r.length+1) (.slice none 0 0) w from by
    refine ⟨Off.refl b w,[],r,?_,LP.nil _ _ _,rfl,by omega,by simp;omega,hn⟩
    have e:max m (d+((deepL []:Nat):Int))=m:=by have:=h.2.2.2.2.2;simp [deepL];omega
    rw [e];exact h)
  have HC:=hide hc
  have HGO:=hide hgo
  generalize hR:joinLoop part 38 Pat.and (r.length+1) [] r=R at HI0 ⊢
  clear h hR hc hn hgo
  go_enter Tryz.func104,Tryz.ntmps104
  go_wp2_with fail
  go_loopg [10] (r.length+1) (fun k v wr=>JoinQ w b s l d m n part 38 Pat.and R k v wr)
  case atStart=>exact HI0.out
  case round =>
    clear HI0
    obtain ⟨ho,L,s0,hs,hlp,heq,hk,h60,hsn⟩:=hrel
    have HO:=hide ho
    have HS:=hide hs
    have HE:=hide heq
    obtain ⟨k',rfl⟩:∃ k',gk=k'+1:=⟨gk-1,by omega⟩
    have HGS:=hide (HGO.out s0)
    have HR:Hid ((part s0).bind (fun p s'=>if s'.head?=some 38 then joinLoop part 38 Pat.and k' (L++[p]) s'.tail else .ok (Pat.and (L++[p])) s')=R):=by have:=HE.out;simp only [joinLoop] at this;exact this
    obtain ⟨xs,l1,l2,l3⟩:=hlp
    obtain ⟨ao,cap,rfl⟩:=own65_form l1
    have H1:=hide l1
    have H2:=hide l2
    have H3:=hide l3
    clear ho hs heq l1 l2 l3
    go_wp2_with fail
    refine (HC.out s0 d _ _ HS.out hsn).mono ?_
    rintro e w1 ⟨ho1,he1⟩
    generalize part s0=RR at he1 HR HGS
    cases RR with
    | bad q =>
      obtain ⟨rfl,m',hs1⟩:=he1
      have HS1:=hide hs1
      have HR2:Hid (R=.bad q):=HR.out.symm
      replace HO:=hide (HO.out.trans ho1)
      clear hs1 ho1
      go_wp2
      go_ret2
      exact ⟨HO.out,by rw [HR2.out];exact ⟨rfl,_,HS1.out⟩⟩
    | ok p q =>
      obtain ⟨x,rfl,hp1,hs1⟩:=he1
      have hsz1:=ho1.size
      have hszw:=HO.out.size
      have HL1:=hide (own_block H1.out (fun q hq=>ho1.block q (H1.out.lt q hq).2 (by have:=(H1.out.lt q hq).1;omega)))
      have HS1:=hide hs1
      have HP1:=hide hp1
      have HO1:=hide ho1
      have HOW:=hide (HO.out.trans ho1)
      have hl9:L.length<=60:=by omega
      have hql:q.length<=s0.length:=(show q <:+ s0 from HGS.out).length_le
      clear hs1 hp1 ho1
      by_cases hq:q.head?=some 38
      · obtain ⟨u,rfl⟩:∃ u,q=38::u:=⟨_,head_cons hq⟩
        have HR2:Hid (joinLoop part 38 Pat.and k' (L++[p]) u=R):=by have:=HR.out;simp only [Res.bind,List.head?_cons,if_true,List.tail_cons] at this;exact this
        simp only [List.length_cons] at hql
        clear hq
        go_wp2_with (first
          | (at_builtin;refine append_ptr rfl (.tmp 20) (.tmp 22) rfl w.heap.size L.length _ _ rfl (HL1.out.alloc _) ⟨w1.heap.size,0,none⟩ [Ptr x] rfl rfl (ptr_new _ _) (ptr_one _) (by omega) (by simp;omega) ?_;intro v3 w3 ho3 hg3 hl3;have HS3:=hide ((HS1.out.alloc (.cells #[Ptr x] 65)).grown hg3 (fun q e=>by have:=(H1.out.lt q e).1;omega));have HO3:=hide ho3;have HG3:=hide hg3;have HL3:=hide hl3;clear ho3 hg3 hl3)
          | (go_at_call 159;refine (take_yes b s l _ _ d _ _ HS3.out).mono ?_;rintro e w4 ⟨rfl,hs4,ho4⟩;have HS4:=hide hs4;have HO4:=hide ho4;clear hs4 ho4))
        go_roundg k'
        case measure=>omega
        case rel =>
          have hpush:=LP.push (b:=b) H1.out H2.out H3.out hb0 (Nat.lt_of_lt_of_le hb0 hszw) hszw HO1.out HP1.out HO3.out HG3.out HL3.out
          refine ⟨((HOW.out.alloc _).grown HG3.out (fun q e=>(H1.out.lt q e).1)).trans HO4.out,L++[p],u,?_,hpush.keep HO4.out (.inl hb0),HR2.out,?_,?_,?_⟩
          · rw [<- max_deep];exact HS4.out
          · omega
          · rw [List.length_append];simp only [List.length_cons,List.length_nil];omega
          · omega
      · have HR2:Hid (R=.ok (Pat.and (L++[p])) q):=by have:=HR.out;simp only [Res.bind,if_neg hq] at this;exact this.symm
        have HQ:=hide hq
        clear hq
        by_cases hL:L=[]
        · subst hL
          have hxs:xs=[]:=by have:=PL.len [] xs H3.out;exact List.length_eq_zero_iff.1 this
          subst hxs
          go_wp2_with (first
            | (at_builtin;refine append_ptr rfl (.tmp 20) (.tmp 22) rfl w.heap.size 0 _ _ rfl (HL1.out.alloc _) ⟨w1.heap.size,0,none⟩ [Ptr x] rfl rfl (ptr_new _ _) (ptr_one _) (by omega) (by simp;omega) ?_;intro v3 w3 ho3 hg3 hl3;have HS3:=hide ((HS1.out.alloc (.cells #[Ptr x] 65)).grown hg3 (fun q e=>by have:=(H1.out.lt q e).1;omega));have HO3:=hide ho3;have HG3:=hide hg3;have HL3:=hide hl3;obtain ⟨g3,cap3,rfl,hg30,hg31⟩:=own_head ho3;have hcell3:=own_first ho3;clear ho3 hg3 hl3)
            | (go_at_call 159;refine (take_no b s l _ _ d _ _ HS3.out (by decide) HQ.out).mono ?_;rintro e w4 ⟨rfl,hb4⟩;have HS4:=hide (HS3.out.below hb4);have HB4:=hide hb4;rw [<- hb4.cell (p:=⟨g3,0,none⟩) hg31] at hcell3;have hg4:=Nat.lt_of_lt_of_le hg31 hb4.size;clear hb4))
          go_ret2
          have hpush:=LP.push (b:=b) H1.out H2.out H3.out hb0 (Nat.lt_of_lt_of_le hb0 hszw) hszw HO1.out HP1.out HO3.out HG3.out HL3.out
          obtain ⟨ys,o1,o2⟩:=(hpush.keep (Off.below HB4.out) (.inl hb0)).own
          rw [HR2.out]
          refine ⟨((HOW.out.alloc _).grown HG3.out (fun q e=>(H1.out.lt q e).1)).trans (Off.below HB4.out),x,rfl,⟨by simp,ys,o2,.inl ⟨rfl,?_⟩⟩,?_⟩
          · obtain ⟨y,r,rfl,_,hr⟩:=o2
            have hr':r=[]:=hr
            subst hr'
            have hy:=o1.1.cells rfl 0 (Ptr y) rfl
            rw [Addr.add_lit] at hy
            have hy2:w4.cell? ⟨g3,0,none⟩=some (Ptr y):=by simpa using hy
            rw [hcell3] at hy2
            simp only [Option.some.injEq,Value.pointer.injEq,Addr.mk.injEq,and_true] at hy2
            rw [hy2]
          · have e:max m (d+((Pat.and ([]++[p])).deep:Int))=max m (d+(deepL ([]++[p]):Int)):=rfl
            rw [e,<- max_deep];exact HS4.out
        · have hLp:1<=L.length:=by cases L with | nil=>exact absurd rfl hL | cons a t=>simp
          have hne1:¬ L.length+1=1:=by omega
          go_wp2_with (first
            | (at_builtin;refine append_ptr rfl (.tmp 20) (.tmp 22) rfl w.heap.size L.length _ _ rfl (HL1.out.alloc _) ⟨w1.heap.size,0,none⟩ [Ptr x] rfl rfl (ptr_new _ _) (ptr_one _) (by omega) (by simp;omega) ?_;intro v3 w3 ho3 hg3 hl3;have HS3:=hide ((HS1.out.alloc (.cells #[Ptr x] 65)).grown hg3 (fun q e=>by have:=(H1.out.lt q e).1;omega));have HO3:=hide ho3;have HG3:=hide hg3;have HL3:=hide hl3;obtain ⟨g3,cap3,rfl,hg30,hg31⟩:=own_head ho3;clear ho3 hg3 hl3;have hn3:(((L.length:Nat):Int)+1 == 1)=false:=beq_eq_false_iff_ne.2 (by omega);have hn4:((((L.length+1:Nat)):Int) == 1)=false:=beq_eq_false_iff_ne.2 (by omega))
            | (go_at_call 159;refine (take_no b s l _ _ d _ _ HS3.out (by decide) HQ.out).mono ?_;rintro e w4 ⟨rfl,hb4⟩;have HS4:=hide (HS3.out.below hb4);have HB4:=hide hb4;have hg4:=Nat.lt_of_lt_of_le hg31 hb4.size;clear hb4))
          go_ret2
          have hpush:=LP.push (b:=b) H1.out H2.out H3.out hb0 (Nat.lt_of_lt_of_le hb0 hszw) hszw HO1.out HP1.out HO3.out HG3.out HL3.out
          obtain ⟨ys,o1,o2⟩:=(hpush.keep (Off.below HB4.out) (.inl hb0)).own
          have HOF:=((HOW.out.alloc (.cells #[Ptr x] 65)).grown HG3.out (fun q e=>(H1.out.lt q e).1)).trans (Off.below (b:=b) HB4.out)
          have hlen:(L++[p]).length=L.length+1:=by simp
          rw [HR2.out]
          refine ⟨HOF.alloc _,w4.heap.size,rfl,⟨by rw [hlen];omega,ys,PL.keep (Keeps.alloc _ _ _) _ ys o2,.inr ⟨by rw [hlen];omega,HOF.size,_,Blk.new w4 [.int .i64 3,.slice none 0 0,.slice (some ⟨g3,0,none⟩) (L.length+1) cap3,.int .i64 0,.int .i64 0] 76,o1.keep (Keeps.alloc _ _ _)⟩⟩,?_⟩
          have e:max m (d+((Pat.and (L++[p])).deep:Int))=max m (d+(deepL (L++[p]):Int)):=rfl
          rw [e,<- max_deep];exact HS4.out.alloc _
set_option maxRecDepth 100000 in
set_option maxHeartbeats 1000000 in
theorem pand_any (n:Nat)(ih:POrOk n)(b:Nat)(s:ByteArray)(l:List Int)(d m:Int)(w:World)(r:List Int)(h:PSt w b s l r d m)(hn:r.length<=n):PGives 105 b s l d m (andP true (orN true n) r) w:=by
  have HC:=hide (joined_and n (rowP true (orN true n)) b s l d m w r h hn (fun r d m w h hn=>prow_any n ih b s l d m w r h hn) (rowP_goes (orN_goes true n)))
  have HRE:Hid (andP true (orN true n) r=joinLoop (rowP true (orN true n)) 38 Pat.and (r.length+1) [] r):=rfl
  clear h hn
  rw [HRE.out]
  generalize joinLoop (rowP true (orN true n)) 38 Pat.and (r.length+1) [] r=RR at HC ⊢
  obtain ⟨R,HM⟩:∃ R:Res Pat,Hid (R=RR):=⟨_,rfl⟩
  rw [<- HM.out]
  unfold PGives
  go_enter Tryz.func105,Tryz.ntmps105
  go_wp2_with fail
  refine HC.out.mono ?_
  rintro e w1 ⟨ho1,he1⟩
  have HO1:=hide ho1
  clear ho1 HC HRE
  cases RR with
  | bad q =>
    obtain ⟨rfl,m',hs2⟩:=he1
    have HS2:=hide hs2
    clear hs2
    go_wp2
    go_ret2
    exact ⟨HO1.out,by rw [HM.out];exact ⟨rfl,_,HS2.out⟩⟩
  | ok p q =>
    obtain ⟨x,rfl,hp2,hs2⟩:=he1
    have HS2:=hide hs2
    have HP2:=hide hp2
    clear hs2 hp2
    go_wp2
    go_ret2
    exact ⟨HO1.out,by rw [HM.out];exact ⟨x,rfl,HP2.out,HS2.out⟩⟩
set_option maxRecDepth 100000 in
set_option maxHeartbeats 1000000 in
theorem por_any (n:Nat)(ih:POrOk n)(b:Nat)(s:ByteArray)(l:List Int)(d m:Int)(w:World)(r:List Int)(h:PSt w b s l r d m)(hn:r.length<=n):PGives 58 b s l d m (orP true (orN true n) r) w:=by
  have HC:=hide (joined_or n (andP true (orN true n)) b s l d m w r h hn (fun r d m w h hn=>pand_any n ih b s l d m w r h hn) (andP_goes (orN_goes true n)))
  have HRE:Hid (orP true (orN true n) r=joinLoop (andP true (orN true n)) 124 Pat.or (r.length+1) [] r):=rfl
  clear h hn
  rw [HRE.out]
  generalize joinLoop (andP true (orN true n)) 124 Pat.or (r.length+1) [] r=RR at HC ⊢
  obtain ⟨R,HM⟩:∃ R:Res Pat,Hid (R=RR):=⟨_,rfl⟩
  rw [<- HM.out]
  unfold PGives
  go_enter Tryz.func58,Tryz.ntmps58
  go_wp2_with fail
  refine HC.out.mono ?_
  rintro e w1 ⟨ho1,he1⟩
  have HO1:=hide ho1
  clear ho1 HC HRE
  cases RR with
  | bad q =>
    obtain ⟨rfl,m',hs2⟩:=he1
    have HS2:=hide hs2
    clear hs2
    go_wp2
    go_ret2
    exact ⟨HO1.out,by rw [HM.out];exact ⟨rfl,_,HS2.out⟩⟩
  | ok p q =>
    obtain ⟨x,rfl,hp2,hs2⟩:=he1
    have HS2:=hide hs2
    have HP2:=hide hp2
    clear hs2 hp2
    go_wp2
    go_ret2
    exact ⟨HO1.out,by rw [HM.out];exact ⟨x,rfl,HP2.out,HS2.out⟩⟩
theorem por_all:∀ n,POrOk n
  | 0=>fun _ _ _ _ _ _ _ _ hn=>absurd hn (Nat.not_lt_zero _)
  | n+1=>fun b s l r d m w h hn=>por_any n (por_all n) b s l d m w r h (Nat.le_of_lt_succ hn)
end Go.Proofs.YtpoibdhhcbelnaaGreatDoor
namespace Go.Proofs.YtpoibdhhcbelnaaGreatDoor
open Go.RowKit Brm
def BrokI (w:World)(bs:List UInt8)(k:Nat)(iv:Value)(wr:World):Prop:=∃ pre:List Int,Chain bs pre/\iv=.int .i64 (posOf pre.length bs)/\Below w.heap.size w wr/\bs.length-posOf pre.length bs<=k
set_option maxRecDepth 100000 in
set_option maxHeartbeats 1000000 in
theorem broken_any (s:ByteArray)(w:World)(hT:Tabs w)(hs:s.size<=1000):Calls Tryz.prog 57 #[.string s] w fun e w'=>Below w.heap.size w w' /\
    ((∃ l,Runes (bytesOf s) l/\e=.returned (.tuple #[.int .i64 0,.bool false]))\/(∃ k:Nat,Broken (bytesOf s) k/\e=.returned (.tuple #[.int .i64 k,.bool true]))):=by
  have HT:=hide hT
  have HLEN:=hide (bytes_len s)
  clear hT
  go_enter Tryz.func57,Tryz.ntmps57
  go_wp2_with fail
  go_loopg [4] s.size (fun k iv wr=>BrokI w (bytesOf s) k iv wr)
  case atStart=>exact ⟨[],chain_nil _,rfl,Below.refl _ _,by rw [HLEN.out];simp⟩
  case round =>
    obtain ⟨pre,hch,rfl,hbel,hk⟩:=hrel
    have hp1:=hch.1
    rw [HLEN.out] at hp1 hk
    have HCH:=hide hch
    have HB:=hide hbel
    have HDR:=hide (bytes_drop s (posOf pre.length (bytesOf s)))
    clear hch hbel
    generalize hP:posOf pre.length (bytesOf s)=P at hp1 hk HDR
    have HP:=hide hP
    have i0:(0:Int)<=(P:Int):=Int.natCast_nonneg _
    have i1:(P:Int)<=(s.size:Int):=by omega
    clear hP
    by_cases hlt:P<s.size
    · have i2:(P:Int)<(s.size:Int):=by omega
      have hne:(bytesOf s).drop P≠[]:=by intro e;have:=congrArg List.length e;rw [List.length_drop,HLEN.out,List.length_nil] at this;omega
      have hfit:=decL_fit hne
      have HC:=hide (fun (w':World) (hw:Tabs w')=>dec_any (s.extract P s.size) w' hw (by rw [ext_size];omega))
      rw [HDR.out] at HC
      have HTW:=hide (HT.out.below HB.out)
      by_cases hno:decL ((bytesOf s).drop P)=noRune
      · have HBR:Hid (Broken (bytesOf s) P):=by
          have:=HCH.out.2.2 0 (by rw [HP.out];exact .here hne hno)
          rw [HP.out] at this
          exact this
        rw [hno] at HC
        clear hno hne hfit
        simp only [noRune] at HC
        go_wp2_with (go_at_call 103;refine (HC.out _ HTW.out).mono ?_;rintro e w5 ⟨rfl,hb5⟩;have HB5:=hide hb5;clear hb5)
        go_ret2
        exact ⟨HB.out.trans (HB5.out.mono HB.out.size),.inr ⟨P,HBR.out,rfl⟩⟩
      · have HSN:=hide (chain_snoc HCH.out (by rw [HP.out];exact hne) (by rw [HP.out];exact hno))
        rw [HP.out] at HSN
        rw [List.length_drop,HLEN.out] at hfit
        generalize hD:decL ((bytesOf s).drop P)=D at HC hno HSN hfit
        obtain ⟨C,Z⟩:=D
        obtain ⟨z1,z2,z3,z4⟩:=hfit
        simp only at z1 z2 z3 z4 HC HSN
        clear hD z4 hne
        by_cases hc:C=65533
        · have hz:¬ Z=1:=fun e=>hno (by rw [hc,e];rfl)
          subst hc
          have b1:((Z:Int) == 1)=false:=beq_eq_false_iff_ne.2 (by omega)
          have b2:(Z == 1)=false:=beq_eq_false_iff_ne.2 hz
          clear hno
          go_wp2_with (go_at_call 103;refine (HC.out _ HTW.out).mono ?_;rintro e w5 ⟨rfl,hb5⟩;have HB5:=hide hb5;clear hb5)
          go_roundg (gk-1)
          case measure=>omega
          case rel =>
            refine ⟨_,HSN.out.1,?_,HB.out.trans (HB5.out.mono HB.out.size),?_⟩
            · rw [List.length_append,List.length_singleton,HSN.out.2];go_num
            · rw [HLEN.out,List.length_append,List.length_singleton,HSN.out.2];omega
        · have b1:((C:Int) == 65533)=false:=beq_eq_false_iff_ne.2 (by omega)
          have b2:(C == 65533)=false:=beq_eq_false_iff_ne.2 hc
          clear hno hc
          go_wp2_with (go_at_call 103;refine (HC.out _ HTW.out).mono ?_;rintro e w5 ⟨rfl,hb5⟩;have HB5:=hide hb5;clear hb5)
          go_roundg (gk-1)
          case measure=>omega
          case rel =>
            refine ⟨_,HSN.out.1,?_,HB.out.trans (HB5.out.mono HB.out.size),?_⟩
            · rw [List.length_append,List.length_singleton,HSN.out.2];go_num
            · rw [HLEN.out,List.length_append,List.length_singleton,HSN.out.2];omega
    · have i2:decide ((P:Int)<(s.size:Int))=false:=decide_eq_false (by omega)
      have HRU:Hid (Runes (bytesOf s) pre):=by
        have h9:=HCH.out.2.1 [] (by rw [HP.out,List.drop_eq_nil_of_le (by rw [HLEN.out];omega)];exact .nil)
        rw [List.append_nil] at h9
        exact h9
      go_wp2
      go_ret2
      exact ⟨HB.out,.inl ⟨pre,HRU.out,rfl⟩⟩
def ReadQ (s:ByteArray)(w:World)(e:Ending)(w':World):Prop:=Below w.heap.size w w'/\∃ nv er place op,ReadR (bytesOf s) (er,place,op)/\e=.returned (.tuple #[nv,.int .i64 er,.int .i64 place]) /\
  match op with | some p=>∃ x,nv=Ptr x/\PN w' (New w) p x | none=>nv=.pointer none
set_option maxRecDepth 100000 in
set_option maxHeartbeats 400000 in
theorem pread_long (s:ByteArray)(w:World)(hs:60<s.size)(hm:s.size<=9223372036854775807):Calls Tryz.prog 34 #[.string s] w fun e w'=>ReadQ s w e w':=by
  have HS:=hide hs
  have hd:decide ((60:Int)<(s.size:Int))=true:=decide_eq_true (by omega)
  go_enter Tryz.func34,Tryz.ntmps34
  go_wp2
  refine bodyPost_ret (v:=.tuple #[.pointer none,.int .i64 2,.int .i64 0]) (by simp [results,Tryz.results34,go_sem]) rfl ?_
  exact ⟨Below.refl _ _,_,2,0,none,.inl ⟨by rw [bytes_len];exact HS.out,rfl⟩,rfl,rfl⟩
theorem lax_bad {l q:List Int}(h:orN true (l.length+1) l=.bad q)(bs:List UInt8):outcome bs l=(4,(posOf (l.length-q.length) bs:Int),none):=by
  unfold outcome;rw [or_adj,h];rfl
theorem lax_more {l t:List Int}{p:Pat}{c:Int}(h:orN true (l.length+1) l=.ok p (c::t))(bs:List UInt8):outcome bs l=(4,(posOf (l.length-(c::t).length) bs:Int),none):=by
  unfold outcome;rw [or_adj,h]
  simp only [adj]
  split
  · rename_i h1;split at h1
    · cases h1;rfl
    · cases h1
  · rename_i h1;split at h1
    · cases h1
    · cases h1;rfl
  · rename_i h1;split at h1
    · cases h1
    · cases h1
theorem lax_all {l:List Int}{p:Pat}(h:orN true (l.length+1) l=.ok p [])(bs:List UInt8):outcome bs l=if 8<p.deep then (5,0,none) else (0,0,some p):=by
  unfold outcome;rw [or_adj,h];rfl
set_option maxRecDepth 100000 in
set_option maxHeartbeats 1000000 in
theorem pread_short (s:ByteArray)(w:World)(hT:Tabs w)(hs:s.size<=60):Calls Tryz.prog 34 #[.string s] w fun e w'=>ReadQ s w e w':=by
  have HS:=hide hs
  have HL:Hid ((bytesOf s).length<=60):=by show _<=_;rw [bytes_len];exact hs
  have HC:=hide (broken_any s w hT (by omega))
  have HT:=hide hT
  have hd:decide ((60:Int)<(s.size:Int))=false:=decide_eq_false (by omega)
  clear hT
  go_enter Tryz.func34,Tryz.ntmps34
  go_wp2_with fail
  refine HC.out.mono ?_
  rintro e w1 ⟨hb1,hcase⟩
  have HB1:=hide hb1
  have HT1:=hide (HT.out.below hb1)
  clear hb1
  rcases hcase with ⟨l,hru,rfl⟩ | ⟨k,hbr,rfl⟩
  · have HRU:=hide hru
    have hst:PSt (w1.alloc (.cells #[.string s,.int .i64 0,.int .i64 0,.int .i64 0] 116)) w1.heap.size s l l 0 0:=by
      refine ⟨?_,List.suffix_refl l,hru,hs,HT1.out.below ((Below.refl _ _).alloc (Nat.le_refl _) _),HT1.out.1,by simp⟩
      have:=Blk.new w1 [.string s,.int .i64 0,.int .i64 0,.int .i64 0] 116
      simpa [PRd,posOf] using this
    have HC2:=hide (por_all (l.length+1) w1.heap.size s l l 0 0 _ hst (Nat.lt_succ_self _))
    clear hru hst
    go_wp2_with fail
    refine HC2.out.mono ?_
    rintro e w2 ⟨ho2,he2⟩
    have HB2:Hid (Below w.heap.size w w2):=HB1.out.trans ((((Below.refl _ w1).alloc (Nat.le_refl _) _).trans (ho2.toBelow (Nat.le_refl _) (by simp))).mono HB1.out.size)
    clear ho2
    cases hr:orN true (l.length+1) l with
    | bad q =>
      rw [hr] at he2
      obtain ⟨rfl,m',hs2⟩:=he2
      have HOC:=hide (lax_bad hr (bytesOf s))
      obtain ⟨c0,c1,c2,c3,hbl⟩:=hs2.cells
      generalize posOf (l.length-q.length) (bytesOf s)=PO at c1 HOC
      clear hs2 hr c0 c2 c3
      go_wp2_with fail
      go_region
      go_wp2_with fail
      refine bodyPost_ret (v:=.tuple #[.pointer none,.int .i64 4,.int .i64 PO]) (by simp [results,Tryz.results34,go_sem]) rfl ?_
      exact ⟨below_drawn HB2.out,_,4,PO,none,.inr (.inr ⟨HL.out,l,HRU.out,HOC.out.symm⟩),rfl,rfl⟩
    | ok p q =>
      rw [hr] at he2
      obtain ⟨x,rfl,hp2,hs2⟩:=he2
      have HP2:Hid (PN w2 (New w) p x):=PN.mono (fun k _ hk=>by have hk':(w1.alloc (.cells #[.string s,.int .i64 0,.int .i64 0,.int .i64 0] 116)).heap.size<=k:=hk;have:=HB1.out.size;simp at hk';show w.heap.size<=k;omega) p x hp2
      clear hp2
      cases q with
      | cons c t =>
        have HOC:=hide (lax_more hr (bytesOf s))
        have HLK:=hide (look_any w1.heap.size s l (c::t) 0 _ w2 hs2)
        have hrn:=(runes_all hs2.2.2.1).suf hs2.2.1 c (by simp)
        have hcn:(c == -1)=false:=rune_ne hrn
        have hcm:(c != -1)=true:=by rw [bne,hcn];rfl
        have HS2:=hide hs2
        clear hs2 hr hrn
        simp only [nextP] at HLK
        go_wp2_with fail
        refine HLK.out.mono ?_
        rintro e w3 ⟨rfl,hb3⟩
        obtain ⟨c0,c1,c2,c3,hbl⟩:=(HS2.out.below hb3).cells
        have HB3:=hide (HB2.out.trans (hb3.mono HB2.out.size))
        generalize posOf (l.length-(c::t).length) (bytesOf s)=PO at c1 HOC
        clear hb3 c0 c2 c3
        go_wp2_with fail
        go_region
        go_wp2_with fail
        refine bodyPost_ret (v:=.tuple #[.pointer none,.int .i64 4,.int .i64 PO]) (by simp [results,Tryz.results34,go_sem]) rfl ?_
        exact ⟨below_drawn HB3.out,_,4,PO,none,.inr (.inr ⟨HL.out,l,HRU.out,HOC.out.symm⟩),rfl,rfl⟩
      | nil =>
        have HOC:=hide (lax_all hr (bytesOf s))
        have HLK:=hide (look_any w1.heap.size s l [] 0 _ w2 hs2)
        have HS2:=hide hs2
        clear hs2 hr
        simp only [nextP] at HLK
        go_wp2_with fail
        refine HLK.out.mono ?_
        rintro e w3 ⟨rfl,hb3⟩
        have hs3:=HS2.out.below hb3
        obtain ⟨c0,c1,c2,c3,hbl⟩:=hs3.cells
        have HB3:=hide (HB2.out.trans (hb3.mono HB2.out.size))
        have HP3:=hide (PN.keep (Keeps.below hb3) p x HP2.out)
        have em:max 0 (0+(p.deep:Int))=(p.deep:Int):=by omega
        rw [em] at c3
        clear hb3 c0 c1 c2 hs3
        by_cases hdp:8<p.deep
        · have hd8:(8:Int)<(p.deep:Int):=by omega
          rw [if_pos hdp] at HOC
          go_wp2
          refine bodyPost_ret (v:=.tuple #[.pointer none,.int .i64 5,.int .i64 0]) (by simp [results,Tryz.results34,go_sem]) rfl ?_
          exact ⟨HB3.out,_,5,0,none,.inr (.inr ⟨HL.out,l,HRU.out,HOC.out.symm⟩),rfl,rfl⟩
        · have hd8:decide ((8:Int)<(p.deep:Int))=false:=decide_eq_false (by omega)
          rw [if_neg hdp] at HOC
          go_wp2
          refine bodyPost_ret (v:=.tuple #[Ptr x,.int .i64 0,.int .i64 0]) (by simp [results,Tryz.results34,go_sem]) rfl ?_
          exact ⟨HB3.out,_,0,0,some p,.inr (.inr ⟨HL.out,l,HRU.out,HOC.out.symm⟩),rfl,x,rfl,HP3.out⟩
  · have HBR:=hide hbr
    clear hbr
    go_wp2
    refine bodyPost_ret (v:=.tuple #[.pointer none,.int .i64 3,.int .i64 k]) (by simp [results,Tryz.results34,go_sem]) rfl ?_
    exact ⟨HB1.out,_,3,k,none,.inr (.inl ⟨HL.out,k,HBR.out,rfl⟩),rfl,rfl⟩
theorem pread_any (s:ByteArray)(w:World)(hT:Tabs w)(hm:s.size<=9223372036854775807):Calls Tryz.prog 34 #[.string s] w fun e w'=>ReadQ s w e w':=by
  by_cases h:s.size<=60
  · exact pread_short s w hT h
  · exact pread_long s w (by omega) hm
end Go.Proofs.YtpoibdhhcbelnaaGreatDoor
namespace Go.Proofs.YtpoibdhhcbelnaaGreatDoor
open Brm
theorem u8n {k:Nat}(h:k<256):(k.toUInt8).toNat=k:=by
  simp [Nat.toUInt8];omega
theorem runes_en2 {c:Int}(hc:runeB c=true):Runes (Lib.encodeRune c) [c]:=by
  rw [rune_iff] at hc
  obtain ⟨n,rfl⟩:∃ n:Nat,c=(n:Int):=⟨c.toNat,by omega⟩
  have key:∀ {bs:List UInt8} {k:Nat},bs≠[]->k=bs.length->decL bs=(n,k)->1<=k->(n=65533->k≠1)->Runes bs [(n:Int)]:=by
    intro bs k hne hk hd h1 hx
    refine .cons hne hd (fun e=>?_) (by rw [hk,List.drop_length];exact .nil)
    unfold noRune at e
    simp only [Prod.mk.injEq] at e
    exact hx e.1 e.2
  unfold Lib.encodeRune
  by_cases h1:n<=127
  · rw [Lib.encodeRuneZ_one (by omega) (by omega)]
    have b0:(((n:Int)).toNat.toUInt8).toNat=n:=u8n (by omega)
    refine key (k:=1) (by simp) rfl ?_ (by omega) (by omega)
    rw [decL_low (by show _<_;unfold byteAt;simp only [List.map_cons,List.getD_cons_zero];rw [b0];omega)]
    show (_,1)=_
    unfold byteAt;simp only [List.map_cons,List.getD_cons_zero];rw [b0]
  by_cases h2:n<=2047
  · rw [Lib.encodeRuneZ_two (by omega) (by omega)]
    have b0:((192+(n:Int) / 64).toNat.toUInt8).toNat=192+n / 64:=by rw [show (192+(n:Int) / 64).toNat=192+n / 64 by omega];exact u8n (by omega)
    have b1:((128+(n:Int) % 64).toNat.toUInt8).toNat=128+n % 64:=by rw [show (128+(n:Int) % 64).toNat=128+n % 64 by omega];exact u8n (by omega)
    refine key (k:=2) (by simp) rfl ?_ (by omega) (by omega)
    unfold decL byteAt
    simp only [List.map_cons,List.map_nil,List.getD_cons_zero,List.getD_cons_succ,List.length_cons,List.length_nil,b0,b1]
    unfold Lib.decodeN
    rw [if_neg (by omega),if_pos (by omega),if_pos (by omega)]
    simp only [Prod.mk.injEq,and_true];omega
  by_cases h3:n<=65535
  · rw [Lib.encodeRuneZ_three (by omega)]
    have b0:((224+(n:Int) / 4096).toNat.toUInt8).toNat=224+n / 4096:=by rw [show (224+(n:Int) / 4096).toNat=224+n / 4096 by omega];exact u8n (by omega)
    have b1:((128+(n:Int) / 64 % 64).toNat.toUInt8).toNat=128+n / 64 % 64:=by rw [show (128+(n:Int) / 64 % 64).toNat=128+n / 64 % 64 by omega];exact u8n (by omega)
    have b2:((128+(n:Int) % 64).toNat.toUInt8).toNat=128+n % 64:=by rw [show (128+(n:Int) % 64).toNat=128+n % 64 by omega];exact u8n (by omega)
    refine key (k:=3) (by simp) rfl ?_ (by omega) (by omega)
    unfold decL byteAt
    simp only [List.map_cons,List.map_nil,List.getD_cons_zero,List.getD_cons_succ,List.length_cons,List.length_nil,b0,b1,b2]
    unfold Lib.decodeN
    have e:(224+n / 4096) % 16*4096+(128+n / 64 % 64) % 64*64+(128+n % 64) % 64=n:=by omega
    rw [e,if_neg (by omega),if_neg (by omega),if_pos (by omega),if_pos (by omega)]
  · rw [Lib.encodeRuneZ_four (by omega) (by omega)]
    have b0:((240+(n:Int) / 262144).toNat.toUInt8).toNat=240+n / 262144:=by rw [show (240+(n:Int) / 262144).toNat=240+n / 262144 by omega];exact u8n (by omega)
    have b1:((128+(n:Int) / 4096 % 64).toNat.toUInt8).toNat=128+n / 4096 % 64:=by rw [show (128+(n:Int) / 4096 % 64).toNat=128+n / 4096 % 64 by omega];exact u8n (by omega)
    have b2:((128+(n:Int) / 64 % 64).toNat.toUInt8).toNat=128+n / 64 % 64:=by rw [show (128+(n:Int) / 64 % 64).toNat=128+n / 64 % 64 by omega];exact u8n (by omega)
    have b3:((128+(n:Int) % 64).toNat.toUInt8).toNat=128+n % 64:=by rw [show (128+(n:Int) % 64).toNat=128+n % 64 by omega];exact u8n (by omega)
    refine key (k:=4) (by simp) rfl ?_ (by omega) (by omega)
    unfold decL byteAt
    simp only [List.map_cons,List.map_nil,List.getD_cons_zero,List.getD_cons_succ,List.length_cons,List.length_nil,b0,b1,b2,b3]
    unfold Lib.decodeN
    have e:(240+n / 262144) % 8*262144+(128+n / 4096 % 64) % 64*4096+(128+n / 64 % 64) % 64*64+(128+n % 64) % 64=n:=by omega
    rw [e,if_neg (by omega),if_neg (by omega),if_neg (by omega),if_pos (by omega),if_pos (by omega)]
def lexN:List Nat->List Nat->Bool
  | _,[]=>false
  | [],_::_=>true
  | a::x,b::y=>decide (a<b) || (decide (a=b) && lexN x y)
theorem less_nat:∀ x y:List UInt8,Op.bytesLess x y=lexN (x.map UInt8.toNat) (y.map UInt8.toNat)
  | [],[]=>rfl
  | _::_,[]=>rfl
  | [],_::_=>rfl
  | a::x,b::y=>by
    simp only [Op.bytesLess,List.map_cons,lexN,less_nat x y]
    have h1:(decide (a<b))=decide (a.toNat<b.toNat):=by
      apply decide_eq_decide.2
      exact UInt8.lt_iff_toNat_lt
    have h2:(a == b)=decide (a.toNat=b.toNat):=by
      by_cases h:a=b
      · simp [h]
      · have:a.toNat≠b.toNat:=fun e=>h (UInt8.toNat_inj.1 e)
        simp [h,this]
    rw [h1,h2]
theorem lex_lt {a b:Nat}{x y:List Nat}(h:a<b):lexN (a::x) (b::y)=true:=by simp [lexN,h]
theorem lex_le {a b:Nat}{x y:List Nat}(h:a<=b)(k:a=b->lexN x y=true):lexN (a::x) (b::y)=true:=by
  rcases Nat.lt_or_eq_of_le h with h | h
  · exact lex_lt h
  · simp [lexN,h,k h]
theorem lex_same:∀ (a x y:List Nat),lexN (a++x) (a++y)=lexN x y
  | [],_,_=>rfl
  | c::a,x,y=>by simp [lexN,lex_same a x y]
theorem lex_as:∀ x y:List Nat,lexN x y=true->lexN y x=false
  | [],[],h=>by simp [lexN] at h
  | _::_,[],h=>by simp [lexN] at h
  | [],_::_,_=>rfl
  | a::x,b::y,h=>by
    simp only [lexN,Bool.or_eq_true,decide_eq_true_eq,Bool.and_eq_true] at h
    simp only [lexN,Bool.or_eq_false_iff,decide_eq_false_iff_not,Bool.and_eq_false_imp,decide_eq_true_eq]
    rcases h with h | ⟨h,h'⟩
    · exact ⟨by omega,fun e=>by omega⟩
    · exact ⟨by omega,fun _=>lex_as x y h'⟩
def encN (n:Nat):List Nat:=if n<128 then [n] else if n<2048 then [192+n / 64,128+n % 64] else if n<65536 then [224+n / 4096,128+n / 64 % 64,128+n % 64] else [240+n / 262144,128+n / 4096 % 64,128+n / 64 % 64,128+n % 64]
theorem encN_lt {c d:Nat}(h:c<d)(hd:d<=1114111)(x y:List Nat):lexN (encN c++x) (encN d++y)=true:=by
  unfold encN
  by_cases c1:c<128
  · rw [if_pos c1]
    by_cases d1:d<128
    · rw [if_pos d1];exact lex_lt h
    by_cases d2:d<2048
    · rw [if_neg d1,if_pos d2];exact lex_lt (by omega)
    by_cases d3:d<65536
    · rw [if_neg d1,if_neg d2,if_pos d3];exact lex_lt (by omega)
    · rw [if_neg d1,if_neg d2,if_neg d3];exact lex_lt (by omega)
  by_cases c2:c<2048
  · rw [if_neg c1,if_pos c2,if_neg (show ¬ d<128 by omega)]
    by_cases d2:d<2048
    · rw [if_pos d2];exact lex_le (by omega) fun h0=>lex_lt (by omega)
    by_cases d3:d<65536
    · rw [if_neg d2,if_pos d3];exact lex_lt (by omega)
    · rw [if_neg d2,if_neg d3];exact lex_lt (by omega)
  by_cases c3:c<65536
  · rw [if_neg c1,if_neg c2,if_pos c3,if_neg (show ¬ d<128 by omega),if_neg (show ¬ d<2048 by omega)]
    by_cases d3:d<65536
    · rw [if_pos d3];exact lex_le (by omega) fun h0=>lex_le (by omega) fun h1=>lex_lt (by omega)
    · rw [if_neg d3];exact lex_lt (by omega)
  · rw [if_neg c1,if_neg c2,if_neg c3,if_neg (show ¬ d<128 by omega),if_neg (show ¬ d<2048 by omega),if_neg (show ¬ d<65536 by omega)]
    exact lex_le (by omega) fun h0=>lex_le (by omega) fun h1=>lex_le (by omega) fun h2=>lex_lt (by omega)
def hdN:List Nat->Nat
  | []=>0
  | x::t=>(if x<128\/191<x then 1 else 0)+hdN t
theorem hdN_append:∀ a b:List Nat,hdN (a++b)=hdN a+hdN b
  | [],b=>by simp [hdN]
  | x::a,b=>by simp only [List.cons_append,hdN,hdN_append a b];omega
theorem hdN_enc {n:Nat}(h:n<=1114111):hdN (encN n)=1:=by
  unfold encN
  split
  · rename_i h1;simp only [hdN];rw [if_pos (.inl h1)]
  split
  · simp only [hdN];rw [if_pos (by omega),if_neg (by omega)]
  split
  · simp only [hdN];rw [if_pos (by omega),if_neg (by omega),if_neg (by omega)]
  · simp only [hdN];rw [if_pos (by omega),if_neg (by omega),if_neg (by omega),if_neg (by omega)]
theorem threeB {bs:List UInt8}(h:2<bs.length):∃ b b' b'' t,bs=b::b'::b''::t:=by
  match bs,h with
  | b::b'::b''::t,_=>exact ⟨b,b',b'',t,rfl⟩
theorem fourB {bs:List UInt8}(h:3<bs.length):∃ b b' b'' b''' t,bs=b::b'::b''::b'''::t:=by
  match bs,h with
  | b::b'::b''::b'''::t,_=>exact ⟨b,b',b'',b''',t,rfl⟩
set_option maxRecDepth 100000 in
theorem dec_enc {bs:List UInt8}{c n:Nat}(hne:bs≠[])(h:decL bs=(c,n))(hn:(c,n)≠noRune):bs.map UInt8.toNat=encN c++(bs.drop n).map UInt8.toNat:=by
  have hb:=byteAt_lt bs
  unfold decL Lib.decodeN at h
  have bad:∀ {a b:Nat},(65533,1)=(a,b)->(a,b)≠noRune->False:=fun e k=>k e.symm
  split at h
  · rename_i h0
    simp only [Prod.mk.injEq] at h
    obtain ⟨rfl,rfl⟩:=h
    cases bs with
    | nil=>exact absurd rfl hne
    | cons b t =>
      have e0:byteAt (b::t) 0=b.toNat:=rfl
      rw [e0] at h0 ⊢
      unfold encN
      rw [if_pos h0]
      rfl
  split at h
  · rename_i h1 h2
    obtain ⟨k0,k1,k2⟩:=h2
    split at h
    · rename_i h3
      simp only [Prod.mk.injEq] at h
      obtain ⟨rfl,rfl⟩:=h
      match bs,k1 with
      | b::b'::t,_ =>
        have e0:byteAt (b::b'::t) 0=b.toNat:=rfl
        have e1:byteAt (b::b'::t) 1=b'.toNat:=rfl
        have l0:=hb 0
        have l1:=hb 1
        unfold encN
        rw [if_neg (by omega),if_pos (by omega)]
        simp only [List.map_cons,List.drop_succ_cons,List.drop_zero,List.cons_append,List.nil_append,List.cons.injEq,and_true]
        omega
    · exact (bad h hn).elim
  split at h
  · rename_i h1 h2 h4
    obtain ⟨k0,⟨k1,k2⟩,k3,k4⟩:=h4
    split at h
    · rename_i h3
      simp only [Prod.mk.injEq] at h
      obtain ⟨rfl,rfl⟩:=h
      obtain ⟨b,b',b'',t,rfl⟩:=threeB k3
      have e0:byteAt (b::b'::b''::t) 0=b.toNat:=rfl
      have e1:byteAt (b::b'::b''::t) 1=b'.toNat:=rfl
      have e2:byteAt (b::b'::b''::t) 2=b''.toNat:=rfl
      have l0:=hb 0
      have l1:=hb 1
      have l2:=hb 2
      clear h1 h2 hne hn hb bad
      unfold encN
      rw [if_neg (by omega),if_neg (by omega),if_pos (by omega)]
      simp only [List.map_cons,List.drop_succ_cons,List.drop_zero,List.cons_append,List.nil_append,List.cons.injEq,and_true]
      omega
    · exact (bad h hn).elim
  split at h
  · rename_i h1 h2 h4 h5
    obtain ⟨k0,⟨k1,k2⟩,⟨k3,k4⟩,k5,k6⟩:=h5
    split at h
    · rename_i h3
      simp only [Prod.mk.injEq] at h
      obtain ⟨rfl,rfl⟩:=h
      obtain ⟨b,b',b'',b''',t,rfl⟩:=fourB k5
      have e0:byteAt (b::b'::b''::b'''::t) 0=b.toNat:=rfl
      have e1:byteAt (b::b'::b''::b'''::t) 1=b'.toNat:=rfl
      have e2:byteAt (b::b'::b''::b'''::t) 2=b''.toNat:=rfl
      have e3:byteAt (b::b'::b''::b'''::t) 3=b'''.toNat:=rfl
      have l0:=hb 0
      have l1:=hb 1
      have l2:=hb 2
      have l3:=hb 3
      clear h1 h2 h4 hne hn hb bad
      unfold encN
      rw [if_neg (by omega),if_neg (by omega),if_neg (by omega)]
      simp only [List.map_cons,List.drop_succ_cons,List.drop_zero,List.cons_append,List.nil_append,List.cons.injEq,and_true]
      omega
    · exact (bad h hn).elim
  · exact (bad h hn).elim
theorem runes_map {bs:List UInt8}{l:List Int}(h:Runes bs l):bs.map UInt8.toNat=l.flatMap fun c=>encN c.toNat:=by
  induction h with
  | nil=>rfl
  | cons hne hd hn _ ih =>
    rw [dec_enc hne hd hn,ih]
    simp
theorem runes_heads {bs:List UInt8}{l:List Int}(h:Runes bs l):hdN (bs.map UInt8.toNat)=l.length:=by
  have ha:=runes_all h
  rw [runes_map h]
  clear h
  induction l with
  | nil=>rfl
  | cons c l ih =>
    have hc:=(rune_iff c).1 ha.head
    rw [List.flatMap_cons,hdN_append,ih ha.tail,hdN_enc (by omega),List.length_cons]
    omega
theorem lex_runes:∀ (l m:List Int),AllR l->AllR m->l.length=m.length->lexN (l.flatMap fun c=>encN c.toNat) (m.flatMap fun c=>encN c.toNat)=lexB l m
  | [],[],_,_,_=>rfl
  | [],_::_,_,_,h=>by simp at h
  | _::_,[],_,_,h=>by simp at h
  | c::l,d::m,hc,hd,h=>by
    have ih:=lex_runes l m hc.tail hd.tail (by simpa using h)
    have k1:=(rune_iff c).1 hc.head
    have k2:=(rune_iff d).1 hd.head
    rw [List.flatMap_cons,List.flatMap_cons]
    rcases Int.lt_trichotomy c d with hlt | heq | hgt
    · rw [encN_lt (by omega) (by omega)]
      simp [lexB,hlt]
    · subst heq
      rw [lex_same,ih]
      simp [lexB]
    · rw [lex_as _ _ (encN_lt (by omega) (by omega) _ _)]
      have e1:¬ c<d:=by omega
      have e2:¬ c=d:=by omega
      simp [lexB,e1,e2]
theorem less_runes {a b:List UInt8}{l m:List Int}(h:Runes a l)(k:Runes b m)(he:l.length=m.length):Op.bytesLess a b=lexB l m:=by
  rw [less_nat,runes_map h,runes_map k]
  exact lex_runes l m (runes_all h) (runes_all k) he
theorem bytes_fold:∀ (t:List Int) (z:ByteArray),(∀ r∈t,runeB r=true)->bytesOf (t.foldl (fun r n=>r++Utf8.encode n) z)=bytesOf z++t.flatMap Lib.encodeRune
  | [],z,_=>by simp
  | c::t,z,h=>by
    rw [List.foldl_cons,bytes_fold t _ (fun r hr=>h r (by simp [hr])),List.flatMap_cons,<- List.append_assoc]
    congr 1
    have e:bytesOf (z++Utf8.encode c)=bytesOf z++bytesOf (Utf8.encode c):=by simp [bytesOf,ByteArray.data_append]
    rw [e,enc_bytes (h c (by simp))]
theorem runes_txt {t:List Int}(h:ValT t):Runes (bytesOf (runesBytes t)) t:=by
  have e:bytesOf (runesBytes t)=t.flatMap Lib.encodeRune:=by
    unfold runesBytes
    rw [bytes_fold t _ h]
    rfl
  rw [e]
  clear e
  induction t with
  | nil=>exact .nil
  | cons c t ih =>
    rw [List.flatMap_cons]
    exact runes_append (runes_en2 (h c (by simp))) (ih fun r hr=>h r (by simp [hr]))
end Go.Proofs.YtpoibdhhcbelnaaGreatDoor
namespace Go.Proofs.YtpoibdhhcbelnaaGreatDoor
open Go.RowKit Brm
theorem hdN_le:∀ l:List Nat,hdN l<=l.length
  | []=>Nat.le_refl _
  | x::l=>by
    have:=hdN_le l
    simp only [hdN,List.length_cons]
    split<;>omega
theorem hdN_take {B:List Nat}{i x:Nat}(h:B[i]?=some x):hdN (B.take (i+1))=hdN (B.take i)+if x<128\/191<x then 1 else 0:=by
  have e:B.take (i+1)=B.take i++[x]:=by rw [List.take_add_one,h];rfl
  rw [e,hdN_append]
  simp [hdN]
set_option maxRecDepth 100000 in
set_option maxHeartbeats 4000000 in
theorem kcount_any (s:ByteArray)(w:World)(hs:s.size<=100):Calls Tryz.prog 32 #[.string s] w fun e w'=>e=.returned (.int .i64 (hdN ((bytesOf s).map UInt8.toNat):Nat))/\w'=w:=by
  obtain ⟨B,hB⟩:∃ B,(bytesOf s).map UInt8.toNat=B:=⟨_,rfl⟩
  have HL:Hid (B.length=s.size):=by show _=_;rw [<- hB,List.length_map];rfl
  have HG:Hid (∀ (i:Nat) (h:i<s.size),B[i]?=some (s[i].toNat)):=fun i h=>by
    rw [<- hB,List.getElem?_map]
    have:(bytesOf s)[i]?=some s[i]:=by
      have h1:s.data.toList[i]?=s.data[i]?:=Array.getElem?_toList
      exact h1.trans (Array.getElem?_eq_getElem h)
    rw [this]
    rfl
  rw [hB]
  clear hB
  go_enter Tryz.func32,Tryz.ntmps32
  go_wp2_with fail
  go_loopg [3,4] s.size (fun j nv iv wr=>∃ i:Nat,iv=.int .i64 i/\nv=.int .i64 (hdN (B.take i):Nat)/\i<=s.size/\s.size-i<=j/\wr=w)
  case atStart=>exact ⟨0,rfl,rfl,Nat.zero_le _,Nat.le_refl _,rfl⟩
  case round =>
    obtain ⟨i,rfl,rfl,hi,hj,rfl⟩:=hrel
    by_cases hlt:i<s.size
    · have k1:(i:Int)<(s.size:Int):=by omega
      have k0:(0:Int)<=(i:Int):=by omega
      have ht:=hdN_take (HG.out i hlt)
      have HK:Hid (hdN (B.take i)<=100):=by
        have h1:=hdN_le (B.take i)
        rw [List.length_take] at h1
        show _<=_
        omega
      obtain ⟨K,hK⟩:∃ K,hdN (B.take i)=K:=⟨_,rfl⟩
      rw [hK] at ht HK ⊢
      have k9:(K:Int)+1<=200:=by have:=HK.out;omega
      have HT:=hide ht
      clear ht hK
      by_cases c1:s[i].toNat<128
      · have d1:(s[i].toNat:Int)<128:=by omega
        have h9:hdN (B.take (i+1))=K+1:=by rw [HT.out,if_pos (.inl c1)]
        have H9:=hide h9
        clear c1 h9
        go_wp2_with fail
        go_roundg (s.size-(i+1))
        case measure=>omega
        exact ⟨i+1,by first | rfl | go_num,by rw [H9.out];first | rfl | go_num,by omega,by omega,rfl⟩
      · have d1:¬ (s[i].toNat:Int)<128:=by omega
        by_cases c2:191<s[i].toNat
        · have d2:(191:Int)<(s[i].toNat:Int):=by omega
          have h9:hdN (B.take (i+1))=K+1:=by rw [HT.out,if_pos (.inr c2)]
          have H9:=hide h9
          clear c1 c2 h9
          go_wp2_with fail
          go_roundg (s.size-(i+1))
          case measure=>omega
          exact ⟨i+1,by first | rfl | go_num,by rw [H9.out];first | rfl | go_num,by omega,by omega,rfl⟩
        · have d2:¬ (191:Int)<(s[i].toNat:Int):=by omega
          have h9:hdN (B.take (i+1))=K:=by rw [HT.out,if_neg (by omega)];rfl
          have H9:=hide h9
          clear c1 c2 h9
          go_wp2_with fail
          go_roundg (s.size-(i+1))
          case measure=>omega
          exact ⟨i+1,by first | rfl | go_num,by rw [H9.out],by omega,by omega,rfl⟩
    · have k1:decide ((i:Int)<(s.size:Int))=false:=decide_eq_false (by omega)
      have he:B.take i=B:=List.take_of_length_le (by have:=HL.out;omega)
      rw [he]
      clear he
      go_wp2_with fail
      go_ret
      exact ⟨rfl,rfl⟩
theorem kcount_runes {s:ByteArray}{l:List Int}(hl:Runes (bytesOf s) l)(w:World)(hs:s.size<=100):Calls Tryz.prog 32 #[.string s] w fun e w'=>e=.returned (.int .i64 (l.length:Nat))/\w'=w:=by
  have:=kcount_any s w hs
  rw [runes_heads hl] at this
  exact this
set_option maxRecDepth 100000 in
set_option maxHeartbeats 4000000 in
theorem kless_any {s t:ByteArray}{l m:List Int}(hl:Runes (bytesOf s) l)(hm:Runes (bytesOf t) m)(w:World)(hs:s.size<=100)(ht:t.size<=100):Calls Tryz.prog 33 #[.string s,.string t] w fun e w'=>e=.returned (.bool (lessT l m))/\w'=w:=by
  have HC1:=hide (kcount_runes hl w hs)
  have HC2:=hide (kcount_runes hm w ht)
  have htl:∀ s:ByteArray,s.toList=bytesOf s:=fun s=>Lib.toList_data s
  rcases Nat.lt_trichotomy l.length m.length with h | h | h
  · have hv:lessT l m=true:=by simp [lessT,h]
    have k1:(l.length:Int)<(m.length:Int):=by omega
    rw [hv]
    clear hl hm hv htl
    go_enter Tryz.func33,Tryz.ntmps33
    go_wp2_with (first
      | (go_at_call 32;with_reducible refine HC1.out.mono ?_;rintro e w' ⟨rfl,hw⟩;have hw8:=hw.symm;subst hw8;clear hw)
      | (go_at_call 32;with_reducible refine HC2.out.mono ?_;rintro e w' ⟨rfl,hw⟩;have hw8:=hw.symm;subst hw8;clear hw))
    go_ret
    exact ⟨rfl,rfl⟩
  · have hv:lessT l m=Op.bytesLess s.toList t.toList:=by
      rw [htl,htl,less_runes hl hm h]
      simp [lessT,h]
    rw [hv]
    clear hl hm hv htl
    have k1:decide ((l.length:Int)<(m.length:Int))=false:=decide_eq_false (by omega)
    have k2:((l.length:Int) == (m.length:Int))=true:=beq_iff_eq.2 (by omega)
    go_enter Tryz.func33,Tryz.ntmps33
    go_wp2_with (first
      | (go_at_call 32;with_reducible refine HC1.out.mono ?_;rintro e w' ⟨rfl,hw⟩;have hw8:=hw.symm;subst hw8;clear hw)
      | (go_at_call 32;with_reducible refine HC2.out.mono ?_;rintro e w' ⟨rfl,hw⟩;have hw8:=hw.symm;subst hw8;clear hw))
    go_ret
    exact ⟨rfl,rfl⟩
  · have hv:lessT l m=false:=by
      have h1:¬ l.length<m.length:=by omega
      have h2:¬ l.length=m.length:=by omega
      simp [lessT,h1,h2]
    rw [hv]
    clear hl hm hv htl
    have k1:decide ((l.length:Int)<(m.length:Int))=false:=decide_eq_false (by omega)
    have k2:((l.length:Int) == (m.length:Int))=false:=beq_eq_false_iff_ne.2 (by omega)
    have k3:decide (l.length<m.length)=false:=decide_eq_false (by omega)
    have k4:(l.length == m.length)=false:=beq_eq_false_iff_ne.2 (by omega)
    have k5:¬ l.length<m.length:=by omega
    have k6:¬ l.length=m.length:=by omega
    go_enter Tryz.func33,Tryz.ntmps33
    go_wp2_with (first
      | (go_at_call 32;with_reducible refine HC1.out.mono ?_;rintro e w' ⟨rfl,hw⟩;have hw8:=hw.symm;subst hw8;clear hw)
      | (go_at_call 32;with_reducible refine HC2.out.mono ?_;rintro e w' ⟨rfl,hw⟩;have hw8:=hw.symm;subst hw8;clear hw))
    go_ret
    exact ⟨rfl,rfl⟩
end Go.Proofs.YtpoibdhhcbelnaaGreatDoor
