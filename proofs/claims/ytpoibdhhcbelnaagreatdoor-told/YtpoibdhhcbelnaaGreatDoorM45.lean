/- Walks and plain laws, some texts in one. -/
import Derived.BigRegion
import Derived.BigQuiet
import Derived.Deep.QuietTactic
import Derived.Test.YtpoibdhhcbelnaaGreatDoorM43
import Derived.Test.YtpoibdhhcbelnaaGreatDoorM44
import Derived.Test.YtpoibdhhcbelnaaGreatDoorM26
import Derived.Test.YtpoibdhhcbelnaaGreatDoorM35
import Derived.Test.YtpoibdhhcbelnaaGreatDoorM17
namespace Go.Proofs.YtpoibdhhcbelnaaGreatDoor
open Go.Shelf Go.RowKit Go.Lib Brm
theorem whole_read {k:Nat}{bs:List UInt8}{p:Pat}(h:Whole k bs p)(hk:k<=8)(hl:bs.length<=60):ReadR bs (0,0,some p):=by
  obtain ⟨l,h1,h2,h3⟩:=h
  refine .inr (.inr ⟨hl,l,h1,?_⟩)
  unfold outcome
  rw [h2.top]
  simp only
  rw [if_neg (by omega)]
def starIn:List UInt8:=[97,42]
def starOne:Pat:=.or [.and [.row [.many (.set [(97,97)]) 0 (-1)]]]
theorem star_read:ReadR starIn (0,0,some starOne):=.inr (.inr ⟨by decide,_,ascii_runes starIn (by decide),by kernel_rfl⟩)
theorem star_aaa:matchB starOne (some [97,97,97])=true:=mT_iff.2 ⟨Nat.zero_le _,by
  rw [sub_all]
  exact .inl ⟨⟨[97,97,97],[],rfl,⟨3,by decide,.inl (by decide),[97],[97,97],rfl,chr_one 97,[97],[97],rfl,chr_one 97,[97],[],rfl,chr_one 97,rfl⟩,rfl⟩,trivial⟩⟩
theorem star_ab:matchB starOne (some [97,98])=false:=by
  apply Bool.eq_false_iff.2
  intro h
  have h:=(mT_iff.1 h).2
  rw [sub_all] at h
  rcases h with ⟨⟨a,b,e,⟨r,_,_,hr⟩,hb⟩,_⟩ | h
  · rw [show b=[] from hb,List.append_nil] at e
    subst e
    match r,hr with
    | 0,hr=>cases hr
    | 1,⟨a,b,e,ha,hb⟩=>rw [show b=[] from hb,chr_is ha] at e;simp at e
    | r+2,⟨a,b,e,ha,c,d,e2,hc,_⟩=>rw [chr_is ha] at e;rw [e2,chr_is hc] at e;simp at e
  · exact h
theorem text_aaa:TextR [97,97,97] 0 (some [97,97,97]):=.inr (.inr ⟨by decide,_,ascii_runes [97,97,97] (by decide),rfl,rfl⟩)
theorem text_ab:TextR [97,98] 0 (some [97,98]):=.inr (.inr ⟨by decide,_,ascii_runes [97,98] (by decide),rfl,rfl⟩)
theorem rxdiffer_star (w:World)(A:Nat->Prop)(bx:Nat)(hX:RX w A starOne bx)(hP:PowT w)(h7:7<=w.heap.size) :
    Calls Tryz.prog 21 #[.pointer (some ⟨bx,0,none⟩),.pointer (some ⟨bx,0,none⟩),.int .i64 2] w fun e w'=>e=.returned (.tuple #[.string ⟨#[]⟩,.bool false,.int .i64 0])/\Below w.heap.size w w':=by
  have hok:=(readR_some star_read).2.2.1
  have hsm:Small starOne:=⟨by decide,by decide,by decide,by decide,by decide,by decide,by decide⟩
  refine (rxdiffer_any hok hok hsm hsm hX hX hP h7 ((2:Nat):Int)).mono ?_
  rintro e w' ⟨h1,h2⟩
  obtain ⟨s,ok,rfl,hl⟩:=leastA_in h2 (by decide)
  obtain ⟨rfl,rfl⟩:=leastR_self hl
  exact ⟨rfl,h1⟩
end Go.Proofs.YtpoibdhhcbelnaaGreatDoor
namespace Go.Proofs.YtpoibdhhcbelnaaGreatDoor
open Go.Shelf Go.RowKit Go.Lib Brm
def ATab (w:World):Prop:=MTab w/\PowT w/\7<=w.heap.size
theorem ATab.below {w w':World}(h:ATab w)(k:Below w.heap.size w w'):ATab w':=⟨h.1.below k,h.2.1.below k,Nat.le_trans h.2.2 k.size⟩
set_option maxRecDepth 100000 in
set_option maxHeartbeats 4000000 in
theorem kmade_walk (s:ByteArray)(w:World)(p:Pat)(hT:ATab w)(hm:s.size<=9223372036854775807)(hp:ReadR (bytesOf s) (0,0,some p)):Calls Tryz.prog 30 #[.string s] w fun e w'=>Below w.heap.size w w'/\∃ bx,e=.returned (.pointer (some ⟨bx,0,none⟩))/\RX w' (New w) p bx:=by
  have HR:=hide (rxnew_any s w hT.1 hm)
  have HT:=hide hT
  clear hT hm
  go_enter Tryz.func30,Tryz.ntmps30
  go_wp2_with fail
  refine HR.out.mono ?_
  rintro e w1 ⟨hb1,nv,er,place,op,hr,rfl,hop⟩
  have hu:=readR_unique hp hr
  simp only [Prod.mk.injEq] at hu
  obtain ⟨rfl,rfl,rfl⟩:=hu
  obtain ⟨bx,rfl,hX⟩:=hop
  have HT1:=hide (HT.out.below hb1)
  have HB1:=hide hb1
  have HX:=hide hX
  have HR2:=hide (rxnew_any ⟨#[97,42]⟩ w1 (HT.out.below hb1).1 (by decide))
  clear hb1 hr hX HR hp
  go_wp2_with fail
  refine HR2.out.mono ?_
  rintro e w2 ⟨hb2,nv,er,place,op,hr,rfl,hop⟩
  have hu:=readR_unique star_read (show ReadR starIn (er,place,op) from hr)
  simp only [Prod.mk.injEq] at hu
  obtain ⟨rfl,rfl,rfl⟩:=hu
  obtain ⟨by2,rfl,hY⟩:=hop
  have hok:=(readR_some star_read).2.2.1
  have HT2:=hide (HT1.out.below hb2)
  have HB2:=hide hb2
  have HY2:=hide hY
  have HD:=hide (rxdiffer_star w2 _ by2 hY HT2.out.2.1 HT2.out.2.2)
  have HM1:=hide (fun (w':World) (hb:Below w2.heap.size w2 w')=>rxmatch_any starOne hok by2 ⟨#[97,97,97]⟩ w' _ (hY.below hb) (HT2.out.below hb).1 (by decide))
  have HM2:=hide (fun (w':World) (hb:Below w2.heap.size w2 w')=>rxmatch_any starOne hok by2 ⟨#[97,98]⟩ w' _ (hY.below hb) (HT2.out.below hb).1 (by decide))
  clear hb2 hr hY hok HR2
  go_wp2_with fail
  refine HD.out.mono ?_
  rintro e w3 ⟨rfl,hb3⟩
  have HB3:=hide hb3
  clear hb3 HD
  go_wp2_with fail
  refine (HM1.out _ HB3.out).mono ?_
  rintro e w4 ⟨hb4,er2,ol2,rfl,ht2⟩
  obtain ⟨rfl,rfl⟩:=textR_unique text_aaa (show TextR [97,97,97] er2 ol2 from ht2)
  rw [star_aaa]
  have HB4:=hide (HB3.out.trans (hb4.mono HB3.out.size))
  clear hb4 ht2 HM1
  go_wp2_with fail
  refine (HM2.out _ HB4.out).mono ?_
  rintro e w5 ⟨hb5,er3,ol3,rfl,ht3⟩
  obtain ⟨rfl,rfl⟩:=textR_unique text_ab (show TextR [97,98] er3 ol3 from ht3)
  rw [star_ab]
  have HB5:=hide (HB4.out.trans (hb5.mono HB4.out.size))
  clear hb5 ht3 HM2
  go_wp2_with fail
  go_ret
  have hb15:=HB2.out.trans (HB5.out.mono HB2.out.size)
  exact ⟨HB1.out.trans (hb15.mono HB1.out.size),bx,rfl,HX.out.below hb15⟩
end Go.Proofs.YtpoibdhhcbelnaaGreatDoor
namespace Go.Proofs.YtpoibdhhcbelnaaGreatDoor
open Go.Shelf Go.RowKit Go.Lib Brm
def Bt (P:Prop)(v:Int):Prop:=(P/\v=1)\/(¬ P/\v=0)
theorem mt_notg {x:Pat}{t:List Int}:(oneP (.not (.group x))).Mt t↔¬ x.Mt t:=by rw [mt_one];simp [Pat.Mt]
def IsC (w:World)(s t:ByteArray)(P:Int->Prop):Prop:=∀ w',Below w.heap.size w w'->Calls Tryz.prog 29 #[.string s,.string t] w' fun e w9=>Below w.heap.size w w9/\∃ v,e=.returned (.int .i64 v)/\P v
section
variable {w:World} {s1 s2 t:ByteArray} {p q:Pat} {l:List Int} (hl:Runes (bytesOf t) l) (hT:ATab w) (h1:Whole 2 (bytesOf s1) p) (h2:Whole 2 (bytesOf s2) q) (z1:s1.size<=24) (z2:s2.size<=24) (zt:t.size<=16)
include hl hT h1 z1 zt
include h2 z2
end
end Go.Proofs.YtpoibdhhcbelnaaGreatDoor
namespace Go.Proofs.YtpoibdhhcbelnaaGreatDoor
open Go.Shelf Go.RowKit Go.Lib Brm
theorem readR_small {bs:List UInt8}{er place:Int}{p:Pat}(h:ReadR bs (er,place,some p)):Small p:=by
  rcases h with ⟨_,h⟩ | ⟨_,k,_,h⟩ | ⟨hl,l,hr,h⟩
  · simp at h
  · simp at h
  · have hlen:=runes_len hr
    unfold outcome at h
    cases ho:orN false (l.length+1) l with
    | bad s=>rw [ho] at h;simp at h
    | ok q s =>
      have hs:=read_small ho (by omega)
      rw [ho] at h
      cases s with
      | cons c t=>simp at h
      | nil =>
        simp only at h
        split at h
        · simp at h
        · simp only [Prod.mk.injEq,Option.some.injEq] at h
          obtain ⟨rfl,rfl,rfl⟩:=h
          exact hs
theorem mb_iff {p:Pat}{l:List Int}:matchB p (some l)=true↔p.Mt l:=by
  show mT p l 0 l.length=true↔_
  rw [mT_iff,sub_all]
  exact ⟨fun h=>h.2,fun h=>⟨Nat.zero_le _,h⟩⟩
theorem text_of {s:ByteArray}{l:List Int}(hl:Runes (bytesOf s) l)(hs:s.size<=40):TextR (bytesOf s) 0 (some l):=.inr (.inr ⟨by rw [bytes_len];exact hs,l,hl,rfl,rfl⟩)
theorem least_not {L:Lg}{n:Nat}{t l:List Int}(h:LeastT L n t)(hv:ValT l)(hl:L l):lessT l t=false:=by
  by_cases hn:l.length<=n
  · exact h.2.2.2 l hv hl hn
  · have h1:=h.2.2.1
    have e1:¬ l.length<t.length:=by omega
    have e2:¬ l.length=t.length:=by omega
    simp [lessT,e1,e2]
end Go.Proofs.YtpoibdhhcbelnaaGreatDoor
namespace Go.Proofs.YtpoibdhhcbelnaaGreatDoor
open Go.Shelf Go.RowKit Go.Lib Brm
theorem least_one {L:Lg}{n:Nat}{s t:List Int}(h:LeastT L n s)(k:LeastT L n t):s=t:=lessT_tot (k.2.2.2 s h.1 h.2.1 h.2.2.1) (h.2.2.2 t k.1 k.2.1 k.2.2.1)
theorem leastR_one {L:Lg}{n:Nat}{s t:ByteArray}{a b:Bool}(h:LeastR L n s a)(k:LeastR L n t b):s=t/\a=b:=by
  rcases h with ⟨u,h1,rfl,rfl⟩ | ⟨h1,rfl,rfl⟩<;>rcases k with ⟨v,k1,rfl,rfl⟩ | ⟨k1,rfl,rfl⟩
  · rw [least_one h1 k1];exact ⟨rfl,rfl⟩
  · exact absurd h1.2.1 (k1 u h1.1 h1.2.2.1)
  · exact absurd k1.2.1 (h1 v k1.1 k1.2.2.1)
  · exact ⟨rfl,rfl⟩
theorem dif_comm (A B:Lg):Dif A B=Dif B A:=by
  funext t
  exact propext ⟨fun h k=>h k.symm,fun h k=>h k.symm⟩
theorem leastR_opp {A B:Lg}(hAB:∀ t,B t↔¬ A t){n:Nat}{s:ByteArray}{a:Bool}(h:LeastR (Dif A B) n s a):s=⟨#[]⟩/\a=true:=by
  have hd:Dif A B []:=fun k=>by
    have:=hAB []
    by_cases h9:A []
    · exact (this.1 (k.1 h9)) h9
    · exact h9 (k.2 (this.2 h9))
  have hv:ValT []:=fun r hr=>by simp at hr
  rcases h with ⟨u,h1,rfl,rfl⟩ | ⟨h1,_⟩
  · have h2:=h1.2.2.2 [] hv hd (Nat.zero_le _)
    have:u=[]:=by
      cases u with
      | nil=>rfl
      | cons c u=>simp [lessT] at h2
    subst this
    exact ⟨rfl,rfl⟩
  · exact absurd hd (h1 [] hv (Nat.zero_le _))
theorem dif_bool {p q:Pat}{l:List Int}:(matchB p (some l) == matchB q (some l))=true↔¬ Dif p.Mt q.Mt l:=by
  rw [beq_iff_eq]
  have h1:=mb_iff (p:=p) (l:=l)
  have h2:=mb_iff (p:=q) (l:=l)
  unfold Dif
  rw [<- h1,<- h2]
  cases matchB p (some l)<;>cases matchB q (some l)<;>simp
set_option maxRecDepth 100000 in
set_option maxHeartbeats 16000000 in
theorem told_walk (a1 a2 a3:Option Addr)(c1 c2 c3:Nat)(r1 r2 r3:List Int)(m:Int)(w:World)(hT:ATab w)(h1:IntsA w a1 r1)(h2:IntsA w a2 r2)(h3:IntsA w a3 r3)(l1:r1.length<=9223372036854775807)(l2:r2.length<=9223372036854775807)(l3:r3.length<=9223372036854775807)(hm0:-9223372036854775808<=m)(hm1:m<=9223372036854775807) :
    Calls Tryz.prog 11 #[.slice a1 r1.length c1,.slice a2 r2.length c2,.int .i64 m,.slice a3 r3.length c3] w fun e w'=>e=.returned (.bool true)/\Below w.heap.size w w':=by
  have HT:=hide hT
  have HI2:=hide h2
  have HI3:=hide h3
  have HC:=hide (pattern_any a1 c1 r1 w h1 l1)
  have HPK:Hid (∀ w:World,Calls Tryz.prog 31 #[.int .i64 m,.int .i64 4] w fun e w'=>(∃ r:Nat,e=.returned (.int .i64 r)/\(r:Int)<4)/\w'=w):=fun w=>pick_any m 4 w hm0 hm1 (by decide) (by decide)
  clear hT h1 h2 h3 hm0 hm1
  go_enter Tryz.func11,Tryz.ntmps11
  go_wp2_with fail
  refine HC.out.mono ?_
  rintro e x1 ⟨s1,rfl,⟨⟨p,hp,hcl⟩,z1⟩,hb1⟩
  have X1:=hide hb1
  have HRD:Hid (ReadR (bytesOf s1) (0,0,some p)):=whole_read hp (by decide) (by rw [bytes_len];omega)
  have hsz:(ByteArray.mk #[126,40]++s1++ByteArray.mk #[41]).size=s1.size+3:=by
    have:(ByteArray.mk #[126,40]).size=2:=rfl
    have:(ByteArray.mk #[41]).size=1:=rfl
    simp only [ByteArray.size_append];omega
  have HRZ:Hid (ReadR (bytesOf (ByteArray.mk #[126,40]++s1++ByteArray.mk #[41])) (0,0,some (oneP (.not (.group p))))):=whole_read (by rw [bytes_add,bytes_add];exact good_not hp) (by decide) (by rw [bytes_len,hsz];omega)
  have HMD:=hide (kmade_walk s1 x1 p (HT.out.below hb1) (by omega) HRD.out)
  have HOP:=hide (readR_some HRD.out).2.2.1
  have HSP:=hide (readR_small HRD.out)
  have HOZ:=hide (readR_some HRZ.out).2.2.1
  have HSZ:=hide (readR_small HRZ.out)
  have HZS:=hide hsz
  clear hb1 hp hcl HC hsz
  go_wp2_with fail
  refine HMD.out.mono ?_
  rintro e x2 ⟨hb2,bx,rfl,hX⟩
  have X2:=hide (X1.out.trans (hb2.mono X1.out.size))
  have HX:=hide hX
  have HC2:=hide (pattern_any a2 c2 r2 x2 (HI2.out.below (X1.out.trans (hb2.mono X1.out.size))) l2)
  clear hb2 hX HMD
  go_wp2_with fail
  refine HC2.out.mono ?_
  rintro e x3 ⟨s2,rfl,⟨⟨q,hq,hcl⟩,z2⟩,hb3⟩
  have X3:=hide (X2.out.trans (hb3.mono X2.out.size))
  have HX3:=hide (HX.out.below hb3)
  have HRQ:Hid (ReadR (bytesOf s2) (0,0,some q)):=whole_read hq (by decide) (by rw [bytes_len];omega)
  have HMD:=hide (kmade_walk s2 x3 q (HT.out.below X3.out) (by omega) HRQ.out)
  have HOQ:=hide (readR_some HRQ.out).2.2.1
  have HSQ:=hide (readR_small HRQ.out)
  clear hb3 hq hcl HC2 HX
  go_wp2_with fail
  refine HMD.out.mono ?_
  rintro e x4 ⟨hb4,bz,rfl,hY⟩
  have X4:=hide (X3.out.trans (hb4.mono X3.out.size))
  have HX4:=hide (HX3.out.below hb4)
  have HY4:=hide hY
  have HMD2:=hide (kmade_walk _ x4 _ (HT.out.below X4.out) (by have:=HZS.out;omega) HRZ.out)
  clear hb4 hY HMD HX3
  go_wp2_with fail
  refine HMD2.out.mono ?_
  rintro e x5 ⟨hb5,bv,rfl,hZ⟩
  have X5:=hide (X4.out.trans (hb5.mono X4.out.size))
  have HX5:=hide (HX4.out.below hb5)
  have HY5:=hide (HY4.out.below hb5)
  have HZ5:=hide hZ
  have HT5:=hide (HT.out.below X5.out)
  have HD1:=hide (fun n:Nat=>rxdiffer_any HOP.out HOQ.out HSP.out HSQ.out HX5.out HY5.out HT5.out.2.1 HT5.out.2.2 (n:Int))
  clear hb5 hZ HMD2 HX4 HY4
  go_wp2_with (go_at_call 31;refine (HPK.out _).mono ?_;rintro e w' ⟨⟨n,rfl,hn⟩,hw⟩;have hw8:=hw.symm;subst hw8;clear hw)
  refine (HD1.out n).mono ?_
  rintro e x6 ⟨hb6,hla⟩
  obtain ⟨s,ok,rfl,hlr⟩:=leastA_in hla hn
  have HLR:=hide hlr
  have B6:=hide hb6
  have HD2:=hide (rxdiffer_any HOQ.out HOP.out HSQ.out HSP.out (HY5.out.below hb6) (HX5.out.below hb6) (HT5.out.below hb6).2.1 (HT5.out.below hb6).2.2 (n:Int))
  clear hb6 hla hlr HD1
  go_wp2_with fail
  refine HD2.out.mono ?_
  rintro e x7 ⟨hb7,hla⟩
  obtain ⟨s',ok',rfl,hlr⟩:=leastA_in hla hn
  rw [dif_comm] at hlr
  obtain ⟨rfl,rfl⟩:=leastR_one HLR.out hlr
  have B7:=hide (B6.out.trans (hb7.mono B6.out.size))
  have HD3:=hide (rxdiffer_any HOP.out HOP.out HSP.out HSP.out (HX5.out.below B7.out) (HX5.out.below B7.out) (HT5.out.below B7.out).2.1 (HT5.out.below B7.out).2.2 (n:Int))
  clear hb7 hla hlr HD2 B6
  go_wp2_with fail
  refine HD3.out.mono ?_
  rintro e x8 ⟨hb8,hla⟩
  obtain ⟨s3,ok3,rfl,hlr⟩:=leastA_in hla hn
  obtain ⟨rfl,rfl⟩:=leastR_self hlr
  have B8:=hide (B7.out.trans (hb8.mono B7.out.size))
  have HD4:=hide (rxdiffer_any HOP.out HOZ.out HSP.out HSZ.out (HX5.out.below B8.out) (HZ5.out.below B8.out) (HT5.out.below B8.out).2.1 (HT5.out.below B8.out).2.2 (n:Int))
  clear hb8 hla hlr HD3 B7
  go_wp2_with fail
  refine HD4.out.mono ?_
  rintro e x9 ⟨hb9,hla⟩
  obtain ⟨s4,ok4,rfl,hlr⟩:=leastA_in hla hn
  obtain ⟨rfl,rfl⟩:=leastR_opp (fun t=>mt_notg) hlr
  have B9:=hide (B8.out.trans (hb9.mono B8.out.size))
  have HC3:=hide (ktext_any a3 c3 r3 x9 (HI3.out.below (X5.out.trans (B9.out.mono X5.out.size))) l3)
  clear hb9 hla hlr HD4 B8
  go_wp2_with fail
  refine HC3.out.mono ?_
  rintro e x10 ⟨t,rfl,⟨⟨l,hl⟩,zt⟩,hb10⟩
  have B10:=hide (B9.out.trans (hb10.mono B9.out.size))
  have HR:=hide hl
  have HM1:=hide (rxmatch_any p HOP.out bx t x10 _ (HX5.out.below B10.out) (HT5.out.below B10.out).1 (by omega))
  clear hb10 hl HC3 B9
  go_wp2_with fail
  refine HM1.out.mono ?_
  rintro e x11 ⟨hb11,er,ol,rfl,htr⟩
  obtain ⟨rfl,rfl⟩:=textR_unique (text_of HR.out (by omega)) htr
  have B11:=hide (B10.out.trans (hb11.mono B10.out.size))
  have HM2:=hide (rxmatch_any q HOQ.out bz t x11 _ (HY5.out.below B11.out) (HT5.out.below B11.out).1 (by omega))
  clear hb11 htr HM1 B10
  go_wp2_with fail
  refine HM2.out.mono ?_
  rintro e x12 ⟨hb12,er,ol,rfl,htr⟩
  obtain ⟨rfl,rfl⟩:=textR_unique (text_of HR.out (by omega)) htr
  have B12:=hide (B11.out.trans (hb12.mono B11.out.size))
  have HDB:Hid ((matchB p (some l) == matchB q (some l))=true↔¬ Dif p.Mt q.Mt l):=dif_bool
  obtain ⟨av,hav⟩:∃ av,matchB p (some l)=av:=⟨_,rfl⟩
  obtain ⟨cv,hcv⟩:∃ cv,matchB q (some l)=cv:=⟨_,rfl⟩
  rw [hav,hcv] at HDB
  rw [hav,hcv]
  have HVL:Hid (ValT l):=fun r hr=>runes_all HR.out r hr
  clear hb12 htr HM2 hav hcv B11
  rcases HLR.out with ⟨t0,hlt,rfl,rfl⟩ | ⟨hno,rfl,rfl⟩
  · have HLT:=hide hlt
    have HR0:=hide (runes_txt hlt.1)
    have zs:(runesBytes t0).size<=12:=by have h1:=runesBytes_size_le t0;have h2:=hlt.2.2.1;omega
    have HM3:=hide (rxmatch_any p HOP.out bx (runesBytes t0) x12 _ (HX5.out.below B12.out) (HT5.out.below B12.out).1 (by omega))
    have HL0:Hid (t0.length<=n):=hlt.2.2.1
    clear hlt HLR
    generalize runesBytes t0=s at *
    go_wp2_with fail
    refine HM3.out.mono ?_
    rintro e x13 ⟨hb13,er2,ol2,rfl,htr2⟩
    obtain ⟨rfl,rfl⟩:=textR_unique (text_of HR0.out (by omega)) htr2
    have B13:=hide (B12.out.trans (hb13.mono B12.out.size))
    have HM4:=hide (rxmatch_any q HOQ.out bz s x13 _ (HY5.out.below B13.out) (HT5.out.below B13.out).1 (by omega))
    clear hb13 htr2 HM3 B12
    go_wp2_with fail
    refine HM4.out.mono ?_
    rintro e x14 ⟨hb14,er2,ol2,rfl,htr2⟩
    obtain ⟨rfl,rfl⟩:=textR_unique (text_of HR0.out (by omega)) htr2
    have B14:=hide (B13.out.trans (hb14.mono B13.out.size))
    have X14:=hide (X5.out.trans (B14.out.mono X5.out.size))
    have hne:(matchB p (some t0) == matchB q (some t0))=false:=by
      cases h:(matchB p (some t0) == matchB q (some t0)) with
      | false=>rfl
      | true=>exact absurd HLT.out.2.1 (dif_bool.1 h)
    generalize matchB p (some t0)=dv at *
    generalize matchB q (some t0)=ev at *
    have hln:(t0.length:Int)<=(n:Int):=by have:=HL0.out;omega
    clear hb14 htr2 HM4 B13
    by_cases hac:(av == cv)=true
    · go_wp2_with (go_at_call 32;refine (kcount_runes HR0.out _ (by omega)).mono ?_;rintro e w' ⟨rfl,hw⟩;have hw8:=hw.symm;subst hw8;clear hw)
      go_ret
      exact ⟨rfl,X14.out⟩
    · have hl2:lessT l t0=false:=least_not HLT.out HVL.out (Classical.byContradiction fun h=>hac (HDB.out.2 h))
      have hac2:(av == cv)=false:=by simpa using hac
      clear hac
      go_wp2_with (first
        | (go_at_call 32;refine (kcount_runes HR0.out _ (by omega)).mono ?_;rintro e w' ⟨rfl,hw⟩;have hw8:=hw.symm;subst hw8;clear hw)
        | (go_at_call 33;refine (kless_any HR.out HR0.out _ (by omega) (by omega)).mono ?_;rintro e w' ⟨rfl,hw⟩;have hw8:=hw.symm;subst hw8;clear hw;rw [hl2]))
      go_ret
      exact ⟨rfl,X14.out⟩
  · have HNO:=hide hno
    have X12:=hide (X5.out.trans (B12.out.mono X5.out.size))
    clear hno HLR
    by_cases hac:(av == cv)=true
    · go_wp2_with fail
      go_ret
      exact ⟨rfl,X12.out⟩
    · have hac2:(av == cv)=false:=by simpa using hac
      have hgt:(n:Int)<(l.length:Int):=by
        have h9:¬ l.length<=n:=fun h=>hac (HDB.out.2 (HNO.out l HVL.out h))
        omega
      clear hac
      go_wp2_with (go_at_call 32;refine (kcount_runes HR.out _ (by omega)).mono ?_;rintro e w' ⟨rfl,hw⟩;have hw8:=hw.symm;subst hw8;clear hw)
      go_ret
      exact ⟨rfl,X12.out⟩
end Go.Proofs.YtpoibdhhcbelnaaGreatDoor
