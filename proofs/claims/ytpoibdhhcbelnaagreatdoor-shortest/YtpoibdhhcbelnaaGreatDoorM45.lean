/- Walks and plain laws, some texts in one. -/
import Derived.BigRegion
import Derived.BigQuiet
import Derived.Deep.QuietTactic
import Derived.Test.YtpoibdhhcbelnaaGreatDoorM43
import Derived.Test.YtpoibdhhcbelnaaGreatDoorM44
import Derived.Test.YtpoibdhhcbelnaaGreatDoorM26
import Derived.Test.YtpoibdhhcbelnaaGreatDoorM35
import Derived.Test.YtpoibdhhcbelnaaGreatDoorM17
namespace Go.Proofs.YtpoibdhhcbelnaaGreatDoor
open Go.Shelf Go.RowKit Go.Lib Brm
theorem whole_read {k:Nat}{bs:List UInt8}{p:Pat}(h:Whole k bs p)(hk:k<=8)(hl:bs.length<=60):ReadR bs (0,0,some p):=by
  obtain ⟨l,h1,h2,h3⟩:=h
  refine .inr (.inr ⟨hl,l,h1,?_⟩)
  unfold outcome
  rw [h2.top]
  simp only
  rw [if_neg (by omega)]
def starIn:List UInt8:=[97,42]
def starOne:Pat:=.or [.and [.row [.many (.set [(97,97)]) 0 (-1)]]]
theorem star_read:ReadR starIn (0,0,some starOne):=.inr (.inr ⟨by decide,_,ascii_runes starIn (by decide),by kernel_rfl⟩)
theorem star_aaa:matchB starOne (some [97,97,97])=true:=mT_iff.2 ⟨Nat.zero_le _,by
  rw [sub_all]
  exact .inl ⟨⟨[97,97,97],[],rfl,⟨3,by decide,.inl (by decide),[97],[97,97],rfl,chr_one 97,[97],[97],rfl,chr_one 97,[97],[],rfl,chr_one 97,rfl⟩,rfl⟩,trivial⟩⟩
theorem star_ab:matchB starOne (some [97,98])=false:=by
  apply Bool.eq_false_iff.2
  intro h
  have h:=(mT_iff.1 h).2
  rw [sub_all] at h
  rcases h with ⟨⟨a,b,e,⟨r,_,_,hr⟩,hb⟩,_⟩ | h
  · rw [show b=[] from hb,List.append_nil] at e
    subst e
    match r,hr with
    | 0,hr=>cases hr
    | 1,⟨a,b,e,ha,hb⟩=>rw [show b=[] from hb,chr_is ha] at e;simp at e
    | r+2,⟨a,b,e,ha,c,d,e2,hc,_⟩=>rw [chr_is ha] at e;rw [e2,chr_is hc] at e;simp at e
  · exact h
theorem text_aaa:TextR [97,97,97] 0 (some [97,97,97]):=.inr (.inr ⟨by decide,_,ascii_runes [97,97,97] (by decide),rfl,rfl⟩)
theorem text_ab:TextR [97,98] 0 (some [97,98]):=.inr (.inr ⟨by decide,_,ascii_runes [97,98] (by decide),rfl,rfl⟩)
theorem rxdiffer_star (w:World)(A:Nat->Prop)(bx:Nat)(hX:RX w A starOne bx)(hP:PowT w)(h7:7<=w.heap.size) :
    Calls Tryz.prog 21 #[.pointer (some ⟨bx,0,none⟩),.pointer (some ⟨bx,0,none⟩),.int .i64 2] w fun e w'=>e=.returned (.tuple #[.string ⟨#[]⟩,.bool false,.int .i64 0])/\Below w.heap.size w w':=by
  have hok:=(readR_some star_read).2.2.1
  have hsm:Small starOne:=⟨by decide,by decide,by decide,by decide,by decide,by decide,by decide⟩
  refine (rxdiffer_any hok hok hsm hsm hX hX hP h7 ((2:Nat):Int)).mono ?_
  rintro e w' ⟨h1,h2⟩
  obtain ⟨s,ok,rfl,hl⟩:=leastA_in h2 (by decide)
  obtain ⟨rfl,rfl⟩:=leastR_self hl
  exact ⟨rfl,h1⟩
end Go.Proofs.YtpoibdhhcbelnaaGreatDoor
namespace Go.Proofs.YtpoibdhhcbelnaaGreatDoor
open Go.Shelf Go.RowKit Go.Lib Brm
def ATab (w:World):Prop:=MTab w/\PowT w/\7<=w.heap.size
theorem ATab.below {w w':World}(h:ATab w)(k:Below w.heap.size w w'):ATab w':=⟨h.1.below k,h.2.1.below k,Nat.le_trans h.2.2 k.size⟩
set_option maxRecDepth 100000 in
set_option maxHeartbeats 4000000 in
theorem kmade_walk (s:ByteArray)(w:World)(p:Pat)(hT:ATab w)(hm:s.size<=9223372036854775807)(hp:ReadR (bytesOf s) (0,0,some p)):Calls Tryz.prog 30 #[.string s] w fun e w'=>Below w.heap.size w w'/\∃ bx,e=.returned (.pointer (some ⟨bx,0,none⟩))/\RX w' (New w) p bx:=by
  have HR:=hide (rxnew_any s w hT.1 hm)
  have HT:=hide hT
  clear hT hm
  go_enter Tryz.func30,Tryz.ntmps30
  go_wp2_with fail
  refine HR.out.mono ?_
  rintro e w1 ⟨hb1,nv,er,place,op,hr,rfl,hop⟩
  have hu:=readR_unique hp hr
  simp only [Prod.mk.injEq] at hu
  obtain ⟨rfl,rfl,rfl⟩:=hu
  obtain ⟨bx,rfl,hX⟩:=hop
  have HT1:=hide (HT.out.below hb1)
  have HB1:=hide hb1
  have HX:=hide hX
  have HR2:=hide (rxnew_any ⟨#[97,42]⟩ w1 (HT.out.below hb1).1 (by decide))
  clear hb1 hr hX HR hp
  go_wp2_with fail
  refine HR2.out.mono ?_
  rintro e w2 ⟨hb2,nv,er,place,op,hr,rfl,hop⟩
  have hu:=readR_unique star_read (show ReadR starIn (er,place,op) from hr)
  simp only [Prod.mk.injEq] at hu
  obtain ⟨rfl,rfl,rfl⟩:=hu
  obtain ⟨by2,rfl,hY⟩:=hop
  have hok:=(readR_some star_read).2.2.1
  have HT2:=hide (HT1.out.below hb2)
  have HB2:=hide hb2
  have HY2:=hide hY
  have HD:=hide (rxdiffer_star w2 _ by2 hY HT2.out.2.1 HT2.out.2.2)
  have HM1:=hide (fun (w':World) (hb:Below w2.heap.size w2 w')=>rxmatch_any starOne hok by2 ⟨#[97,97,97]⟩ w' _ (hY.below hb) (HT2.out.below hb).1 (by decide))
  have HM2:=hide (fun (w':World) (hb:Below w2.heap.size w2 w')=>rxmatch_any starOne hok by2 ⟨#[97,98]⟩ w' _ (hY.below hb) (HT2.out.below hb).1 (by decide))
  clear hb2 hr hY hok HR2
  go_wp2_with fail
  refine HD.out.mono ?_
  rintro e w3 ⟨rfl,hb3⟩
  have HB3:=hide hb3
  clear hb3 HD
  go_wp2_with fail
  refine (HM1.out _ HB3.out).mono ?_
  rintro e w4 ⟨hb4,er2,ol2,rfl,ht2⟩
  obtain ⟨rfl,rfl⟩:=textR_unique text_aaa (show TextR [97,97,97] er2 ol2 from ht2)
  rw [star_aaa]
  have HB4:=hide (HB3.out.trans (hb4.mono HB3.out.size))
  clear hb4 ht2 HM1
  go_wp2_with fail
  refine (HM2.out _ HB4.out).mono ?_
  rintro e w5 ⟨hb5,er3,ol3,rfl,ht3⟩
  obtain ⟨rfl,rfl⟩:=textR_unique text_ab (show TextR [97,98] er3 ol3 from ht3)
  rw [star_ab]
  have HB5:=hide (HB4.out.trans (hb5.mono HB4.out.size))
  clear hb5 ht3 HM2
  go_wp2_with fail
  go_ret
  have hb15:=HB2.out.trans (HB5.out.mono HB2.out.size)
  exact ⟨HB1.out.trans (hb15.mono HB1.out.size),bx,rfl,HX.out.below hb15⟩
end Go.Proofs.YtpoibdhhcbelnaaGreatDoor
namespace Go.Proofs.YtpoibdhhcbelnaaGreatDoor
open Go.Shelf Go.RowKit Go.Lib Brm
def Bt (P:Prop)(v:Int):Prop:=(P/\v=1)\/(¬ P/\v=0)
def IsC (w:World)(s t:ByteArray)(P:Int->Prop):Prop:=∀ w',Below w.heap.size w w'->Calls Tryz.prog 29 #[.string s,.string t] w' fun e w9=>Below w.heap.size w w9/\∃ v,e=.returned (.int .i64 v)/\P v
section
variable {w:World} {s1 s2 t:ByteArray} {p q:Pat} {l:List Int} (hl:Runes (bytesOf t) l) (hT:ATab w) (h1:Whole 2 (bytesOf s1) p) (h2:Whole 2 (bytesOf s2) q) (z1:s1.size<=24) (z2:s2.size<=24) (zt:t.size<=16)
include hl hT h1 z1 zt
include h2 z2
end
end Go.Proofs.YtpoibdhhcbelnaaGreatDoor
namespace Go.Proofs.YtpoibdhhcbelnaaGreatDoor
open Go.Shelf Go.RowKit Go.Lib Brm
theorem readR_small {bs:List UInt8}{er place:Int}{p:Pat}(h:ReadR bs (er,place,some p)):Small p:=by
  rcases h with ⟨_,h⟩ | ⟨_,k,_,h⟩ | ⟨hl,l,hr,h⟩
  · simp at h
  · simp at h
  · have hlen:=runes_len hr
    unfold outcome at h
    cases ho:orN false (l.length+1) l with
    | bad s=>rw [ho] at h;simp at h
    | ok q s =>
      have hs:=read_small ho (by omega)
      rw [ho] at h
      cases s with
      | cons c t=>simp at h
      | nil =>
        simp only at h
        split at h
        · simp at h
        · simp only [Prod.mk.injEq,Option.some.injEq] at h
          obtain ⟨rfl,rfl,rfl⟩:=h
          exact hs
theorem mb_iff {p:Pat}{l:List Int}:matchB p (some l)=true↔p.Mt l:=by
  show mT p l 0 l.length=true↔_
  rw [mT_iff,sub_all]
  exact ⟨fun h=>h.2,fun h=>⟨Nat.zero_le _,h⟩⟩
theorem text_of {s:ByteArray}{l:List Int}(hl:Runes (bytesOf s) l)(hs:s.size<=40):TextR (bytesOf s) 0 (some l):=.inr (.inr ⟨by rw [bytes_len];exact hs,l,hl,rfl,rfl⟩)
theorem least_not {L:Lg}{n:Nat}{t l:List Int}(h:LeastT L n t)(hv:ValT l)(hl:L l):lessT l t=false:=by
  by_cases hn:l.length<=n
  · exact h.2.2.2 l hv hl hn
  · have h1:=h.2.2.1
    have e1:¬ l.length<t.length:=by omega
    have e2:¬ l.length=t.length:=by omega
    simp [lessT,e1,e2]
set_option maxRecDepth 100000 in
set_option maxHeartbeats 8000000 in
theorem shortest_walk (a1 a3:Option Addr)(c1 c3:Nat)(r1 r3:List Int)(m:Int)(w:World)(hT:ATab w)(h1:IntsA w a1 r1)(h3:IntsA w a3 r3)(l1:r1.length<=9223372036854775807)(l3:r3.length<=9223372036854775807)(hm0:-9223372036854775808<=m)(hm1:m<=9223372036854775807) :
    Calls Tryz.prog 10 #[.slice a1 r1.length c1,.int .i64 m,.slice a3 r3.length c3] w fun e w'=>e=.returned (.bool true)/\Below w.heap.size w w':=by
  have HT:=hide hT
  have HI3:=hide h3
  have HC:=hide (pattern_any a1 c1 r1 w h1 l1)
  have HPK:Hid (∀ w:World,Calls Tryz.prog 31 #[.int .i64 m,.int .i64 4] w fun e w'=>(∃ r:Nat,e=.returned (.int .i64 r)/\(r:Int)<4)/\w'=w):=fun w=>pick_any m 4 w hm0 hm1 (by decide) (by decide)
  clear hT h1 h3 hm0 hm1
  go_enter Tryz.func10,Tryz.ntmps10
  go_wp2_with fail
  refine HC.out.mono ?_
  rintro e x1 ⟨s1,rfl,⟨⟨p,hp,hcl⟩,z1⟩,hb1⟩
  have X1:=hide hb1
  have HRD:Hid (ReadR (bytesOf s1) (0,0,some p)):=whole_read hp (by decide) (by rw [bytes_len];omega)
  have HMD:=hide (kmade_walk s1 x1 p (HT.out.below hb1) (by omega) HRD.out)
  have HOK:=hide (readR_some HRD.out).2.2.1
  have HSM:=hide (readR_small HRD.out)
  clear hb1 hp hcl HC
  go_wp2_with fail
  refine HMD.out.mono ?_
  rintro e x2 ⟨hb2,bx,rfl,hX⟩
  have X2:=hide (X1.out.trans (hb2.mono X1.out.size))
  have HX:=hide hX
  have HT2:=hide (HT.out.below X2.out)
  have HLS:=hide (fun n:Nat=>rxleast_any HOK.out HSM.out hX HT2.out.2.1 HT2.out.2.2 (n:Int))
  clear hb2 hX HMD
  go_wp2_with (go_at_call 31;refine (HPK.out _).mono ?_;rintro e w' ⟨⟨n,rfl,hn⟩,hw⟩;have hw8:=hw.symm;subst hw8;clear hw)
  refine (HLS.out n).mono ?_
  rintro e x3 ⟨hb3,hla⟩
  obtain ⟨s,ok,rfl,hlr⟩:=leastA_in hla hn
  have HLR:=hide hlr
  have B23:=hide hb3
  have X3:=hide (X2.out.trans (hb3.mono X2.out.size))
  have HC3:=hide (ktext_any a3 c3 r3 x3 (HI3.out.below (X2.out.trans (hb3.mono X2.out.size))) l3)
  clear hb3 hla hlr HLS
  go_wp2_with fail
  refine HC3.out.mono ?_
  rintro e x4 ⟨t,rfl,⟨⟨l,hl⟩,zt⟩,hb4⟩
  have B24:=hide (B23.out.trans (hb4.mono B23.out.size))
  have HR:=hide hl
  have HM1:=hide (rxmatch_any p HOK.out bx t x4 _ (HX.out.below B24.out) (HT2.out.below B24.out).1 (by omega))
  clear hb4 hl HC3
  go_wp2_with fail
  refine HM1.out.mono ?_
  rintro e x5 ⟨hb5,er,ol,rfl,htr⟩
  obtain ⟨rfl,rfl⟩:=textR_unique (text_of HR.out (by omega)) htr
  have B25:=hide (B24.out.trans (hb5.mono B24.out.size))
  have HMB:Hid (matchB p (some l)=true↔p.Mt l):=mb_iff
  obtain ⟨av,hav⟩:∃ av,matchB p (some l)=av:=⟨_,rfl⟩
  rw [hav] at HMB ⊢
  have HVL:Hid (ValT l):=fun r hr=>runes_all HR.out r hr
  clear hb5 htr HM1 hav
  rcases HLR.out with ⟨t0,hlt,rfl,rfl⟩ | ⟨hno,rfl,rfl⟩
  · have HLT:=hide hlt
    have HR0:=hide (runes_txt hlt.1)
    have zs:(runesBytes t0).size<=12:=by have h1:=runesBytes_size_le t0;have h2:=hlt.2.2.1;omega
    have HM2:=hide (rxmatch_any p HOK.out bx (runesBytes t0) x5 _ (HX.out.below B25.out) (HT2.out.below B25.out).1 (by omega))
    have HL0:Hid (t0.length<=n):=hlt.2.2.1
    clear hlt HLR
    generalize runesBytes t0=s at *
    go_wp2_with fail
    refine HM2.out.mono ?_
    rintro e x6 ⟨hb6,er2,ol2,rfl,htr2⟩
    obtain ⟨rfl,rfl⟩:=textR_unique (text_of HR0.out (by omega)) htr2
    have B26:=hide (B25.out.trans (hb6.mono B25.out.size))
    have X6:=hide (X2.out.trans (B26.out.mono X2.out.size))
    rw [mb_iff.2 HLT.out.2.1]
    clear hb6 htr2 HM2
    have hln:(t0.length:Int)<=(n:Int):=by have:=HL0.out;omega
    have hls:av=true->lessT l t0=false:=fun h=>least_not HLT.out HVL.out (HMB.out.1 h)
    cases av with
    | false =>
      go_wp2_with (go_at_call 32;refine (kcount_runes HR0.out _ (by omega)).mono ?_;rintro e w' ⟨rfl,hw⟩;have hw8:=hw.symm;subst hw8;clear hw)
      go_ret
      exact ⟨rfl,X6.out⟩
    | true =>
      have hl2:=hls rfl
      clear hls
      go_wp2_with (first
        | (go_at_call 32;refine (kcount_runes HR0.out _ (by omega)).mono ?_;rintro e w' ⟨rfl,hw⟩;have hw8:=hw.symm;subst hw8;clear hw)
        | (go_at_call 33;refine (kless_any HR.out HR0.out _ (by omega) (by omega)).mono ?_;rintro e w' ⟨rfl,hw⟩;have hw8:=hw.symm;subst hw8;clear hw;rw [hl2]))
      go_ret
      exact ⟨rfl,X6.out⟩
  · have HNO:=hide hno
    have X5:=hide (X2.out.trans (B25.out.mono X2.out.size))
    clear hno HLR
    cases av with
    | false =>
      go_wp2_with fail
      go_ret
      exact ⟨rfl,X5.out⟩
    | true =>
      have hgt:(n:Int)<(l.length:Int):=by
        have h9:¬ l.length<=n:=fun h=>HNO.out l HVL.out h (HMB.out.1 rfl)
        omega
      go_wp2_with (go_at_call 32;refine (kcount_runes HR.out _ (by omega)).mono ?_;rintro e w' ⟨rfl,hw⟩;have hw8:=hw.symm;subst hw8;clear hw)
      go_ret
      exact ⟨rfl,X5.out⟩
end Go.Proofs.YtpoibdhhcbelnaaGreatDoor
