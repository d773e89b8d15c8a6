import Derived.Lib.DecodeN
import Derived.Test.YtebnghmioamheaaGreatDoorM04
set_option linter.all false
namespace Go.Proofs.YtebnghmioamheaaGreatDoor
variable {bs:List UInt8}
namespace Brm
def am (bs:List UInt8)(k:Nat):Nat:=(bs.getD k 0).toNat
def aS (bs:List UInt8):Nat×Nat:=Lib.decodeN bs.length (am bs 0) (am bs 1) (am bs 2) (am bs 3)
def cx:Nat×Nat:=(65533,1)
theorem dE (bs:List UInt8)(k:Nat):am bs k<256:=(bs.getD k 0).toNat_lt
theorem fj (hne:bs≠[]):1<=(aS bs).2/\(aS bs).2<=bs.length/\(aS bs).2<=4/\runeB (aS bs).1=true:=by
 have b:1<=bs.length:=by cases bs with|nil=>exact absurd rfl hne|cons=>simp
 have c:=dE bs 0;have a:=dE bs 1;have e:=dE bs 2;have d:=dE bs 3;unfold aS Lib.decodeN
 repeat' split
 all_goals simp only[rune_iff]
 all_goals refine⟨by omega,by omega,by omega,by omega⟩
theorem KO (h:(aS bs).1<128):(aS bs).1=am bs 0/\(aS bs).2=1:=by
 unfold aS Lib.decodeN at h ⊢;revert h
 repeat' split
 all_goals intro h
 all_goals first|(exact⟨rfl,rfl⟩)|(exfalso;simp only at h;omega)
theorem En (h:am bs 0<128):aS bs=(am bs 0,1):=by
 unfold aS Lib.decodeN;rw[zX h]
inductive Runes:List UInt8->List Int->Prop
 |nil:Runes [] []
 |cons {bs:List UInt8} {c n:Nat} {l:List Int}:bs≠[]->aS bs=(c,n)->(c,n)≠cx->Runes (bs.drop n) l->Runes bs ((c:Int)::l)
inductive Broken:List UInt8->Nat->Prop
 |here {bs:List UInt8}:bs≠[]->aS bs=cx->Broken bs 0
 |later {bs:List UInt8} {c n k:Nat}:bs≠[]->aS bs=(c,n)->(c,n)≠cx->Broken (bs.drop n) k->Broken bs (n+k)
theorem Eo:∀(m:Nat) (bs:List UInt8),bs.length<=m->(∃l,Runes bs l)\/∃k,Broken bs k
 |0,bs,h=>by
  have:bs=[]:=zq.1 (by omega);subst this;exact .inl ⟨[],.nil⟩
 |m+1,bs,h=>by
  by_cases a:bs=[]
  ·subst a;exact .inl ⟨[],.nil⟩
  ·have d:=fj a;by_cases b:aS bs=cx
   ·exact .inr ⟨0,.here a b⟩
   ·rcases Eo m (bs.drop (aS bs).2) (by rw[yO];omega)with⟨l,hl⟩|⟨k,hk⟩
    ·exact .inl ⟨_,.cons a (c:=(aS bs).1) (n:=(aS bs).2) rfl b hl⟩
    ·exact .inr ⟨_,.later a (c:=(aS bs).1) (n:=(aS bs).2) rfl b hk⟩
theorem db {l:LZ}(h:Runes bs l):dh l:=by
 induction h with
 |nil=>intro c e;simp at e
 |cons hne hd hn hr ih=>
  intro d a;rcases zO.1 a with rfl|b
  ·have:=(fj hne).2.2.2;rw[hd]at this;exact this
  ·exact ih d b
theorem eB {l:LZ}(h:Runes bs l):l.length<=bs.length:=by
 induction h with
 |nil=>simp
 |cons hne hd hn hr ih=>
  have:=fj hne;rw[hd]at this;rw[yO]at ih;simp only[zG];simp only at this;omega
theorem sF {l:LZ}(h:Runes bs l):∀{l':LZ},Runes bs l'->l'=l:=by
 induction h with
 |nil=>intro l' a;cases a with|nil=>rfl|cons hne=>exact absurd rfl hne
 |cons hne hd hn hr ih=>
  intro l' a;cases a with
  |nil=>exact absurd rfl hne
  |cons hne' hd' hn' hr'=>
   rw[hd]at hd';cases hd';rw[ih hr']
theorem gG {l:LZ}(h:Runes bs l):∀k,¬Broken bs k:=by
 induction h with
 |nil=>intro k a;cases a with|here hne=>exact hne rfl|later hne=>exact hne rfl
 |cons hne hd hn hr ih=>
  intro k a;cases a with
  |here _ hd'=>exact hn (hd.symm.trans hd')
  |later _ hd' hn' hb=>rw[hd]at hd';cases hd';exact ih _ hb
theorem Do {k:Nat}(h:Broken bs k):∀{k':Nat},Broken bs k'->k'=k:=by
 induction h with
 |here hne hd=>
  intro k' a;cases a with
  |here=>rfl
  |later _ hd' hn' _=>exact absurd (hd'.symm.trans hd) hn'
 |later hne hd hn hb ih=>
  intro k' a;cases a with
  |here _ hd'=>exact absurd (hd.symm.trans hd') hn
  |later _ hd' hn' hb'=>rw[hd]at hd';cases hd';rw[ih hb']
def aC:Nat->List UInt8->Nat
 |0,_=>0
 |j+1,bs=>(aS bs).2+aC j (bs.drop (aS bs).2)
theorem runes_drop {l:LZ}(h:Runes bs l):∀(j:Nat),j<=l.length->Runes (bs.drop (aC j bs)) (l.drop j)/\aC j bs<=bs.length:=by
 induction h with
 |nil=>intro j a;simp at a;subst a;exact⟨.nil,by simp[aC]⟩
 | @cons bs c n l hne hd hn hr ih=>
  intro j a;cases j with
  |zero=>exact⟨.cons hne hd hn hr,by simp[aC]⟩
  |succ j=>
   have:=ih j (by simpa using a);have b:=fj hne;rw[hd]at b;simp only[aC,hd];rw[List.drop_drop]at this;rw[yO]at this;refine⟨this.1,?_⟩;simp only at b;omega
theorem mI:∀(j:Nat) (bs:List UInt8),aC (j+1) bs=aC j bs+(aS (bs.drop (aC j bs))).2
 |0,bs=>by simp[aC]
 |j+1,bs=>by
  rw[aC,mI j (bs.drop (aS bs).2),aC,List.drop_drop,xG]
theorem NQ {l:LZ}(h:Runes bs l):aC l.length bs=bs.length:=by
 have:=runes_drop h l.length (zA _);rw[List.drop_length]at this;have c:bs.drop (aC l.length bs)=[]:=by
  cases hd:bs.drop (aC l.length bs)with
  |nil=>rfl
  |cons a t=>
   have b:=this.1;rw[hd]at b;cases b
 have d:=List.drop_eq_nil_iff.1 c;omega
theorem KP {c:Int}{l:LZ}(h:Runes bs (c::l)):bs≠[]/\((aS bs).1:Int)=c/\aS bs≠cx/\Runes (bs.drop (aS bs).2) l:=by
 cases h with
 |cons hne hd hn hr=>rw[hd];exact⟨hne,rfl,hn,hr⟩
end Brm
namespace Brm
def dF (b:Nat):Bool:=decide (128<=b/\b<=191)
theorem iS {b:Nat}:dF b=true↔128<=b/\b<=191:=by simp[dF]
def gY (least c:Nat):Bool:=decide (least<=c/\c<=1114111/\¬(55296<=c/\c<57344))
theorem fD {least c:Nat}:gY least c=true↔(least<=c/\c<=1114111/\¬(55296<=c/\c<57344)):=by simp only[gY,zY]
def LJ (bs:List UInt8):Nat:=64*(am bs 0-192)+(am bs 1-128)
def LK (bs:List UInt8):Nat:=64*(64*(am bs 0-224)+(am bs 1-128))+(am bs 2-128)
def LL (bs:List UInt8):Nat:=64*(64*(64*(am bs 0-240)+(am bs 1-128))+(am bs 2-128))+(am bs 3-128)
theorem Su (h:(128<=am bs 0/\am bs 0<192)\/248<=am bs 0):aS bs=cx:=by
 have a:=dE bs 0;unfold aS Lib.decodeN cx;rw[zR (by omega),zR (by omega),zR (by omega),zR (by omega)]
theorem VL (h1:192<=am bs 0)(h2:am bs 0<224):aS bs=if 2<=bs.length/\dF (am bs 1)=true/\gY 128 (LJ bs)=true then (LJ bs,2)else cx:=by
 have a:=dE bs 1;simp only[iS,fD];unfold aS Lib.decodeN cx LJ;rw[zR (by omega)];by_cases c:1<bs.length/\am bs 1 / 64=2
 ·rw[zX ⟨by omega,c⟩];by_cases d:am bs 0 % 32*64+am bs 1 % 64≥128
  ·rw[zX d,zX (by omega)];exact Prod.ext (by simp only;omega) rfl
  ·rw[zR d,zR (by omega)]
 ·rw[zR (by omega),zR (by omega),zR (by omega),zR (by omega)]
theorem OY (h1:224<=am bs 0)(h2:am bs 0<240) :
  aS bs=if 3<=bs.length/\dF (am bs 1)=true/\dF (am bs 2)=true/\gY 2048 (LK bs)=true then (LK bs,3)else cx:=by
 have a:=dE bs 1;have b:=dE bs 2;simp only[iS,fD];unfold aS Lib.decodeN cx LK;rw[zR (by omega),zR (by omega)];by_cases c:(1<bs.length/\am bs 1 / 64=2)/\(2<bs.length/\am bs 2 / 64=2)
 ·rw[zX ⟨by omega,c⟩]
  split
  ·rw[zX (by omega)];exact Prod.ext (by simp only;omega) rfl
  ·rw[zR (by omega)]
 ·rw[zR (by omega),zR (by omega),zR (by omega)]
theorem Sv (h1:240<=am bs 0)(h2:am bs 0<248) :
  aS bs=if 4<=bs.length/\dF (am bs 1)=true/\dF (am bs 2)=true/\dF (am bs 3)=true/\gY 65536 (LL bs)=true then (LL bs,4)else cx:=by
 have b:=dE bs 1;have d:=dE bs 2;have a:=dE bs 3;simp only[iS,fD];unfold aS Lib.decodeN cx LL;rw[zR (by omega),zR (by omega),zR (by omega)];by_cases c:(1<bs.length/\am bs 1 / 64=2)/\(2<bs.length/\am bs 2 / 64=2)/\(3<bs.length/\am bs 3 / 64=2)
 ·rw[zX ⟨by omega,c⟩]
  split
  ·rw[zX (by omega)];exact Prod.ext (by simp only;omega) rfl
  ·rw[zR (by omega)]
 ·rw[zR (by omega),zR (by omega)]
def dm (bs:List UInt8):Int×Int:=if aS bs=cx then (0,0)else (((aS bs).2:Int),((aS bs).1:Int))
def ey (bs:List UInt8)(base k:Nat):Nat:=match k with|0=>0|1=>am bs 0-base|k+2=>64*ey bs base (k+1)+(am bs (k+1)-128)
def jD (bs:List UInt8)(k:Nat):Prop:=∀j,1<=j->j<k->dF (am bs j)=true
theorem VM (h:dF (am bs 1)=true):jD bs 2:=by
 intro j b a;have:j=1:=by omega
 subst this;exact h
theorem VN (h:dF (am bs 1)=true)(k:dF (am bs 2)=true):jD bs 3:=by
 intro j b a;have:j=1\/j=2:=by omega
 rcases this with rfl|rfl
 ·exact h
 ·exact k
theorem VO (h:dF (am bs 1)=true)(k:dF (am bs 2)=true)(m:dF (am bs 3)=true):jD bs 4:=by
 intro j b a;have:j=1\/j=2\/j=3:=by omega
 rcases this with rfl|rfl|rfl
 ·exact h
 ·exact k
 ·exact m
def sizeOf (a:Nat):Nat:=if 192<=a/\a<224 then 2 else if 224<=a/\a<240 then 3 else if 240<=a/\a<248 then 4 else 0
def leastOf (a:Nat):Nat:=if 192<=a/\a<224 then 128 else if 224<=a/\a<240 then 2048 else if 240<=a/\a<248 then 65536 else 0
def baseOf (a:Nat):Nat:=if 192<=a/\a<224 then 192 else if 224<=a/\a<240 then 224 else if 240<=a/\a<248 then 240 else 0
theorem OZ (h:am bs 0<128):dm bs=(1,(am bs 0:Int)):=by
 unfold dm;rw[En h,zR (by unfold cx;intro e;simp at e;omega)];rfl
theorem mg (h:aS bs=cx):dm bs=(0,0):=by unfold dm;rw[zX h]
theorem wG (hs:sizeOf (am bs 0)≠0):(aS bs=(ey bs (baseOf (am bs 0)) (sizeOf (am bs 0)),sizeOf (am bs 0))/\aS bs≠cx/\sizeOf (am bs 0)<=bs.length/\jD bs (sizeOf (am bs 0))/\gY (leastOf (am bs 0)) (ey bs (baseOf (am bs 0)) (sizeOf (am bs 0)))=true) \/
  (aS bs=cx/\¬(sizeOf (am bs 0)<=bs.length/\jD bs (sizeOf (am bs 0))/\gY (leastOf (am bs 0)) (ey bs (baseOf (am bs 0)) (sizeOf (am bs 0)))=true)):=by
 have g:∀a n:Nat,2<=n->(a,n)≠cx:=λa n h e=>by unfold cx at e;cases e;omega
 by_cases b:192<=am bs 0/\am bs 0<224
 ·rw[show sizeOf (am bs 0)=2 from zX b,show leastOf (am bs 0)=128 from zX b,show baseOf (am bs 0)=192 from zX b];rw[VL b.1 b.2];by_cases d:2<=bs.length/\dF (am bs 1)=true/\gY 128 (LJ bs)=true
  ·rw[zX d];exact .inl ⟨rfl,g _ _ (by omega),d.1,VM d.2.1,d.2.2⟩
  ·rw[zR d];exact .inr ⟨rfl,λh=>d ⟨h.1,h.2.1 1 (by omega) (by omega),h.2.2⟩⟩
 ·by_cases c:224<=am bs 0/\am bs 0<240
  ·rw[show sizeOf (am bs 0)=3 from (zR b).trans (zX c),show leastOf (am bs 0)=2048 from (zR b).trans (zX c),show baseOf (am bs 0)=224 from (zR b).trans (zX c)];rw[OY c.1 c.2];by_cases d:3<=bs.length/\dF (am bs 1)=true/\dF (am bs 2)=true/\gY 2048 (LK bs)=true
   ·rw[zX d];exact .inl ⟨rfl,g _ _ (by omega),d.1,VN d.2.1 d.2.2.1,d.2.2.2⟩
   ·rw[zR d];exact .inr ⟨rfl,λh=>d ⟨h.1,h.2.1 1 (by omega) (by omega),h.2.1 2 (by omega) (by omega),h.2.2⟩⟩
  ·by_cases f:240<=am bs 0/\am bs 0<248
   ·rw[show sizeOf (am bs 0)=4 from (zR b).trans ((zR c).trans (zX f)),show leastOf (am bs 0)=65536 from (zR b).trans ((zR c).trans (zX f)),show baseOf (am bs 0)=240 from (zR b).trans ((zR c).trans (zX f))];rw[Sv f.1 f.2];by_cases d:4<=bs.length/\dF (am bs 1)=true/\dF (am bs 2)=true/\dF (am bs 3)=true/\gY 65536 (LL bs)=true
    ·rw[zX d];exact .inl ⟨rfl,g _ _ (by omega),d.1,VO d.2.1 d.2.2.1 d.2.2.2.1,d.2.2.2.2⟩
    ·rw[zR d];exact .inr ⟨rfl,λh=>d ⟨h.1,h.2.1 1 (by omega) (by omega),h.2.1 2 (by omega) (by omega),h.2.1 3 (by omega) (by omega),h.2.2⟩⟩
   ·exact absurd ((zR b).trans ((zR c).trans (zR f))) hs
end Brm
namespace Brm
mutual
def Cl:Pat->Prop
 |.set _=>True
 |.row l=>NE l
 |.or l=>NE l
 |.and l=>l.length=1/\NE l
 |.not _=>False
 |.many p _ _=>Cl p
 |.group p=>Cl p
def NE:List Pat->Prop
 | []=>True
 |p::l=>Cl p/\NE l
end
def ZF (k:Nat)(bs:List UInt8):Prop:=∃l p,Runes bs l/\UI l p/\p.deep<=k/\Cl p
def Yl (k:Nat)(bs:List UInt8):Prop:=∃l ps,Runes bs l/\RowW l ps/\ce ps<=k/\NE ps
def DF (k:Nat)(bs:List UInt8)(p:Pat):Prop:=∃l,Runes bs l/\ZD l p/\p.deep<=k
def ZG (k:Nat)(bs:List UInt8):Prop:=∃p,DF k bs p/\Cl p
def ZR:List (List UInt8):=[[],[],[42],[43],[63],[123,50,125],[123,49,44,50,125]]
def DG:List (List UInt8):=[[97],[98],[99],[46],[91,97,98,93],[91,94,97,93],[195,169],[92,100],[40,97,98,41]]
def Xh (p:Pat)(bs:List UInt8):Prop:=∃l,Runes bs l/\p.Mt l
def IsV (p:Pat)(bs:List UInt8)(v:Int):Prop:=(Xh p bs/\v=1)\/(¬Xh p bs/\(∃l,Runes bs l)/\v=0)\/(¬Xh p bs/\v=2/\¬∃l,Runes bs l)
end Brm
