/- Walks and plain laws, some texts in one. -/
import Derived.Lib.DecodeN
import Derived.Test.YtpoibdhhcbelnaaGreatDoorM03
namespace Go.Proofs.YtpoibdhhcbelnaaGreatDoor
namespace Brm
def byteAt (bs:List UInt8)(k:Nat):Nat:=(bs.getD k 0).toNat
def decL (bs:List UInt8):Nat×Nat:=Lib.decodeN bs.length (byteAt bs 0) (byteAt bs 1) (byteAt bs 2) (byteAt bs 3)
def noRune:Nat×Nat:=(65533,1)
theorem byteAt_lt (bs:List UInt8)(k:Nat):byteAt bs k<256:=(bs.getD k 0).toNat_lt
theorem decL_fit {bs:List UInt8}(hne:bs≠[]):1<=(decL bs).2/\(decL bs).2<=bs.length/\(decL bs).2<=4/\runeB (decL bs).1=true:=by
  have hl:1<=bs.length:=by cases bs with | nil=>exact absurd rfl hne | cons=>simp
  have h0:=byteAt_lt bs 0
  have h1:=byteAt_lt bs 1
  have h2:=byteAt_lt bs 2
  have h3:=byteAt_lt bs 3
  unfold decL Lib.decodeN
  repeat' split
  all_goals simp only [rune_iff]
  all_goals refine ⟨by omega,by omega,by omega,by omega⟩
theorem decL_ascii {bs:List UInt8}(h:(decL bs).1<128):(decL bs).1=byteAt bs 0/\(decL bs).2=1:=by
  unfold decL Lib.decodeN at h ⊢
  revert h
  repeat' split
  all_goals intro h
  all_goals first | (exact ⟨rfl,rfl⟩) | (exfalso;simp only at h;omega)
theorem decL_low {bs:List UInt8}(h:byteAt bs 0<128):decL bs=(byteAt bs 0,1):=by
  unfold decL Lib.decodeN;rw [if_pos h]
inductive Runes:List UInt8->List Int->Prop
  | nil:Runes [] []
  | cons {bs:List UInt8} {c n:Nat} {l:List Int}:bs≠[]->decL bs=(c,n)->(c,n)≠noRune->Runes (bs.drop n) l->Runes bs ((c:Int)::l)
inductive Broken:List UInt8->Nat->Prop
  | here {bs:List UInt8}:bs≠[]->decL bs=noRune->Broken bs 0
  | later {bs:List UInt8} {c n k:Nat}:bs≠[]->decL bs=(c,n)->(c,n)≠noRune->Broken (bs.drop n) k->Broken bs (n+k)
theorem runes_or:∀ (m:Nat) (bs:List UInt8),bs.length<=m->(∃ l,Runes bs l)\/∃ k,Broken bs k
  | 0,bs,h=>by
    have:bs=[]:=List.length_eq_zero_iff.1 (by omega)
    subst this;exact .inl ⟨[],.nil⟩
  | m+1,bs,h=>by
    by_cases hne:bs=[]
    · subst hne;exact .inl ⟨[],.nil⟩
    · have hf:=decL_fit hne
      by_cases hd:decL bs=noRune
      · exact .inr ⟨0,.here hne hd⟩
      · rcases runes_or m (bs.drop (decL bs).2) (by rw [List.length_drop];omega) with ⟨l,hl⟩ | ⟨k,hk⟩
        · exact .inl ⟨_,.cons hne (c:=(decL bs).1) (n:=(decL bs).2) rfl hd hl⟩
        · exact .inr ⟨_,.later hne (c:=(decL bs).1) (n:=(decL bs).2) rfl hd hk⟩
theorem runes_all {bs:List UInt8}{l:List Int}(h:Runes bs l):AllR l:=by
  induction h with
  | nil=>intro c hc;simp at hc
  | cons hne hd hn hr ih =>
    intro d hmem
    rcases List.mem_cons.1 hmem with rfl | hm
    · have:=(decL_fit hne).2.2.2;rw [hd] at this;exact this
    · exact ih d hm
theorem runes_len {bs:List UInt8}{l:List Int}(h:Runes bs l):l.length<=bs.length:=by
  induction h with
  | nil=>simp
  | cons hne hd hn hr ih =>
    have:=decL_fit hne
    rw [hd] at this
    rw [List.length_drop] at ih
    simp only [List.length_cons];simp only at this;omega
theorem runes_unique {bs:List UInt8}{l:List Int}(h:Runes bs l):∀ {l':List Int},Runes bs l'->l'=l:=by
  induction h with
  | nil=>intro l' h';cases h' with | nil=>rfl | cons hne=>exact absurd rfl hne
  | cons hne hd hn hr ih =>
    intro l' h'
    cases h' with
    | nil=>exact absurd rfl hne
    | cons hne' hd' hn' hr' =>
      rw [hd] at hd'
      cases hd'
      rw [ih hr']
theorem runes_not_broken {bs:List UInt8}{l:List Int}(h:Runes bs l):∀ k,¬ Broken bs k:=by
  induction h with
  | nil=>intro k hk;cases hk with | here hne=>exact hne rfl | later hne=>exact hne rfl
  | cons hne hd hn hr ih =>
    intro k hk
    cases hk with
    | here _ hd'=>exact hn (hd.symm.trans hd')
    | later _ hd' hn' hb=>rw [hd] at hd';cases hd';exact ih _ hb
theorem broken_unique {bs:List UInt8}{k:Nat}(h:Broken bs k):∀ {k':Nat},Broken bs k'->k'=k:=by
  induction h with
  | here hne hd =>
    intro k' h'
    cases h' with
    | here=>rfl
    | later _ hd' hn' _=>exact absurd (hd'.symm.trans hd) hn'
  | later hne hd hn hb ih =>
    intro k' h'
    cases h' with
    | here _ hd'=>exact absurd (hd.symm.trans hd') hn
    | later _ hd' hn' hb'=>rw [hd] at hd';cases hd';rw [ih hb']
def posOf:Nat->List UInt8->Nat
  | 0,_=>0
  | j+1,bs=>(decL bs).2+posOf j (bs.drop (decL bs).2)
theorem runes_drop {bs:List UInt8}{l:List Int}(h:Runes bs l):∀ (j:Nat),j<=l.length->Runes (bs.drop (posOf j bs)) (l.drop j)/\posOf j bs<=bs.length:=by
  induction h with
  | nil=>intro j hj;simp at hj;subst hj;exact ⟨.nil,by simp [posOf]⟩
  | @cons bs c n l hne hd hn hr ih =>
    intro j hj
    cases j with
    | zero=>exact ⟨.cons hne hd hn hr,by simp [posOf]⟩
    | succ j =>
      have:=ih j (by simpa using hj)
      have hf:=decL_fit hne
      rw [hd] at hf
      simp only [posOf,hd]
      rw [List.drop_drop] at this
      rw [List.length_drop] at this
      refine ⟨this.1,?_⟩
      simp only at hf
      omega
theorem posOf_succ:∀ (j:Nat) (bs:List UInt8),posOf (j+1) bs=posOf j bs+(decL (bs.drop (posOf j bs))).2
  | 0,bs=>by simp [posOf]
  | j+1,bs=>by
    rw [posOf,posOf_succ j (bs.drop (decL bs).2),posOf,List.drop_drop,Nat.add_assoc]
theorem posOf_all {bs:List UInt8}{l:List Int}(h:Runes bs l):posOf l.length bs=bs.length:=by
  have:=runes_drop h l.length (Nat.le_refl _)
  rw [List.drop_length] at this
  have h2:bs.drop (posOf l.length bs)=[]:=by
    cases hd:bs.drop (posOf l.length bs) with
    | nil=>rfl
    | cons a t =>
      have h3:=this.1
      rw [hd] at h3
      cases h3
  have h4:=List.drop_eq_nil_iff.1 h2
  omega
theorem runes_head {bs:List UInt8}{c:Int}{l:List Int}(h:Runes bs (c::l)):bs≠[]/\((decL bs).1:Int)=c/\decL bs≠noRune/\Runes (bs.drop (decL bs).2) l:=by
  cases h with
  | cons hne hd hn hr=>rw [hd];exact ⟨hne,rfl,hn,hr⟩
end Brm
end Go.Proofs.YtpoibdhhcbelnaaGreatDoor
namespace Go.Proofs.YtpoibdhhcbelnaaGreatDoor
namespace Brm
def contB (b:Nat):Bool:=decide (128<=b/\b<=191)
def okRune (least c:Nat):Bool:=decide (least<=c/\c<=1114111/\¬ (55296<=c/\c<57344))
def num2 (bs:List UInt8):Nat:=64*(byteAt bs 0-192)+(byteAt bs 1-128)
def num3 (bs:List UInt8):Nat:=64*(64*(byteAt bs 0-224)+(byteAt bs 1-128))+(byteAt bs 2-128)
def num4 (bs:List UInt8):Nat:=64*(64*(64*(byteAt bs 0-240)+(byteAt bs 1-128))+(byteAt bs 2-128))+(byteAt bs 3-128)
def firstR (bs:List UInt8):Int×Int:=if decL bs=noRune then (0,0) else (((decL bs).2:Int),((decL bs).1:Int))
def numTo (bs:List UInt8)(base k:Nat):Nat:=match k with | 0=>0 | 1=>byteAt bs 0-base | k+2=>64*numTo bs base (k+1)+(byteAt bs (k+1)-128)
def contTo (bs:List UInt8)(k:Nat):Prop:=∀ j,1<=j->j<k->contB (byteAt bs j)=true
def sizeOf (a:Nat):Nat:=if 192<=a/\a<224 then 2 else if 224<=a/\a<240 then 3 else if 240<=a/\a<248 then 4 else 0
def leastOf (a:Nat):Nat:=if 192<=a/\a<224 then 128 else if 224<=a/\a<240 then 2048 else if 240<=a/\a<248 then 65536 else 0
def baseOf (a:Nat):Nat:=if 192<=a/\a<224 then 192 else if 224<=a/\a<240 then 224 else if 240<=a/\a<248 then 240 else 0
end Brm
end Go.Proofs.YtpoibdhhcbelnaaGreatDoor
namespace Go.Proofs.YtpoibdhhcbelnaaGreatDoor
namespace Brm
theorem decL_pre {bs bs':List UInt8}{c n:Nat}(h:decL bs=(c,n))(hn:(c,n)≠noRune)(hl:n<=bs'.length)(hk:∀ k,k<n->byteAt bs' k=byteAt bs k):decL bs'=(c,n):=by
  unfold decL Lib.decodeN at h
  unfold noRune at hn
  split at h
  · rename_i h1
    cases h
    have e0:=hk 0 (by omega)
    unfold decL Lib.decodeN
    rw [e0,if_pos h1]
  split at h
  · rename_i h1 h2
    split at h
    · rename_i h3
      cases h
      have e0:=hk 0 (by omega)
      have e1:=hk 1 (by omega)
      unfold decL Lib.decodeN
      rw [e0,e1,if_neg h1,if_pos ⟨h2.1,by omega,h2.2.2⟩,if_pos h3]
    · exact absurd h.symm hn
  split at h
  · rename_i h1 h2 h3
    split at h
    · rename_i h4
      cases h
      have e0:=hk 0 (by omega)
      have e1:=hk 1 (by omega)
      have e2:=hk 2 (by omega)
      unfold decL Lib.decodeN
      rw [e0,e1,e2,if_neg h1,if_neg (by omega),if_pos ⟨h3.1,⟨by omega,h3.2.1.2⟩,by omega,h3.2.2.2⟩,if_pos h4]
    · exact absurd h.symm hn
  split at h
  · rename_i h1 h2 h3 h4
    split at h
    · rename_i h5
      cases h
      have e0:=hk 0 (by omega)
      have e1:=hk 1 (by omega)
      have e2:=hk 2 (by omega)
      have e3:=hk 3 (by omega)
      unfold decL Lib.decodeN
      rw [e0,e1,e2,e3,if_neg h1,if_neg (by omega),if_neg (by omega),if_pos ⟨h4.1,⟨by omega,h4.2.1.2⟩,⟨by omega,h4.2.2.1.2⟩,by omega,h4.2.2.2.2⟩,if_pos h5]
    · exact absurd h.symm hn
  · exact absurd h.symm hn
theorem byteAt_append {a b:List UInt8}{k:Nat}(h:k<a.length):byteAt (a++b) k=byteAt a k:=by
  unfold byteAt;rw [List.getD_eq_getElem?_getD,List.getD_eq_getElem?_getD,List.getElem?_append_left h]
theorem decL_le {bs:List UInt8}{c n:Nat}(hne:bs≠[])(h:decL bs=(c,n)):1<=n/\n<=bs.length:=by
  have:=decL_fit hne;rw [h] at this;exact ⟨this.1,this.2.1⟩
theorem runes_append {a b:List UInt8}{l m:List Int}(h:Runes a l)(k:Runes b m):Runes (a++b) (l++m):=by
  induction h with
  | nil=>exact k
  | cons hne hd hn _ ih =>
    rename_i bs c n l _
    have hle:=decL_le hne hd
    refine .cons (by intro e;exact hne (List.append_eq_nil_iff.1 e).1) (decL_pre hd hn (by rw [List.length_append];omega) fun j hj=>byteAt_append (by omega)) hn ?_
    rw [List.drop_append_of_le_length hle.2]
    exact ih
theorem runes_low {b:UInt8}(h:b.toNat<128):Runes [b] [(b.toNat:Int)]:=by
  have hb:byteAt [b] 0=b.toNat:=rfl
  have hd:=decL_low (bs:=[b]) (by rw [hb];exact h)
  rw [hb] at hd
  exact .cons (by simp) hd (by unfold noRune;intro e;have:=congrArg Prod.fst e;simp at this;omega) .nil
theorem runes_lows:∀ {bs:List UInt8},(∀ b∈bs,b.toNat<128)->Runes bs (bs.map fun b=>(b.toNat:Int))
  | [],_=>.nil
  | b::bs,h=>runes_append (runes_low (h b (by simp))) (runes_lows fun x hx=>h x (by simp [hx]))
theorem runes_e:Runes [195,169] [233]:=by
  refine .cons (c:=233) (n:=2) (by simp) rfl (by decide) .nil
end Brm
end Go.Proofs.YtpoibdhhcbelnaaGreatDoor
namespace Go.Proofs.YtpoibdhhcbelnaaGreatDoor
namespace Brm
mutual
def Cl:Pat->Prop
  | .set _=>True
  | .row l=>ClL l
  | .or l=>ClL l
  | .and l=>l.length=1/\ClL l
  | .not _=>False
  | .many p _ _=>Cl p
  | .group p=>Cl p
def ClL:List Pat->Prop
  | []=>True
  | p::l=>Cl p/\ClL l
end
theorem clL_snoc:∀ {l:List Pat} {p:Pat},ClL l->Cl p->ClL (l++[p])
  | [],_,_,hp=>⟨hp,trivial⟩
  | _::_,_,h,hp=>⟨h.1,clL_snoc h.2 hp⟩
def GoodA (k:Nat)(bs:List UInt8):Prop:=∃ l p,Runes bs l/\AtomW l p/\p.deep<=k/\Cl p
def GoodR (k:Nat)(bs:List UInt8):Prop:=∃ l ps,Runes bs l/\RowW l ps/\deepL ps<=k/\ClL ps
def Whole (k:Nat)(bs:List UInt8)(p:Pat):Prop:=∃ l,Runes bs l/\OrU l p/\p.deep<=k
def GoodP (k:Nat)(bs:List UInt8):Prop:=∃ p,Whole k bs p/\Cl p
theorem GoodA.mono {k k':Nat}{bs:List UInt8}(h:GoodA k bs)(hk:k<=k'):GoodA k' bs:=by obtain ⟨l,p,h1,h2,h3,h4⟩:=h;exact ⟨l,p,h1,h2,by omega,h4⟩
def sfxs:List (List UInt8):=[[],[],[42],[43],[63],[123,50,125],[123,49,44,50,125]]
def atoms:List (List UInt8):=[[97],[98],[99],[46],[91,97,98,93],[91,94,97,93],[195,169],[92,100],[40,97,98,41]]
theorem atoms_good {a:List UInt8}(h:a∈atoms):GoodA 1 a:=by
  simp only [atoms,List.mem_cons,List.not_mem_nil,or_false] at h
  rcases h with rfl | rfl | rfl | rfl | rfl | rfl | rfl | rfl | rfl
  · exact ⟨[97],_,runes_lows (by decide),atom_char rfl,by simp [Pat.deep],by simp [Cl]⟩
  · exact ⟨[98],_,runes_lows (by decide),atom_char rfl,by simp [Pat.deep],by simp [Cl]⟩
  · exact ⟨[99],_,runes_lows (by decide),atom_char rfl,by simp [Pat.deep],by simp [Cl]⟩
  · exact ⟨[46],_,runes_lows (by decide),atom_dot,by simp [Pat.deep],by simp [Cl]⟩
  · exact ⟨[91,97,98,93],_,runes_lows (by decide),atom_ab,by simp [Pat.deep],by simp [Cl]⟩
  · exact ⟨[91,94,97,93],_,runes_lows (by decide),atom_nota,by simp [Pat.deep],by simp [Cl]⟩
  · exact ⟨[233],_,runes_e,atom_char rfl,by simp [Pat.deep],by simp [Cl]⟩
  · exact ⟨[92,100],_,runes_lows (by decide),atom_digit,by simp [Pat.deep],by simp [Cl]⟩
  · refine ⟨[40,97,98,41],_,runes_lows (by decide),OrU.group (l:=[97,98]) ⟨_,rfl,.one ⟨_,rfl,.one ⟨_,rfl,.cons (l:=[97]) (atom_char rfl).core.item (.one (l:=[98]) (atom_char rfl).core.item)⟩⟩⟩,?_⟩
    simp [Pat.deep,deepL,Cl,ClL]
theorem sfx_good {a s:List UInt8}{k:Nat}(h:GoodA k a)(hs:s∈sfxs):∃ l p,Runes (a++s) l/\ItemW l p/\p.deep<=k/\Cl p:=by
  obtain ⟨l,p,h1,h2,h3,h4⟩:=h
  have go:∀ {t:List UInt8} {mn:Int×Int},(∀ b∈t,b.toNat<128)->TimesW (t.map fun b=>(b.toNat:Int)) mn->∃ l p,Runes (a++t) l/\ItemW l p/\p.deep<=k/\Cl p :=
    fun {t mn} ht hw=>⟨_,_,runes_append h1 (runes_lows ht),(h2.core.many hw).item,by simpa [Pat.deep] using h3,by simpa [Cl] using h4⟩
  simp only [sfxs,List.mem_cons,List.not_mem_nil,or_false] at hs
  rcases hs with rfl | rfl | rfl | rfl | rfl | rfl | rfl
  · exact ⟨l,p,by simpa using h1,h2.core.item,h3,h4⟩
  · exact ⟨l,p,by simpa using h1,h2.core.item,h3,h4⟩
  · exact go (by decide) times_star
  · exact go (by decide) times_plus
  · exact go (by decide) times_maybe
  · exact go (by decide) times_two
  · exact go (by decide) times_onetwo
theorem good_nil (k:Nat):GoodR k []:=⟨[],[],.nil,.nil,by simp [deepL],by simp [ClL]⟩
theorem good_snoc {k:Nat}{r a s:List UInt8}(h:GoodR k r)(ha:GoodA k a)(hs:s∈sfxs):GoodR k (r++a++s):=by
  obtain ⟨l,ps,h1,h2,h3,h4⟩:=h
  obtain ⟨m,p,k1,k2,k3,k4⟩:=sfx_good ha hs
  exact ⟨l++m,ps++[p],by rw [List.append_assoc];exact runes_append h1 k1,h2.snoc k2,by rw [deepL_snoc];omega,clL_snoc h4 k4⟩
theorem good_end {k:Nat}{r:List UInt8}(h:GoodR k r):GoodP k r:=by
  obtain ⟨l,ps,h1,h2,h3,h4⟩:=h
  exact ⟨_,⟨l,h1,⟨_,rfl,.one ⟨_,rfl,.one ⟨_,rfl,h2⟩⟩⟩,by simp [Pat.deep,deepL];omega⟩,by simpa [Cl,ClL] using h4⟩
theorem good_bar {k:Nat}{r a:List UInt8}(h:GoodR k r)(ha:GoodA k a):GoodP k (r++[124]++a):=by
  obtain ⟨l,ps,h1,h2,h3,h4⟩:=h
  obtain ⟨m,p,k1,k2,k3,k4⟩:=ha
  refine ⟨_,⟨l++124::m,?_,⟨_,rfl,.cons ⟨_,rfl,.one ⟨_,rfl,h2⟩⟩ (.one ⟨_,rfl,.one ⟨_,rfl,.one k2.core.item⟩⟩)⟩,by simp [Pat.deep,deepL];omega⟩,by simp [Cl,ClL,h4,k4]⟩
  have:=runes_append (runes_append h1 (runes_low (b:=124) (by decide))) k1
  rw [List.append_assoc l] at this
  exact this
theorem good_group {k:Nat}{bs:List UInt8}(h:GoodP k bs):GoodA (k+1) ([40]++bs++[41]):=by
  obtain ⟨p,⟨l,h1,h2,h3⟩,h4⟩:=h
  refine ⟨_,_,?_,h2.group,by simp [Pat.deep];omega,by simpa [Cl] using h4⟩
  have:=runes_append (runes_append (runes_low (b:=40) (by decide)) h1) (runes_low (b:=41) (by decide))
  rw [List.append_assoc [_]] at this
  exact this
theorem runes_group {bs:List UInt8}{l:List Int}(h:Runes bs l):Runes ([40]++bs++[41]) (40::(l++[41])):=by
  have:=runes_append (runes_append (runes_low (b:=40) (by decide)) h) (runes_low (b:=41) (by decide))
  rw [List.append_assoc [_]] at this
  exact this
theorem good_not {k:Nat}{a:List UInt8}{p:Pat}(h:Whole k a p):Whole (k+2) ([126,40]++a++[41]) (oneP (.not (.group p))):=by
  obtain ⟨l,h1,h2,h3⟩:=h
  refine ⟨_,?_,whole_not h2,by simp [oneP,Pat.deep,deepL];omega⟩
  have:=runes_append (runes_low (b:=126) (by decide)) (runes_group h1)
  simpa using this
def Yes (p:Pat)(bs:List UInt8):Prop:=∃ l,Runes bs l/\p.Mt l
def IsV (p:Pat)(bs:List UInt8)(v:Int):Prop:=(Yes p bs/\v=1)\/(¬ Yes p bs/\(∃ l,Runes bs l)/\v=0)\/(¬ Yes p bs/\v=2/\¬ ∃ l,Runes bs l)
end Brm
end Go.Proofs.YtpoibdhhcbelnaaGreatDoor
