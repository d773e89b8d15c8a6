import Derived.Deep.OwnRows
import Derived.Test.YtebnghmioamheaaGreatDoorM22
set_option maxHeartbeats 4000000
set_option maxRecDepth 100000
set_option linter.all false
namespace Go.Proofs.YtebnghmioamheaaGreatDoor
open Go.Shelf Go.RowKit Go.Lib Brm Tryz
variable {w wr:World}{k g bp bm n:Nat}
theorem Rs (z:Value)(n:Nat):madeCells #[z] n=(List.replicate n z).toArray:=by
 apply Array.ext';refine List.ext_getElem? λi=>?_;simp only[madeCells,Array.toList_map,Array.toList_range,zg];by_cases h:i<n
 ·rw[List.getElem?_range h];simp[Nat.mod_one,h]
 ·rw[List.getElem?_eq_none (by simp;omega)];simp[h]
theorem Ev:(prog.info? 208).map (λi=>(i.zero,i.size,i.bytes))=some (some (Vz),1,24):=by kernel_rfl
theorem Ew:(prog.info? 184).map (λi=>(i.zero,i.size,i.bytes))=some (some (.int .u64 0),1,8):=by kernel_rfl
theorem vY {ops:Array Oper}{rest:List Oper}{o:Oper}{a:Act}{Q:Exit->Act->World->Prop}(hg:o.guard=none)(l c:Operand)(t:TypeId)(hop:o.op=Op.makeSlice t l c)
  (e:TypeId) (z:Value) (by_:Nat) (ht:prog.underlying t=some (.slice e)) (hinfo:(prog.info? e).map (λi=>(i.zero,i.size,i.bytes))=some (some z,1,by_)) (hz1:z.cells=#[z])
  (n:Nat) (hl:a.eval l=Vi (n:Int)) (hc:a.eval c=Vi (n:Int)) (hbytes:by_*n<=281474976710656) (h63:n<=9223372036854775807)
  (hK:wpList prog ops Q rest (a.put o.dst (Vs w.heap.size n n)) (w.alloc (.cells (List.replicate n z).toArray e))) :
  wpList prog ops Q (o::rest) a w:=by
 obtain⟨i,f,b⟩:=Option.map_eq_some_iff.1 hinfo;simp only[Prod.mk.injEq]at b;obtain⟨d,h,g⟩:=b;refine wpList_make_row w hg l c t hop e i z ht f d h hz1 .i64 .i64 n hl hc (by rw[g];exact hbytes) h63 ?_;rw[Rs];exact hK
def TK (w wr:World)(rows cols k:Nat):Prop:=Below w.heap.size w wr/\wr.heap.size=w.heap.size+1+k/\(∃cs,ag wr w.heap.size cs 208/\cs.length=rows/\∀i,i<rows->cs[i]?=some (if i<k then .slice (some (aD (w.heap.size+1+i) 0)) cols cols else Vz))/\∀i,i<k->ag wr (w.heap.size+1+i) (List.replicate cols (.int .u64 0)) 184
theorem TK.start (w:World)(rows cols:Nat):TK w (w.alloc (.cells (List.replicate rows (Vz)).toArray 208)) rows cols 0 :=
 ⟨(zE _ _).alloc (zA _) _,by simp,⟨_,ag.new w _ 208,by simp,λi a=>by simp[a]⟩,λi a=>absurd a (Nat.not_lt_zero _)⟩
theorem TK.step {rows cols:Nat}(h:TK w wr rows cols k)(hk:k<rows):TK w ((wr.alloc (.cells (List.replicate cols (.int .u64 0)).toArray 184)).setCell (aD w.heap.size k) (Vs wr.heap.size cols cols)) rows cols (k+1):=by
 obtain⟨j,c,⟨m,e,l,g⟩,f⟩:=h;refine⟨(j.alloc (by omega) _).setCell (zA _) _,by simp[World.setCell];omega,⟨_,(e.alloc _).set k _,by simp[l],λi d=>?_⟩,λi d=>?_⟩
 ·rw[List.getElem?_set];by_cases b:k=i
  ·subst b;rw[zX rfl,zX (by omega),c,zX (by omega)]
  ·rw[zR b,g i d];by_cases a:i<k
   ·rw[zX a,zX (by omega)]
   ·rw[zR a,zR (by omega)]
 ·by_cases b:i=k
  ·subst b;have:=ag.new wr (List.replicate cols (.int .u64 0)) 184;rw[c]at this;exact this.setOther (p:=(aD w.heap.size i)) (by simp;omega) _
  ·exact ((f i (by omega)).alloc _).setOther (p:=(aD w.heap.size k)) (by simp;omega) _
theorem TK.cell {w wr:World}{rows cols k:Nat}(h:TK w wr rows cols k){i:Nat}(hi:i<rows):wr.cell? (aD w.heap.size i)=some (if i<k then .slice (some (aD (w.heap.size+1+i) 0)) cols cols else Vz)/\wr.frozen? (aD w.heap.size i)=false/\w.heap.size<wr.heap.size:=by
 obtain⟨f,c,⟨d,a,g,b⟩,e⟩:=h;exact⟨by rw[a.cell,b i hi],a.frozen i,by omega⟩
theorem Oc (rows cols:Nat)(w:World)(hr:rows<=1000000)(hc:cols<=41):Calls prog 96 #[Vi rows,Vi cols] w λe w'=>e=.returned (Vs w.heap.size rows rows)/\TK w w' rows cols rows:=by
 have c:=aa (TK.start w rows cols);generalize hW:w.alloc (.cells (List.replicate rows (Vz)).toArray 208)=W0 at c;have d:=aa hW;go_enter func96,ntmps96;go_wp2_with (at_make;refine vY rfl _ _ 185 rfl 208 (Vz) 24 underlying185 Ev rfl rows rfl rfl (by omega) (by omega) ?_;rw[d.out])
 go_loopw [11] (λix wr=>∃k:Nat,k<=rows/\ix=Vi k/\TK w wr rows cols k) (λix _=>rows-(intOf ix).toNat)
 case atStart=>exact⟨0,zW _,rfl,c⟩
 case round=>
  obtain⟨k,s,rfl,b⟩:=hrel;have l:=aa b;have r:(0:Int)<=(k:Int):=zK _;by_cases a:k<rows
  ·obtain⟨h,n,g⟩:=b.cell a;rw[zR (Nat.lt_irrefl k)]at h;have o:(wr.alloc (.cells (List.replicate cols (.int .u64 0)).toArray 184)).cell? (aD w.heap.size k)=some (Vz):=(((zE _ wr).alloc (zA _) _).cell (p:=(aD w.heap.size k)) g).trans h;have m:(wr.alloc (.cells (List.replicate cols (.int .u64 0)).toArray 184)).frozen? (aD w.heap.size k)=false:=(((zE _ wr).alloc (zA _) _).frozen (p:=(aD w.heap.size k)) g).trans n;have i:=aa (b.step a);generalize hW:wr.alloc (.cells (List.replicate cols (.int .u64 0)).toArray 184)=W1 at o m i;have j:=aa hW;have q:(k:Int)<(rows:Int):=by omega
   go_wp2_with (at_make;refine vY rfl _ _ 208 rfl 184 (.int .u64 0) 8 underlying208 Ew rfl cols rfl rfl (by omega) (by omega) ?_;rw[j.out])
   go_roundw
   case rel=>exact⟨k+1,by omega,by go_num,i⟩
   case measure=>simp[intOf];omega
  ·have f:k=rows:=by omega
   subst f;have q:decide (k<k)=false:=zI a;go_wp2;go_ret;exact⟨rfl,l⟩
theorem kU.mono {A A':NP}{L:List Pat}{p:Pat}{f:Value}{Q Q':Value->Prop}(k:∀g,g<w.heap.size->A g->A' g)(hQ:∀e,Q e->Q' e)(h:kU w A L p f Q):kU w A' L p f Q':=by
 obtain⟨i,d,e,a,rfl,m,o,b,c,n,l,j⟩:=h;exact⟨i,d,e,a,rfl,k _ b.lt m,k _ c.lt o,b,c,n,l,hQ e j⟩
theorem Bx.mono {A A':NP}{w:World}{F n:Nat}{xs:LV}(k:∀g,g<w.heap.size->A g->A' g)(e:Value)(h:Bx w A F n xs e):Bx w A' F n xs e:=by
 obtain⟨d,b,rfl,c,a,f⟩:=h;exact⟨d,b,rfl,k _ a.lt c,a,f.mono k⟩
mutual
theorem EV.mono {A A':NP}{w:World}{L:List Pat}(k:∀g,g<w.heap.size->A g->A' g):∀(p:Pat) (f:Value),EV w A L p f->EV w A' L p f
 |.set s,f,h=>by obtain⟨b,I,e,D,z,G⟩:=h;exact⟨b,I,e,k _ z.lt D,z,G.mono k⟩
 |.row l,f,h=>by obtain⟨i,c,d,a⟩:=h;exact⟨i,c,cM.mono k l c d,a.mono k (Bx.mono k)⟩
 |.or l,f,h=>by
  obtain⟨i,c,d,a⟩:=h;refine⟨i,c,cM.mono k l c d,?_⟩;rcases a with a|⟨q,a⟩
  ·exact .inl a
  ·exact .inr ⟨q,a.mono k (Bx.mono k)⟩
 |.and l,f,h=>by
  obtain⟨i,c,d,a⟩:=h;refine⟨i,c,cM.mono k l c d,?_⟩;rcases a with a|⟨q,a⟩
  ·exact .inl a
  ·exact .inr ⟨q,a.mono k (Bx.mono k)⟩
 |.not p,f,h=>by
  obtain⟨g,t,o,a⟩:=h;exact⟨g,t,EV.mono k p g o,a.mono k (λe v=>by obtain⟨F,r,u,j⟩:=v;exact⟨F,r,k _ j.lt u,j⟩)⟩
 |.many p m n,f,h=>by
  obtain⟨g,t,o,a⟩:=h;exact⟨g,t,EV.mono k p g o,a.mono k (λe v=>by obtain⟨E,H,J,r,C,u,j,x,B,y⟩:=v;exact⟨E,H,J,r,k _ x.lt C,k _ B.lt u,k _ y.lt j,x,B,y⟩)⟩
 |.group p,f,h=>EV.mono (L:=L) k p f h
theorem cM.mono {A A':NP}{w:World}{L:List Pat}(k:∀g,g<w.heap.size->A g->A' g):∀(l:List Pat) (xs:LV),cM w A L l xs->cM w A' L l xs
 | [],xs,h=>h
 |p::l,xs,h=>by obtain⟨f,t,r,e,a,c,b⟩:=h;exact⟨f,t,r,e,a,EV.mono k p f c,cM.mono k l r b⟩
end
def CE (w w1:World)(L:List Pat)(l:List Int)(ao:Option Addr)(rc:Nat):Cx:=⟨L,l,w1.heap.size,w.heap.size,λk=>w.heap.size+1+k,ao,rc,Vz,L.length⟩
theorem oS {w1:World}{L:List Pat}{l:LZ}{ao:OA}{rc:Nat}(h:(CE w w1 L l ao rc).R g):w.heap.size<g/\g<w.heap.size+1+L.length:=by
 obtain⟨k,b,e⟩:=h;have c:w.heap.size+1+k=g:=e;have a:k<L.length:=b;omega
theorem VY {w1:World}{L:List Pat}{l:LZ}{ao:OA}{rc:Nat}(hT:TK w w1 L.length (l.length+1) L.length)(hl:l.length<=40)(hall:dh l)(hL:L.length<=1000000)(htab:TabAt 2 Lib.deBruijn64tab w)(hru:ud w (λ_=>False) ao l) :
  Inv (CE w w1 L l ao rc) (w1.alloc (.cells #[.slice ao l.length rc,Vs w.heap.size L.length L.length,Vz] 187)):=by
 have f:Bw w (w1.alloc (.cells #[.slice ao l.length rc,Vs w.heap.size L.length L.length,Vz] 187)):=hT.1.alloc hT.1.size _;have z:2<w.heap.size:=nh (htab 0 (by decide));have D:w1.heap.size=w.heap.size+1+L.length:=hT.2.1;exact {
  len:=hl
  all:=hall
  parts:=hL
  bound:=λg y=>by have:=oS y;simp;omega
  tab:=λj t=>(f.cell (p:=(aD 2 j)) z).trans (htab j t)
  tab2:=λh=>by have:=oS h;omega
  text:=ag.new w1 [.slice ao l.length rc,Vs w.heap.size L.length L.length,Vz] 187
  bt:=λh=>by have:=oS h;show False;simp only[CE]at this;omega
  runes:=λi x C=>by
   obtain⟨b,o,e,_,c,B⟩:=hru i x C;exact⟨b,o,e,λh=>by have:=oS h;omega,zF c f.size,(f.cell (p:=⟨b,o+i,none⟩) c).trans B⟩
  kb:=λh=>by have:=oS h;simp only[CE]at this;omega
  inj:=λk s _ _ e=>by have E:w.heap.size+1+k=w.heap.size+1+s:=e;omega
  row:=λk d=>by
   have a:k<L.length:=d;obtain⟨m,_,r⟩:=hT.cell a;rw[zX a]at m;exact (((zE _ w1).alloc (zA _) _).cell (p:=(aD w.heap.size k)) r).trans m
  known:=λk q i v u=>by
   have d:k<L.length:=(zC.1 v).1;have n:=(hT.2.2.2 k d).alloc (.cells #[.slice ao l.length rc,Vs w.heap.size L.length L.length,Vz] 187);have A:i<=l.length:=u;exact⟨n.frozen i,.inl (by show World.cell? _ (aD (w.heap.size+1+k) i)=_;rw[n.cell,List.getElem?_replicate,zX (by omega)])⟩ }
def PT (w:World)(A:Nat->Prop)(p:Pat)(bp:Nat):Prop:=A bp/\∃f t,∃g:Int,ag w bp [f,t,Vi (aH p).length,Vi g] 135/\EV w A (aH p) p f/\(aH p).length<=1000
theorem XO {b:Nat}{v0 v1 v2 v3:Value}{T:TypeId}(h:ag w b [v0,v1,v2,v3] T):w.cell? (aD b 0)=some v0/\w.cell? (aD b 1)=some v1/\w.cell? (aD b 2)=some v2/\w.cell? (aD b 3)=some v3:=⟨by rw[h.cell];rfl,by rw[h.cell];rfl,by rw[h.cell];rfl,by rw[h.cell];rfl⟩
theorem Pq (L:List Pat)(f t:Value)(g:Int){l:LZ}{ao:OA}(rc:Nat)(hbp:ag w bp [f,t,Vi L.length,Vi g] 135)(hl:l.length<=40)(hall:dh l)(hL:L.length<=1000)(htab:TabAt 2 Lib.deBruijn64tab w)(hru:ud w (λ_=>False) ao l):Calls prog 54 #[Vp bp,.slice ao l.length rc] w λe w'=>∃w1,e=.returned (ar (CE w w1 L l ao rc).bt)/\Inv (CE w w1 L l ao rc) w'/\Bw w w':=by
 obtain⟨i,j,k,m⟩:=XO hbp;have c:=aa (λ(w1:World) (a:TK w w1 L.length (l.length+1) L.length)=>VY (rc:=rc) a hl hall (by omega) htab hru);have h:=aa (Oc L.length (l.length+1) w (by omega) (by omega));have d:=aa (λ(w1:World) (a:TK w w1 L.length (l.length+1) L.length)=>a.1.alloc a.1.size (.cells #[.slice ao l.length rc,Vs w.heap.size L.length L.length,Vz] 187));go_enter func54,ntmps54;go_wp2_with (go_at_call 96;refine (by simpa using h.out:Calls prog 96 #[Vi L.length,Vi ((l.length:Int)+1)] w _).mono ?_;rintro e w1 ⟨rfl,a⟩;have b:=aa a);go_ret;exact⟨w1,rfl,c.out w1 b.out,d.out w1 b.out⟩
theorem Ic {c:Cx}(p:Pat)(hok:p.Ok)(F:Nat)(cp:Array Value)(t:Value)(k9 g:Int)(hA:c.A bp)(hbp:ag w bp [Vf F cp,t,Vi k9,Vi g] 135)(eg:∀args w,(callFunc F args).run prog w=.ok (.enter F args) w)(hI:Inv c w)(hE:EV w c.A c.L p (Vf F cp)):Calls prog 53 #[Vp bp,Vp c.bt] w λe w'=>e=.returned (.bool (mT p c.l 0 c.l.length))/\KR c.R w w':=by
 obtain⟨r,_,_,_⟩:=XO hbp;obtain⟨q,_,_⟩:=DR hI.text;have n:=hbp.lt;have j:=hI.text.lt;have v:=hI.len;have l:=aa hI.bt;have u:=aa hA;have s:=aa hI;have o:=aa (λ(w':World) (hk:KR c.R w w') (h':Inv c w')=>(show Calls prog F (#[Vp c.bt,Vi 0]++cp) w' _ from nA c p hok w' F cp 0 h' (EV.keep (hk.keeps (A:=c.A) (λg h=>h)) p _ hE) (zW _)));have i:=aa (λ(w':World)=>TI (mT p c.l 0) c.l.length (c.l.length+1) w' (xC _) (by omega));generalize mk (mT p c.l 0) (c.l.length+1)=M at o i;generalize mT p c.l 0 c.l.length=B at i ⊢;go_enter func53,ntmps53;go_wp2_with fail
 go_region_held3 (λw'=>Inv c w'/\KR c.R w w'/\w'.cell? (aD bp 0)=some (Vf F cp)/\w'.cell? (aD c.bt 0)=some (.slice c.ao c.l.length c.rc))
  (first|exact⟨s.drew,(KR.refl _ _).drew,r,q⟩|exact⟨m,a,(a.cell (p:=(aD bp 0)) n u).trans r,(a.cell (p:=(aD c.bt 0)) j l).trans q⟩)
  (first
   |(go_at_call 95;refine (i _).mono ?_;rintro e y ⟨rfl,d⟩;have k:=d.symm;subst k)
   |(go_at_fn F;refine (o _ (‹Inv c _/\KR c.R w _/\_›.2.1) (‹Inv c _/\KR c.R w _/\_›.1)).mono ?_;rintro e x ⟨rfl,b,f⟩;have m:=aa b;have a:=aa ((‹Inv c _/\KR c.R w _/\_›.2.1).trans f)))
 all_goals (go_wp2_with fail;go_ret;exact⟨rfl,a⟩)
theorem Pr {p:Pat}(hok:p.Ok){A:NP}{l:LZ}{ao:OA}(rc:Nat)(hP:PT w A p bp)(hl:l.length<=40)(hall:dh l)(htab:TabAt 2 Lib.deBruijn64tab w)(hru:ud w (λ_=>False) ao l):Calls prog 25 #[Vp bp,.slice ao l.length rc] w λe w'=>e=.returned (.bool (mT p l 0 l.length))/\Bw w w':=by
 obtain⟨m,f,t,g,b,n,u⟩:=hP;obtain⟨F,B,rfl,y⟩:=EV.form p f hok n;have v:=aa (Pq (aH p) _ t g rc b hl hall u htab hru);have x:Hid (∀c i,Inv (CE w c (aH p) l ao rc) i->Bw w i->Calls prog 53 #[Vp bp,ar (CE w c (aH p) l ao rc).bt] i λe w'=>e=.returned (.bool (mT p l 0 l.length))/\Bw w w'):=λc i z a=>
  (Ic p hok F B t _ g (λh=>by have:=oS h;have:=b.lt;omega) (b.below a) y z (EV.keep (ah.below a) p _ (EV.mono (λg C _ h=>by have:=oS h;omega) p _ n))).mono (λe w' d=>⟨d.1,⟨d.2.os.trans a.os,d.2.tape.trans a.tape,d.2.output.trans a.output,zJ a.size d.2.size,λk s=>(d.2.block k (zF s a.size) (λh=>by have:=oS h;omega)).trans (a.block k s)⟩⟩)
 go_enter func25,ntmps25;go_wp2_with (first
  |(go_at_call 54;refine v.mono ?_;rintro e i ⟨c,rfl,j,a⟩;have r:=aa j;have o:=aa a)
  |(go_at_call 53;refine (x c _ r o).mono ?_;rintro e D ⟨rfl,q⟩))
 go_ret;exact⟨rfl,q⟩
mutual
def TV (w:World)(A:Nat->Prop)(L:List Pat):Pat->Nat->Value->Prop
 |.set _,_,t=>t=Vf 89 #[]
 |.row l,g,t=>∃xs,dI w A L l g xs/\Bx w A 126 l.length xs t
 |.or l,g,t=>∃xs,dI w A L l g xs/\((l.length=1/\∃f,xs=[f,t])\/(l.length≠1/\Bx w A 130 l.length xs t))
 |.and l,g,t=>∃xs,dI w A L l g xs/\((l.length=1/\∃f,xs=[f,t])\/(l.length≠1/\t=Vf 89 #[]))
 |.not _,_,t=>t=Vf 89 #[]
 |.many p m n,g,t=>∃b0 b1 b2 f u,t=Vf 135 #[ar b0,ar b1,ar b2]/\A b0/\A b1/\A b2/\ag w b0 [f,u] 132/\ag w b1 [Vi m] 3/\ag w b2 [Vi n] 3/\De u/\EV w A L p f/\TV w A L p g u
 |.group p,g,t=>∃b0 b1 f u,t=Vf 163 #[ar b0,ar b1]/\A b0/\A b1/\ag w b0 [f,u] 132/\ag w b1 [Vi (g:Int)] 3/\De u/\EV w A L p f/\TV w A L p (g+1) u
def dI (w:World)(A:Nat->Prop)(L:List Pat):List Pat->Nat->List Value->Prop
 | [],_,xs=>xs=[]
 |p::l,g,xs=>∃f t r,xs=f::t::r/\De t/\EV w A L p f/\TV w A L p g t/\dI w A L l (g+p.groups) r
end
mutual
theorem TV.keep {A:NP}{w w':World}{L:List Pat}(k:ah A w w'):∀(p:Pat) (g:Nat) (t:Value),TV w A L p g t->TV w' A L p g t
 |.set _,_,_,h=>h
 |.row l,g,t,h=>by obtain⟨b,c,a⟩:=h;exact⟨b,dI.keep k l g b c,Bx.keep k t a⟩
 |.or l,g,t,h=>by
  obtain⟨b,c,a⟩:=h;refine⟨b,dI.keep k l g b c,?_⟩;rcases a with a|⟨z,a⟩
  ·exact .inl a
  ·exact .inr ⟨z,Bx.keep k t a⟩
 |.and l,g,t,h=>by
  obtain⟨b,c,a⟩:=h;exact⟨b,dI.keep k l g b c,a⟩
 |.not _,_,_,h=>h
 |.many p m n,g,t,h=>by
  obtain⟨x,q,B,f,u,e,d,i,y,s,j,C,r,o,v⟩:=h;exact⟨x,q,B,f,u,e,d,i,y,s.keep k d,j.keep k i,C.keep k y,r,EV.keep k p f o,TV.keep k p g u v⟩
 |.group p,g,t,h=>by
  obtain⟨x,q,f,u,e,d,i,s,j,r,o,v⟩:=h;exact⟨x,q,f,u,e,d,i,s.keep k d,j.keep k i,r,EV.keep k p f o,TV.keep k p (g+1) u v⟩
theorem dI.keep {A:NP}{w w':World}{L:List Pat}(k:ah A w w'):∀(l:List Pat) (g:Nat) (xs:LV),dI w A L l g xs->dI w' A L l g xs
 | [],_,_,h=>h
 |p::l,g,xs,h=>by obtain⟨f,t,r,e,d,b,c,a⟩:=h;exact⟨f,t,r,e,d,EV.keep k p f b,TV.keep k p g t c,dI.keep k l _ r a⟩
end
mutual
theorem TV.mono {A A':NP}{w:World}{L:List Pat}(k:∀g,g<w.heap.size->A g->A' g):∀(p:Pat) (g:Nat) (t:Value),TV w A L p g t->TV w A' L p g t
 |.set _,_,_,h=>h
 |.row l,g,t,h=>by obtain⟨b,i,a⟩:=h;exact⟨b,dI.mono k l g b i,Bx.mono k t a⟩
 |.or l,g,t,h=>by
  obtain⟨b,i,a⟩:=h;refine⟨b,dI.mono k l g b i,?_⟩;rcases a with a|⟨z,a⟩
  ·exact .inl a
  ·exact .inr ⟨z,Bx.mono k t a⟩
 |.and l,g,t,h=>by
  obtain⟨b,i,a⟩:=h;exact⟨b,dI.mono k l g b i,a⟩
 |.not _,_,_,h=>h
 |.many p m n,g,t,h=>by
  obtain⟨s,o,B,f,u,e,v,x,C,d,c,y,q,j,r⟩:=h;exact⟨s,o,B,f,u,e,k _ d.lt v,k _ c.lt x,k _ y.lt C,d,c,y,q,EV.mono k p f j,TV.mono k p g u r⟩
 |.group p,g,t,h=>by
  obtain⟨s,o,f,u,e,v,x,d,c,q,j,r⟩:=h;exact⟨s,o,f,u,e,k _ d.lt v,k _ c.lt x,d,c,q,EV.mono k p f j,TV.mono k p (g+1) u r⟩
theorem dI.mono {A A':NP}{w:World}{L:List Pat}(k:∀g,g<w.heap.size->A g->A' g):∀(l:List Pat) (g:Nat) (xs:LV),dI w A L l g xs->dI w A' L l g xs
 | [],_,_,h=>h
 |p::l,g,xs,h=>by obtain⟨f,t,r,e,d,b,c,a⟩:=h;exact⟨f,t,r,e,d,EV.mono k p f b,TV.mono k p g t c,dI.mono k l _ r a⟩
end
theorem dI.snoc {w:World}{A:NP}{L:List Pat}:∀(l:List Pat) (g:Nat) (xs:LV) (p:Pat) (f t:Value),dI w A L l g xs->De t->EV w A L p f->TV w A L p (g+groupsL l) t->dI w A L (l++[p]) g (xs++[f,t])
 | [],g,xs,p,f,t,h,ht,hp,hT=>by rw[show xs=[]from h];exact⟨f,t,[],rfl,ht,hp,hT,rfl⟩
 |q::l,g,xs,p,f,t,h,ht,hp,hT=>by
  obtain⟨e,d,r,rfl,b,i,a,c⟩:=h;exact⟨e,d,r++[f,t],by simp,b,i,a,dI.snoc l (g+q.groups) r p f t c ht hp (by rw[xG];exact hT)⟩
def PK (w:World)(A:Nat->Prop)(p:Pat)(bp:Nat):Prop:=A bp/\∃f t,ag w bp [f,t,Vi (aH p).length,Vi p.groups] 135/\De t/\EV w A (aH p) p f/\TV w A (aH p) p 0 t/\(aH p).length<=1000/\p.groups<=1000
theorem PK.keep {w w':World}{A:NP}{p:Pat}{bp:Nat}(h:PK w A p bp)(k:ah A w w'):PK w' A p bp:=by
 obtain⟨a,f,t,g,d,e,b,c⟩:=h;exact⟨a,f,t,g.keep k a,d,EV.keep k p f e,TV.keep k p 0 t b,c⟩
theorem Yn (lo:OA)(ln lc:Nat)(w:World):Calls prog 84 #[.slice lo ln lc] w λe w'=>e=.returned (Vf 123 #[ar w.heap.size])/\w'=w.alloc (.cells #[.slice lo ln lc] 168):=by
 go_enter func84,ntmps84;go_wp2;go_ret;exact⟨rfl,rfl⟩
theorem Yo (lo:OA)(ln lc:Nat)(w:World):Calls prog 85 #[.slice lo ln lc] w λe w'=>e=.returned (Vf 126 #[ar w.heap.size])/\w'=w.alloc (.cells #[.slice lo ln lc] 168):=by
 go_enter func85,ntmps85;go_wp2;go_ret;exact⟨rfl,rfl⟩
theorem Yp (lo:OA)(ln lc:Nat)(w:World):Calls prog 86 #[.slice lo ln lc] w λe w'=>e=.returned (Vf 129 #[ar w.heap.size])/\w'=w.alloc (.cells #[.slice lo ln lc] 168):=by
 go_enter func86,ntmps86;go_wp2;go_ret;exact⟨rfl,rfl⟩
theorem Yq (lo:OA)(ln lc:Nat)(w:World):Calls prog 87 #[.slice lo ln lc] w λe w'=>e=.returned (Vf 130 #[ar w.heap.size])/\w'=w.alloc (.cells #[.slice lo ln lc] 168):=by
 go_enter func87,ntmps87;go_wp2;go_ret;exact⟨rfl,rfl⟩
theorem Yr (lo:OA)(ln lc:Nat)(w:World):Calls prog 88 #[.slice lo ln lc] w λe w'=>e=.returned (Vf 131 #[ar w.heap.size])/\w'=w.alloc (.cells #[.slice lo ln lc] 168):=by
 go_enter func88,ntmps88;go_wp2;go_ret;exact⟨rfl,rfl⟩
theorem Ys (lo:OA)(ln lc:Nat)(w:World):Calls prog 93 #[.slice lo ln lc] w λe w'=>e=.returned (Vf 137 #[ar w.heap.size])/\w'=w.alloc (.cells #[.slice lo ln lc] 24):=by
 go_enter func93,ntmps93;go_wp2;go_ret;exact⟨rfl,rfl⟩
theorem Yt (F:Nat)(cp:Array Value)(G:Nat)(tc:Array Value)(w:World):Calls prog 90 #[.agg #[Vf F cp,Vf G tc]] w λe w'=>e=.returned (Vf 133 #[ar w.heap.size])/\w'=w.alloc (.cells #[Vf F cp,Vf G tc] 132):=by
 go_enter func90,ntmps90;go_wp2;go_ret;exact⟨rfl,rfl⟩
theorem Yu (F:Nat)(cp:Array Value)(G:Nat)(tc:Array Value)(m n:Int)(w:World):Calls prog 91 #[.agg #[Vf F cp,Vf G tc],Vi m,Vi n] w λe w'=>e=.returned (Vf 134 #[ar (w.heap.size+1),ar w.heap.size,ar (w.heap.size+2)])/\w'=((w.alloc (.cells #[Vf F cp,Vf G tc] 132)).alloc (.cells #[Vi m] 3)).alloc (.cells #[Vi n] 3):=by
 go_enter func91,ntmps91;go_wp2;go_ret;exact⟨rfl,rfl⟩
theorem Yv (F:Nat)(cp:Array Value)(G:Nat)(tc:Array Value)(m n:Int)(w:World):Calls prog 92 #[.agg #[Vf F cp,Vf G tc],Vi m,Vi n] w λe w'=>e=.returned (Vf 135 #[ar w.heap.size,ar (w.heap.size+1),ar (w.heap.size+2)])/\w'=((w.alloc (.cells #[Vf F cp,Vf G tc] 132)).alloc (.cells #[Vi m] 3)).alloc (.cells #[Vi n] 3):=by
 go_enter func92,ntmps92;go_wp2;go_ret;exact⟨rfl,rfl⟩
theorem Yw (F:Nat)(cp:Array Value)(G:Nat)(tc:Array Value)(m:Int)(w:World):Calls prog 121 #[.agg #[Vf F cp,Vf G tc],Vi m] w λe w'=>e=.returned (Vf 163 #[ar w.heap.size,ar (w.heap.size+1)])/\w'=(w.alloc (.cells #[Vf F cp,Vf G tc] 132)).alloc (.cells #[Vi m] 3):=by
 go_enter func121,ntmps121;go_wp2;go_ret;exact⟨rfl,rfl⟩
theorem xx (k:Nat)(g:Int)(F:Nat)(cp:Array Value)(hk:k<=100000)(hb:ag w bm [Vi k,Vi g] 126):Calls prog 83 #[Vp bm,Vf F cp] w λe w'=>e=.returned (Vf 122 #[ar (w.heap.size+1),ar w.heap.size])/\Off bm w w'/\ag w' bm [Vi ((k+1:Nat):Int),Vi g] 126/\ag w' w.heap.size [Vf F cp] 128/\ag w' (w.heap.size+1) [Vi k] 3:=by
 obtain⟨n,o⟩:=iJ hb;have m:=hb.frozen 0;have i:=hb.lt;have l:bm≠w.heap.size:=by omega
 have b:bm≠w.heap.size+1:=by omega
 have h:=aa hb;go_enter func83,ntmps83;go_wp2;go_ret;have j:(k:Int)+1=((k+1:Nat):Int):=by omega
 rw[j];have f:(w.setCell (aD bm 0) (Vi ((k+1:Nat):Int))).heap.size=w.heap.size:=by simp[World.setCell]
 have d:=(ag.new (w.setCell (aD bm 0) (Vi ((k+1:Nat):Int))) [Vf F cp] 128).alloc (.cells #[Vi k] 3);have c:=ag.new ((w.setCell (aD bm 0) (Vi ((k+1:Nat):Int))).alloc (.cells #[Vf F cp] 128)) [Vi k] 3;have a:((w.setCell (aD bm 0) (Vi ((k+1:Nat):Int))).alloc (.cells #[Vf F cp] 128)).heap.size=w.heap.size+1:=by simp[World.setCell]
 rw[f]at d;rw[a]at c;exact⟨rfl,(((Off.refl _ _).setCell 0 _).alloc _).alloc _,((h.set 0 _).alloc _).alloc _,d,c⟩
def kF (L:List Pat)(k:Nat)(xs:List Pat):Prop:=∀i q,xs[i]?=some q->L[k+i]?=some q
theorem kF.left {L xs ys:List Pat}(h:kF L k (xs++ys)):kF L k xs:=λi q a=>h i q (by rw[yY (zC.1 a).1];exact a)
theorem kF.right {L xs ys:List Pat}(h:kF L k (xs++ys)):kF L (k+xs.length) ys:=λi q a=>by
 have:=h (xs.length+i) q (by rw[yk (by omega)];rw[show xs.length+i-xs.length=i by omega];exact a);rw[<-this];congr 1;omega
theorem kF.one {L xs:List Pat}{p:Pat}(h:kF L k (xs++[p])):L[k+xs.length]?=some p:=by
 have:=h.right 0 p rfl;simpa using this
theorem nt:∀(l r:List Pat),aB (l++r)=aB l++aB r
 | [],r=>by simp[aB]
 |q::l,r=>by simp[aB,nt l r]
theorem li:∀(l r:List Pat),groupsL (l++r)=groupsL l+groupsL r
 | [],r=>by simp[groupsL]
 |q::l,r=>by simp[groupsL,li l r];omega
theorem Rt {l:List Pat}(hk:k<l.length):l=l.take k++(l[k]::l.drop (k+1)):=by
 rw[List.getElem_cons_drop,zj]
theorem cM.snoc {w:World}{A:NP}{L:List Pat}:∀(l:List Pat) (xs:LV) (p:Pat) (f t:Value),cM w A L l xs->De t->EV w A L p f->cM w A L (l++[p]) (xs++[f,t])
 | [],xs,p,f,t,h,ht,hp=>by rw[show xs=[]from h];exact⟨f,t,[],rfl,ht,hp,rfl⟩
 |q::l,xs,p,f,t,h,ht,hp=>by
  obtain⟨b,e,r,rfl,a,d,c⟩:=h;exact⟨b,e,r++[f,t],by simp,a,d,cM.snoc l r p f t c ht hp⟩
def AB (lo B:Nat)(w:World)(x:Nat):Prop:=(lo<=x/\x<B)\/w.heap.size<=x
theorem Ex:(prog.info? 132).map (λi=>(i.zero,i.size,i.bytes))=some (some (.agg #[.nilFunc,.nilFunc]),2,16):=by kernel_rfl
theorem sG {B B':Nat}{v:Value}{xs:LV}(h:w.ownsRow B 132 2 v n xs)(hb:B'<=B):w.ownsRow B' 132 2 v n xs:=by
 refine⟨h.1,?_⟩;rcases h.2 with c|⟨g,a,b,e,d,r⟩
 ·exact .inl c
 ·exact .inr ⟨g,a,b,e,zJ hb d,r⟩
theorem Hf {w:World}{ops:Array Oper}{rest:List Oper}{o:Oper}{a:Act}{Q:Exit->Act->World->Prop}(hgd:o.guard=none)(s x:Operand)
  (ho:o.op=.call { callee:=.builtin .append,args:=#[s,x],argTypes:=#[168,168] }) (B n:Nat) (v:Value) (xs:LV) (hs:a.eval s=v) (hown:w.ownsRow B 132 2 v n xs)
  (ad:Addr) (news:LV) (hx:a.eval x=.slice (some ad) 1 1) (hl:news.length=2) (hnews:∀j u,news[j]?=some u->w.cell? (ad.add j)=some u) (h1:∀u∈news,u.oneCell'=true)
  (hn:n<=100000) (hB:B<=w.heap.size)
  (h:∀v' w',w'.ownsRow B 132 2 v' (n+1) (xs++news)->w.grownBy w' v.ownBlock->(v'.ownBlock=v.ownBlock\/∀g,v'.ownBlock=some g->w.heap.size<=g) ->
   wpList prog ops Q rest (a.put o.dst v') w'):wpList prog ops Q (o::rest) a w:=by
 obtain⟨y,t,q,m,p⟩:=zz Ex;have f:=hown;rcases hown.2 with⟨rfl,rfl⟩|⟨g,i,F,rfl,A,G,z,C,E,H⟩
 ·refine yo w hgd s x 168 ho 132 y (.agg #[.nilFunc,.nilFunc]) 2 16 underlying168 t q m p rfl (by decide) none 0 0 xs hs (λ_=>⟨rfl,rfl⟩) f.1 (λb e=>by cases e) ad 1 1 news hx hl hnews h1 (by omega) (by unfold maxLen;omega) (by omega) ?_;intro v' w' d c;exact h v' w' (sG d hB) ⟨c.os,c.tape,c.output,c.size,λk r _=>c.block k r (by simp)⟩ (.inr λg e=>(d.lt g e).1)
 ·by_cases l:n+1<=i
  ·refine wpList_append_fits w hgd s x 168 ho B 132 y 2 underlying168 t m g n i xs hs f ad 1 1 news hx hl hnews h1 l ?_;intro w' d c;exact h _ w' d c (.inl rfl)
  ·refine yo w hgd s x 168 ho 132 y (.agg #[.nilFunc,.nilFunc]) 2 16 underlying168 t q m p rfl (by decide) (some (aD g 0)) n i xs hs (λe=>by cases e) f.1 (λb e j u D=>by cases e;exact f.cells rfl j u D) ad 1 1 news hx hl hnews h1 (by omega) (by unfold maxLen;omega) (by omega) ?_;intro v' w' d c;exact h v' w' (sG d hB) ⟨c.os,c.tape,c.output,c.size,λk r _=>c.block k r (by simp)⟩ (.inr λg e=>(d.lt g e).1)
abbrev mF (w:World)(bm k g:Nat):Prop:=ag w bm [Vi k,Vi g] 126
def Ar (p:Pat)(lo B bm k g:Nat)(L:List Pat)(w:World)(e:Ending)(w':World):Prop:=∃F cp G tc,e=.returned (.agg #[Vf F cp,Vf G tc])/\EV w' (AB lo B w) L p (Vf F cp)/\TV w' (AB lo B w) L p g (Vf G tc)/\Off bm w w'/\mF w' bm (k+(aH p).length) (g+p.groups)
def fH (p:Pat):Prop:=∀(lo B bm b k g:Nat) (L:List Pat) (w:World),B<=bm->PN w (λx=>lo<=x/\x<B) p b->mF w bm k g->kF L k (aH p)->k+(aH p).length<=1000->g+p.groups<=1000->Calls prog 51 #[Vp bm,Vp b] w (Ar p lo B bm k g L w)
def Ze (l:List Pat)(lo B bm k g:Nat)(L:List Pat)(w:World)(e:Ending)(w':World):Prop:=∃la lc ys,e=.returned (.slice la l.length lc)/\cB w' (AB lo B w) 132 2 (.slice la l.length lc) l.length ys/\cM w' (AB lo B w) L l ys/\dI w' (AB lo B w) L l g ys/\Off bm w w'/\mF w' bm (k+(aB l).length) (g+groupsL l)
theorem Ti (w:World)(F:Nat)(cp:Array Value)(G:Nat)(tc:Array Value):∀j u,([Vf F cp,Vf G tc]:LV)[j]?=some u->(w.alloc (.cells #[Vf F cp,Vf G tc] 132)).cell? (((aD w.heap.size 0):Addr).add j)=some u:=by
 intro j u a;rw[zl,<-a];simp
theorem Tj (F:Nat)(cp:Array Value)(G:Nat)(tc:Array Value):∀u∈([Vf F cp,Vf G tc]:LV),u.oneCell'=true:=by
 intro u a;simp at a;rcases a with rfl|rfl<;>rfl
def AP (w:World)(lo B bm k g:Nat)(L:List Pat)(v:Value)(l:List Pat)(wr:World):Prop:=∃ys,wr.ownsRow w.heap.size 132 2 v l.length ys/\cM wr (λx=>AB lo B w x/\some x≠v.ownBlock) L l ys/\dI wr (λx=>AB lo B w x/\some x≠v.ownBlock) L l g ys/\Off bm w wr/\mF wr bm (k+(aB l).length) (g+groupsL l)
theorem AP.push {w2 w3:World}{lo B:Nat}{L l:List Pat}{p:Pat}{v v3:Value}{F:Nat}{cp:Array Value}{G:Nat}{tc:Array Value}{ys:LV}(hB:B<=bm)(hbm:bm<w.heap.size)
  (h1:wr.ownsRow w.heap.size 132 2 v l.length ys) (h2:cM wr (λx=>AB lo B w x/\some x≠v.ownBlock) L l ys) (h2T:dI wr (λx=>AB lo B w x/\some x≠v.ownBlock) L l g ys) (h3:Off bm w wr)
  (hE:EV w2 (AB lo B wr) L p (Vf F cp)) (hT:TV w2 (AB lo B wr) L p (g+groupsL l) (Vf G tc)) (hO:Off bm wr w2) (hM:mF w2 bm (k+(aB l).length+(aH p).length) (g+groupsL l+p.groups))
  (ho3:w3.ownsRow w.heap.size 132 2 v3 (l.length+1) (ys++[Vf F cp,Vf G tc])) (hg3:(w2.alloc (.cells #[Vf F cp,Vf G tc] 132)).grownBy w3 v.ownBlock)
  (hl3:v3.ownBlock=v.ownBlock\/∀g,v3.ownBlock=some g->(w2.alloc (.cells #[Vf F cp,Vf G tc] 132)).heap.size<=g):AP w lo B bm k g L v3 (l++[p]) w3:=by
 have f:∀q,v.ownBlock=some q->w.heap.size<=q/\q<wr.heap.size:=λq c=>h1.lt q c;have u:=hO.size;have t:(w2.alloc (.cells #[Vf F cp,Vf G tc] 132)).heap.size=w2.heap.size+1:=by simp
 have d:ah (λx=>AB lo B w x/\some x≠v.ownBlock) w2 w3:=(ah.alloc _ _ _).trans (ah.grown hg3 (λq e h=>h.2 e.symm));have b:∀q,q<w2.heap.size->some q≠v.ownBlock->some q≠v3.ownBlock:=λq c s e=>by
  rcases hl3 with h|h
  ·rw[h]at e;exact s e
  ·have:=h q e.symm;omega
 refine⟨_,by rw[zH];exact ho3,?_,?_,(h3.trans (hO.alloc _)).grown hg3 (λq e=>(f q e).1),?_⟩
 ·have m:cM w2 (λx=>AB lo B w x/\some x≠v.ownBlock) L l ys:=cM.keep (ah.off hO (λa=>by rcases a.1 with a|a<;>omega)) l ys h2;have n:EV w2 (λx=>AB lo B w x/\some x≠v.ownBlock) L p (Vf F cp):=EV.mono (λq _ a=>by
   rcases a with a|a
   ·exact⟨.inl a,λe=>by have:=f q e.symm;omega⟩
   ·exact⟨.inr (zJ h3.size a),λe=>by have:=f q e.symm;omega⟩) p _ hE
  have o:=cM.snoc l ys p _ _ m ⟨G,tc,rfl⟩ n;have r:cM w2 (λx=>(AB lo B w x/\some x≠v.ownBlock)/\some x≠v3.ownBlock) L (l++[p]) _:=cM.mono (λq c a=>⟨a,b q c a.2⟩) _ _ o;have j:=cM.keep (w':=w3) (A:=λx=>(AB lo B w x/\some x≠v.ownBlock)/\some x≠v3.ownBlock) ⟨d.1,λq c a=>d.2 q c a.1⟩ _ _ r;exact cM.mono (λq _ a=>⟨a.1.1,a.2⟩) _ _ j
 ·have m:dI w2 (λx=>AB lo B w x/\some x≠v.ownBlock) L l g ys:=dI.keep (ah.off hO (λa=>by rcases a.1 with a|a<;>omega)) l g ys h2T;have n:EV w2 (λx=>AB lo B w x/\some x≠v.ownBlock) L p (Vf F cp):=EV.mono (λq _ a=>by
   rcases a with a|a
   ·exact⟨.inl a,λe=>by have:=f q e.symm;omega⟩
   ·exact⟨.inr (zJ h3.size a),λe=>by have:=f q e.symm;omega⟩) p _ hE
  have i:TV w2 (λx=>AB lo B w x/\some x≠v.ownBlock) L p (g+groupsL l) (Vf G tc):=TV.mono (λq _ a=>by
   rcases a with a|a
   ·exact⟨.inl a,λe=>by have:=f q e.symm;omega⟩
   ·exact⟨.inr (zJ h3.size a),λe=>by have:=f q e.symm;omega⟩) p _ _ hT
  have o:=dI.snoc l g ys p _ _ m ⟨G,tc,rfl⟩ n i;have r:dI w2 (λx=>(AB lo B w x/\some x≠v.ownBlock)/\some x≠v3.ownBlock) L (l++[p]) g _:=dI.mono (λq c a=>⟨a,b q c a.2⟩) _ _ _ o;have j:=dI.keep (w':=w3) (A:=λx=>(AB lo B w x/\some x≠v.ownBlock)/\some x≠v3.ownBlock) ⟨d.1,λq c a=>d.2 q c a.1⟩ _ _ _ r;exact dI.mono (λq _ a=>⟨a.1.1,a.2⟩) _ _ _ j
 ·have:=(hM.alloc (.cells #[Vf F cp,Vf G tc] 132)).grown hg3 (λe=>by have:=f bm e.symm;omega);rw[nt,li];simp only[aB,groupsL,zx,xF,zH,<-xG];exact this
theorem As {A:NP}{lv:Value}{xs:List Nat}(h:cB w A 47 1 lv n (xs.map ar)){i x:Nat}(hi:i<n)(hx:xs[i]?=some x):∃b cap,lv=Vs b n cap/\b<w.heap.size/\A b/\w.cell? (aD b i)=some (Vp x):=by
 rcases h.1.2 with⟨rfl,e⟩|⟨b,cap,a,rfl,f,c,d⟩
 ·omega
 ·refine⟨b,cap,rfl,(h.1.lt b rfl).2,h.2 b rfl,?_⟩;have:=h.1.cells rfl i (ar x) (by rw[zg,hx];rfl);rw[zl]at this;simpa using this
theorem mX (l:List Pat)(ih:∀p∈l,fH p)(lo B:Nat)(L:List Pat)(lv:Value)(xs:List Nat)(hB:B<=bm)(ho:cB w (λx=>lo<=x/\x<B) 47 1 lv l.length (xs.map ar))(hP:PL w (λx=>lo<=x/\x<B) l xs)(hm:mF w bm k g)(hL:kF L k (aB l))(hk:k+(aB l).length<=1000)(hg:g+groupsL l<=1000)(h100:l.length<=100):Calls prog 82 #[Vp bm,lv] w (Ze l lo B bm k g L w):=by
 have a3:Hid (∀(i:Nat) (_:i<l.length) (wr:World),Off bm w wr->∃b f x,lv=Vs b l.length f/\wr.cell? (aD b i)=some (Vp x)/\PN wr (λx=>lo<=x/\x<B) l[i] x):=λi S wr hw=>by
  obtain⟨x,hx,hp⟩:=PL.at l xs hP i l[i] (zB S);have J:ah (λx=>lo<=x/\x<B) w wr:=ah.off hw (by omega);obtain⟨b,f,rfl,_,_,c0⟩:=As (ho.keep J) S hx;exact⟨b,f,x,rfl,c0,PN.keep J _ _ hp⟩
 obtain⟨a8,lc,rfl⟩:=ew ho.1;have W:=hm.lt;have X:=aa ih;have HM:=aa hm;have HL:=aa hL;have HB:=aa hB;have HK:=aa hk;have HG:=aa hg;clear ho hP hm ih hL hB hk hg;go_enter func82,ntmps82;go_wp2_with fail
 go_loopw [5,10] (λout ix wr=>∃i:Nat,i<=l.length/\ix=Vi i/\AP w lo B bm k g L out (l.take i) wr) (λ_ ix _=>l.length-(intOf ix).toNat)
 case atStart=>exact⟨0,zW _,rfl,[],by simpa using zZ _ _ _ _,by simp[cM],by simp[dI],Off.refl _ _,by simpa [aB,groupsL]using HM.out⟩
 case round=>
  obtain⟨i,S,rfl,ys,ho,s,a,H,j⟩:=hrel;have D:=aa a;have h:(l.take i).length=i:=by rw[yn];omega
  have d:=aa ho;have I:=aa s;have z:=aa H;obtain⟨ao,f,rfl⟩:=pi ho;rw[h];have r:=aa h;have i0:(0:Int)<=(i:Int):=zK _;by_cases c:i<l.length
  ·obtain⟨b,a5,x,V,c0,N⟩:=a3.out i c wr H;cases V;have t:=Rt c;have u:aB l=aB (l.take i)++(aH l[i]++aB (l.drop (i+1))):=by
    have:=congrArg aB t;rw[nt]at this;exact this
   have U:groupsL l=groupsL (l.take i)+(l[i].groups+groupsL (l.drop (i+1))):=by
    have:=congrArg groupsL t;rw[li]at this;exact this
   have m:kF L (k+(aB (l.take i)).length) (aH l[i]):=by
    have:=HL.out;rw[u]at this;exact this.right.left
   have R:(aB (l.take i)).length+(aH l[i]).length<=(aB l).length:=by rw[u];simp only[zH];omega
   have HC:=aa (X.out l[i] (xE c) lo B bm x (k+(aB (l.take i)).length) (g+groupsL (l.take i)) L wr HB.out N j m (by have:=HK.out;omega) (by have:=HG.out;omega));have A:Hid (l.take (i+1)=l.take i++[l[i]]):=yu c;generalize l[i]=p at HC A;have i1:(i:Int)<(l.length:Int):=by omega
   have a7:=H.size;clear s a H j ho t u U m R N h;go_wp2_with (first
    |(go_at_call 51;refine HC.out.mono ?_;rintro e w2 ⟨F,cp,G,tc,rfl,K,v,o,M⟩;have a4:=aa K;have a1:=aa v;have O:=aa o;have Z:=aa M;have a6:=o.size;clear K v o M)
    |(at_builtin;refine Hf rfl (.tmp 14) (.tmp 18) rfl w.heap.size (l.take i).length _ _ (by rw[r.out];rfl) ((bP d.out (λq P=>O.out.block q (d.out.lt q P).2 (λe=>by have:=(d.out.lt q P).1;omega))).alloc _) (aD w2.heap.size 0) [Vf F cp,Vf G tc] rfl rfl (Ti _ _ _ _ _) (Tj _ _ _ _) (by rw[r.out];omega) (by simp;omega) ?_;intro v3 w3 E C y;have a0:=aa E;have Y:=aa C;have Q:=aa y;clear E C y))
   go_roundw
   case rel=>exact⟨i+1,by omega,by go_num,by rw[A.out];exact AP.push HB.out W d.out I.out D.out z.out a4.out a1.out O.out Z.out a0.out Y.out Q.out⟩
   case measure=>simp[intOf];omega
  ·have n:i=l.length:=by omega
   have T:=aa j;have a2:=aa n;have i1:decide (i<l.length)=false:=zI c;clear s a H j ho h;go_wp2;go_ret;have n:=a2.out;have ho:=d.out;have s:=I.out;have a:=D.out;have j:=T.out;rw[r.out]at ho;rw[n]at ho s a j ⊢;rw[zQ]at s a j;exact⟨ao,f,ys,rfl,⟨sG ho (zW _),λq P=>.inr (ho.lt q P).1⟩,cM.mono (λq _ ha=>ha.1) _ _ s,dI.mono (λq _ ha=>ha.1) _ _ _ a,z.out,j⟩
namespace Brm
def gB (k:Nat)(r:Res Pat)(s:List Int):Prop:=match r with|.ok p s'=>p.groups+3*s'.length<=k+3*s.length|.bad _=>True
theorem gB.weak {k':Nat}{r:Res Pat}{s s':LZ}(h:gB k r s)(hk:k+3*s.length<=k'+3*s'.length):gB k' r s':=by
 cases r with
 |bad s=>trivial
 |ok p t=>have a:p.groups+3*t.length<=k+3*s.length:=h;show p.groups+3*t.length<=_;omega
theorem tU:∀(n:Nat) (x:Pat) (s:LZ),gB x.groups (aY n x s) s
 |0,_,_=>trivial
 |n+1,x,s=>by
  unfold aY
  split
  ·have a:=fq s;cases hr:dn s with
   |bad s'=>trivial
   |ok mn s'=>
    rw[hr]at a;have:=a.1;refine (tU n (.many x mn.1 mn.2) s').weak ?_;simp only[Pat.groups];omega
  ·exact zA _
theorem qp {l:LQ}{s s':LZ}(h:s'.length<=s.length):gB 0 (.ok (.set l) s') s:=by
 show (Pat.set l).groups+3*s'.length<=0+3*s.length
 simp[Pat.groups];omega
theorem Qe {rec:List Int->Res Pat}(hr:∀s,gB 1 (rec s) s)(s:LZ):gB 0 (dy rec s) s:=by
 cases s with
 |nil=>trivial
 |cons c s=>
  simp only[dy]
  split
  ·have a:=hr s;cases h:rec s with
   |bad s'=>trivial
   |ok p s'=>
    rw[h]at a;simp only[Res.bind,bV]
    split
    ·rename_i hh
     have:=(cR hh).1;have e:p.groups+3*s'.length<=1+3*s.length:=a;show (Pat.group p).groups+_<=_
     simp[Pat.groups]at *;omega
    ·trivial
  split
  ·have b:=gw s;cases h:cJ s with
   |bad s'=>trivial
   |ok l s'=>
    rw[h]at b;have f:=b.1;exact qp (by simp;omega)
  split
  ·exact qp (by simp)
  split
  ·cases s with
   |nil=>trivial
   |cons d s=>
    simp only[dx]
    split
    ·exact qp (by simp;omega)
    ·split
     ·exact qp (by simp;omega)
     ·trivial
  split
  ·trivial
  ·exact qp (by simp)
theorem CR {rec:List Int->Res Pat}(hr:∀s,gB 1 (rec s) s)(s:LZ):gB 0 (dR rec s) s:=by
 unfold dR;have a:=Qe hr s;cases h:dy rec s with
 |bad s'=>trivial
 |ok p s'=>
  rw[h]at a;have b:p.groups+3*s'.length<=0+3*s.length:=a;exact (tU _ p s').weak (by omega)
theorem Gu {rec:List Int->Res Pat}(hr:∀s,gB 1 (rec s) s):∀(s:LZ),gB 0 (dg rec s) s
 | []=>CR hr _
 |c::s=>by
  simp only[dg]
  split
  ·have a:=Gu hr s;cases h:dg rec s with
   |bad s'=>trivial
   |ok p s'=>
    rw[h]at a;have b:p.groups+3*s'.length<=0+3*s.length:=a;show (Pat.not p).groups+_<=_
    simp[Pat.groups];omega
  ·exact CR hr _
theorem vD {lax:Bool}{rec:List Int->Res Pat}(hr:∀s,gB 1 (rec s) s):∀(n:Nat) (l:List Pat) (s:LZ),gB (groupsL l+1) (cG lax rec n l s) s
 |0,_,_=>trivial
 |n+1,l,s=>by
  unfold cG
  split
  ·show (Pat.row l).groups+_<=_
   simp[Pat.groups];try omega
  ·have a:=Gu hr s;cases h:dg rec s with
   |bad s'=>trivial
   |ok p s'=>
    rw[h]at a;have b:p.groups+3*s'.length<=0+3*s.length:=a;refine (vD hr n (l++[p]) s').weak ?_;rw[iU];omega
theorem tV {part:List Int->Res Pat}{sign:Int}{mk:List Pat->Pat}(hw:∀l,(mk l).groups<=groupsL l+1)(hr:∀s,gB 1 (part s) s):∀(n:Nat) (l:List Pat) (s:LZ),gB (groupsL l+2) (bE part sign mk n l s) s
 |0,_,_=>trivial
 |n+1,l,s=>by
  unfold bE;have a:=hr s;cases h:part s with
  |bad s'=>trivial
  |ok p s'=>
   rw[h]at a;have b:p.groups+3*s'.length<=1+3*s.length:=a;have e:groupsL (l++[p])=groupsL l+p.groups:=by rw[iU]
   simp only[Res.bind]
   split
   ·rename_i hh
    have:=(cR hh).1;refine (tV hw hr n (l++[p]) s'.tail).weak ?_;omega
   ·have:=hw (l++[p]);show (mk (l++[p])).groups+_<=_
    omega
theorem se {part:List Int->Res Pat}{sign:Int}{mk:List Pat->Pat}(hw:∀l,(mk l).groups<=groupsL l+1)(hw1:∀p,(mk [p]).groups=p.groups)(hr:∀s,gB 1 (part s) s)(n:Nat)(s:LZ):gB 1 (bE part sign mk n [] s) s:=by
 cases n with
 |zero=>trivial
 |succ n=>
  unfold bE;have b:=hr s;cases h:part s with
  |bad s'=>trivial
  |ok p s'=>
   rw[h]at b;have a:p.groups+3*s'.length<=1+3*s.length:=b;simp only[Res.bind,zd]
   split
   ·rename_i hh
    have:=(cR hh).1;refine (tV hw hr n [p] s'.tail).weak ?_;simp only[groupsL];omega
   ·show (mk [p]).groups+_<=_
    rw[hw1];exact a
theorem MJ (l:List Pat):(Pat.or l).groups<=groupsL l+1:=by simp only[Pat.groups];omega
theorem IJ (l:List Pat):(Pat.and l).groups<=groupsL l+1:=by simp only[Pat.groups];omega
theorem Km (lax:Bool):∀(n:Nat) (s:LZ),gB 1 (aU lax n s) s
 |0,_=>trivial
 |n+1,s=>by
  have b:∀s,gB 1 (fR lax (aU lax n) s) s:=λs=>(vD (lax:=lax) (Km lax n) (s.length+1) [] s).weak (by simp[groupsL]);have a:∀s,gB 1 (gP lax (aU lax n) s) s:=λs=>se (mk:=.and) IJ (λp=>by simp[Pat.groups,groupsL]) b _ s;exact se (mk:=.or) MJ (λp=>by simp[Pat.groups,groupsL]) a _ s
end Brm
