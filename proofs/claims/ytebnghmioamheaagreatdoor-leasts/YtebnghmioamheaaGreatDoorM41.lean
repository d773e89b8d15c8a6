import Derived.Deep.RegionLawGrows
import Derived.Test.YtebnghmioamheaaGreatDoorM40
set_option maxHeartbeats 4000000
set_option maxRecDepth 100000
set_option linter.all false
namespace Go.Proofs.YtebnghmioamheaaGreatDoor
open Go.Shelf Go.RowKit Go.Lib Go.Sort Brm Tryz
variable {l ps:List Nat}{w:World}{c:MC}{q p B:Nat}{T:List RE}{R:Nat->Nat}{v:Value}
def gl (T:List RE)(p:Nat):List Nat:=match T[p]? with|some (.or l)=>l|_=>[p]
def dH (T:List RE)(ps:List Nat):List Nat:=ps.flatMap (gl T)
theorem AI (T:List RE)(ps:List Nat)(p:Nat):dH T (ps++[p])=dH T ps++gl T p:=by simp[dH]
theorem fY (f:Nat->Nat):∀l m:List Nat,aG f (l++m)=aG f l+aG f m
 | [],m=>by simp[aG]
 |a::l,m=>by simp only[zV,aG];rw[fY f l m];omega
theorem pL (f:Nat->Nat):∀l m:List Nat,dA f (l++m)=max (dA f l) (dA f m)
 | [],m=>by simp[dA]
 |a::l,m=>by simp only[zV,dA];rw[pL f l m];omega
theorem Qf (f:Nat->Nat){m:List Nat}(h:l.Perm m):aG f l=aG f m:=by
 induction h with
 |nil=>rfl
 |cons x _ ih=>simp only[aG,ih]
 |swap x y l=>simp only[aG];omega
 |trans _ _ h1 h2=>exact h1.trans h2
theorem rC (f:Nat->Nat):∀{l m:List Nat},l.Nodup->(∀x∈l,x∈m)->aG f l<=aG f m
 | [],m,_,_=>zW _
 |a::l,m,hn,hs=>by
  have d:=hs a (by simp);rw[Qf f (List.perm_cons_erase d)];simp only[aG];have b:=List.nodup_cons.1 hn;have:=rC f (l:=l) (m:=m.erase a) b.2 (λx c=>(List.mem_erase_of_ne (by intro e;subst e;exact b.1 c)).2 (hs x (by simp[c])));omega
theorem xe (f:Nat->Nat):∀{l m:List Nat},(∀x∈l,x∈m)->dA f l<=dA f m
 | [],m,_=>zW _
 |a::l,m,hs=>by
  simp only[dA];have d:=uU (f:=f) (hs a (by simp));have c:=xe f (l:=l) (m:=m) (λx b=>hs x (by simp[b]));omega
theorem oh {f:Nat->Nat}:∀{l:List Nat},(∀a∈l,1<=f a)->l.length<=aG f l
 | [],_=>zA _
 |a::l,h=>by simp only[aG,zG];have:=h a (by simp);have:=oh (f:=f) (l:=l) (λb c=>h b (by simp[c]));omega
def CS (T:List RE):Prop:=∀(i:Nat) (e:RE),T[i]?=some e->∀a∈e.parts,a<i
theorem MkI.wfT (h:MkI w c q):CS c.T:=λi e a=>(h.wf i e a).2
theorem lV (p:Nat):(∃l,T[p]?=some (.or l)/\gl T p=l)\/((∀l,T[p]?≠some (.or l))/\gl T p=[p]):=by
 unfold gl
 split
 ·rename_i l h;exact .inl ⟨l,h,rfl⟩
 ·rename_i h;exact .inr ⟨λl e=>h l e,rfl⟩
theorem TM (hT:CS T)(hp:p<T.length):∀a∈gl T p,a<T.length:=by
 intro a b;rcases lV (T:=T) p with⟨l,h1,h2⟩|⟨_,h2⟩
 ·rw[h2]at b;have:=hT p _ h1 a b;omega
 ·rw[h2]at b;simp at b;omega
theorem rD (hT:CS T)(hp:∀a∈ps,a<T.length):∀a∈dH T ps,a<T.length:=by
 intro a d;obtain⟨p,c,b⟩:=xL.1 d;exact TM hT (hp p c) a b
theorem TN (hT:CS T)(p:Nat):dA (λa=>(sz T a).n) (gl T p)<=(sz T p).n/\dA (λa=>(sz T a).p) (gl T p)<=(sz T p).p/\aG (λa=>(sz T a).y) (gl T p)<=(sz T p).y/\aG (λa=>(sz T a).z) (gl T p)<=(sz T p).z:=by
 rcases lV (T:=T) p with⟨l,h1,h2⟩|⟨_,h2⟩
 ·rw[h2,pg h1 (hT p _ h1)];simp only[RE.size,orM];omega
 ·rw[h2];simp[dA,aG]
theorem xf {T:List RE}(hT:CS T):∀(ps:List Nat),dA (λa=>(sz T a).n) (dH T ps)<=dA (λa=>(sz T a).n) ps/\dA (λa=>(sz T a).p) (dH T ps)<=dA (λa=>(sz T a).p) ps/\aG (λa=>(sz T a).y) (dH T ps)<=aG (λa=>(sz T a).y) ps/\aG (λa=>(sz T a).z) (dH T ps)<=aG (λa=>(sz T a).z) ps
 | []=>by simp[dH,dA,aG]
 |p::ps=>by
  have c:=TN hT p;have b:=xf hT ps;have e:dH T (p::ps)=gl T p++dH T ps:=by simp[dH]
  rw[e,pL,pL,fY,fY];simp only[dA,aG];omega
theorem Qg (hT:CS T)(hp:∀a∈ps,a<T.length):(dH T ps).length<=aG (λa=>(sz T a).z) ps :=
 zJ (oh (f:=λa=>(sz T a).z) (λa b=>(sz_one hT a (rD hT hp a b)).2.2.2)) (xf hT ps).2.2.2
theorem AJ (hT:CS T)(u:LZ):(∃a∈dH T ps,lg T a u)↔∃a∈ps,lg T a u:=by
 have c:∀p,(∃a∈gl T p,lg T a u)↔lg T p u:=by
  intro p;rcases lV (T:=T) p with⟨l,e,b⟩|⟨_,b⟩
  ·rw[b,Nb e (hT p _ e)];rfl
  ·rw[b];simp
 constructor
 ·rintro⟨a,f,d⟩;obtain⟨p,e,b⟩:=xL.1 f;exact⟨p,e,(c p).1 ⟨a,b,d⟩⟩
 ·rintro⟨p,g,d⟩;obtain⟨a,f,d⟩:=(c p).2 d;exact⟨a,xL.2 ⟨p,g,f⟩,d⟩
theorem Ko (hT:CS T)(hn:l.Pairwise (·<·))(hm:∀x,x∈l↔x∈dH T ps):orM (sz T) l<=orM (sz T) ps:=by
 have c:l.Nodup:=hn.imp (λh=>by omega);have h:=xf hT ps;have e:=xe (λa=>(sz T a).n) (l:=l) (m:=dH T ps) (λx b=>(hm x).1 b);have d:=xe (λa=>(sz T a).p) (l:=l) (m:=dH T ps) (λx b=>(hm x).1 b);have f:=rC (λa=>(sz T a).y) c (λx b=>(hm x).1 b);have g:=rC (λa=>(sz T a).z) c (λx b=>(hm x).1 b);refine⟨?_,?_,?_,?_⟩<;>simp only[orM]<;>omega
def ML (B:Nat)(R:Nat->Nat)(l:List Nat)(v:Value)(w:World):Prop:=(l=[]/\∃a cap,v=.slice a 0 cap)\/∃g cap,v=Vs g l.length cap/\l.length<=cap/\B<=g/\g<w.heap.size/\RowP w g R l.toArray w
theorem TO (h:w.ownsRow B 103 1 v l.length (l.map λp=>ae (R p))):ML B R l v w:=by
 rcases h.2 with⟨rfl,k⟩|⟨g,b,f,rfl,e,o,c,q,m,n⟩
 ·exact .inl ⟨zq.1 k,none,0,rfl⟩
 ·refine .inr ⟨g,b,rfl,c,e,(h.lt g rfl).2,But.refl _ _,λj i=>?_⟩;have a:j<l.length:=by simpa using i
  refine⟨?_,h.frozenAt j⟩;rw[h.cellAt j (by omega),zg,zB a];have d:l.toArray[j]! = l[j]:=by simp[getElem!_pos,a]
  rw[d];rfl
theorem Gw (N:Nat)(hl:∀a∈l,a<N)(h0:0<N)(hN:∀p,p<N->w.cell? (aD (R p) 0)=some (Vi (p:Int))/\R p<B)(hB:B<=w.heap.size)(hv:ML B R l v w)(hlen:l.length<=9000000000000000):Calls prog 99 #[v,Vf 100 #[]] w λe w'=>e=.returned (.tuple #[])/\∃l':List Nat,l'.Perm l/\l'.Pairwise (λx y=>x<=y)/\ML B R l' v w'/\Below B w w':=by
 rcases hv with⟨rfl,a,b,rfl⟩|⟨g,b,rfl,n,m,f,h⟩
 ·have c:=AnyF.slices_SortFunc_none Ie a b (Vf 100 #[]) w;change Calls prog 99 _ _ _ at c;refine c.mono ?_;rintro e w' ⟨i,rfl⟩;exact⟨i,[],List.Perm.refl _,by simp,.inl ⟨rfl,a,b,rfl⟩,zE _ _⟩
 ·refine (Dq N l hl b h0 (λp d=>⟨(hN p d).1,by have:=(hN p d).2;omega⟩) h f hlen).mono ?_;rintro e w' ⟨i,l',d,o,j⟩;refine⟨i,l',d,o,.inr ⟨g,b,by rw[d.length_eq],by rw[d.length_eq];exact n,m,zF f j.but.size,But.refl _ _,j.cell⟩,j.but.toBelow (λk q=>by subst q;exact m) hB⟩
theorem Gx (a:OA)(cap:Nat)(w:World):Calls prog 102 #[.slice a 0 cap] w λe w'=>e=.returned (.slice a 0 cap)/\w'=w:=by
 go_enter func102,ntmps102;go_wp2_with fail;go_ret;exact⟨rfl,rfl⟩
def DO (B:Nat)(R:Nat->Nat)(l:List Nat)(v:Value)(w:World):Prop:=∃a cap,v=.slice a l.length cap/\∀j p,l[j]?=some p->∃g,a=some (aD g 0)/\B<=g/\g<w.heap.size/\w.cell? (aD g j)=some (ae (R p))
theorem AK (N:Nat)(hl:∀a∈l,a<N)(hN:∀p,p<N->R p<B/\∃cs t,ag w (R p) cs t)(hinj:∀i j,i<N->j<N->R i=R j->i=j)(hB:B<=w.heap.size)(hv:ML B R l v w)(hlen:l.length<=9000000000000000)(hs:l.Pairwise (λx y=>x<=y)):Calls prog 102 #[v] w λe w'=>∃(v':Value) (l':List Nat),e=.returned v'/\l'.Pairwise (·<·)/\(∀x,x∈l'↔x∈l)/\DO B R l' v' w'/\Below B w w':=by
 rcases hv with⟨rfl,a,c,rfl⟩|⟨g,c,rfl,A,u,r,q⟩
 ·refine (Gx a c w).mono ?_;rintro e w' ⟨rfl,rfl⟩;exact⟨_,[],rfl,by simp,λ_=>Iff.rfl,⟨a,c,rfl,λj p h=>by simp at h⟩,zE _ _⟩
 ·have b:∀j,j<l.toArray.size->l.toArray[j]!<N:=λj f=>by
   have o:j<l.length:=by simpa using f
   have E:l.toArray[j]! = l[j]:=by simp[getElem!_pos,o]
   rw[E];exact hl _ (xE o)
  have d:=Ik c q (λj f=>⟨by have:=(hN _ (b j f)).1;omega,(hN _ (b j f)).2⟩) (λi j D f h=>hinj _ _ (b i D) (b j f) h) (by simpa using hlen) (by simpa using A);rw[show l.toArray.size=l.length by simp]at d;refine d.mono ?_;rintro e w' ⟨rfl,m,n⟩;have s:=wC l;have z:=Dr l.toArray (Lz hs);rw[show l.toArray.size=l.length by simp]at s z;exact⟨_,compactUpTo l.toArray l.length,rfl,z,s,⟨_,_,rfl,λj p f=>⟨g,rfl,u,zF r m.size,n j p f⟩⟩,m.toBelow (λk C=>by subst C;exact u) hB⟩
theorem FU (a:Nat)(b:Bool)(W:World)(ha:W.cell? (aD a 3)=some (.bool b)):Calls prog 105 #[ae a] W λe w'=>e=.returned (.bool b)/\∃q,w'=W.drewN q:=by
 have c:=eU ha;go_enter func105,ntmps105;go_wp2_with fail;go_ret;exact⟨rfl,0,rfl⟩
theorem Ip (N:Nat)(en:Nat->Bool)(hl:∀a∈l,a<N)(h0:0<N)(hN:∀p,p<N->w.cell? (aD (R p) 3)=some (.bool (en p)))(hv:DO B R l v w)(hlen:l.length<=9000000000000000):Calls prog 104 #[v,Vf 105 #[]] w λe w'=>e=.returned (.bool (l.any en))/\∃q,w'=w.drewN q:=by
 obtain⟨a,h,rfl,m⟩:=hv;cases hl0:l with
 |nil=>
  have b:=AnyE.slices_ContainsFunc_empty CF a h (Vf 105 #[]) w;change Calls prog 104 _ _ _ at b;refine b.mono ?_;rintro e w' ⟨k,rfl⟩;exact⟨k,0,rfl⟩
 |cons p0 l0=>
  rw[<-hl0];obtain⟨g,rfl,_⟩:=m 0 p0 (by rw[hl0];rfl)
  haveI:Inhabited (nB N):=⟨⟨0,h0⟩⟩
  have d:=xW l hl;generalize xV l hl=ns at d;have r:ns.length=l.length:=by rw[<-d];simp
  have z:∀args w,(callFunc 105 args).run prog w=.ok (.enter 105 args) w:=enters_of func105 (by kernel_rfl) rfl;have y:PredAt prog 105 #[] (λx:nB N=>ae (R x.1)) (λx=>en x.1) w:=λW x s=>by
   have c:=hN x.1 x.2;exact FU (R x.1) (en x.1) W ((s.cell (p:=(aD (R x.1) 3)) (eU c)).trans c)
  have b:=AnyE.slices_ContainsFunc CF (λx:nB N=>ae (R x.1)) (λx=>en x.1) 105 #[] z g 0 l.length h ns w y (by omega) (by omega) (λj n=>by
   have i:j<l.length:=by omega
   obtain⟨C,o,_,_,f⟩:=m j l[j] (zB i);cases o;rw[zf,f];have u:ns[j]! = ns[j]:=by simp[getElem!_pos,n]
   have t:ns[j].1=l[j]:=by
    have:(ns.map Subtype.val)[j]'(by simpa using n)=l[j]:=by simp only[d]
    simpa using this
   rw[u];show _=some (ae (R ns[j].1))
   rw[t])
  change Calls prog 104 _ _ _ at b;refine b.mono ?_;rintro e w' ⟨k,q,A⟩;refine⟨?_,q,A⟩;rw[k];have:(ns.take l.length).any (λx=>en x.1)=l.any en:=by
   rw[yF (by omega)]
   conv=>rhs;rw[<-d,List.any_map]
   rfl
  rw[this]
theorem tH (base:Nat)(t ty e:TypeId)(i:TypeInfo)(size c:Nat)(ht:prog.underlying t=some (.slice e))(hi:prog.info? e=some i)(v:Value)(n:Nat)(xs:LV)(hown:w.ownsRow base e size v n xs):(Builtin.append_ #[t,t] ty #[v,.slice none 0 c]).run prog w=.ok v w:=by
 rcases hown.2 with⟨rfl,rfl⟩|⟨g,b,d,rfl,_,_,a,_⟩
 ·simp[Builtin.append_,yp ht,sizeOf,typeInfo,hi,Builtin.lenOf,Builtin.firstCells]
 ·simp[Builtin.append_,yp ht,sizeOf,typeInfo,hi,Builtin.lenOf,Builtin.firstCells,a,storeCells]
theorem Ax {ops:Array Oper}{o:Oper}{a:Act}{w:World}{K:Act->World->Prop}{Q:Exit->Act->World->Prop}{E:Prop}
  (hg:o.guard=none) (s x:Operand) (t:TypeId) (hop:o.op=Op.call { callee:=Callee.builtin Builtin.append,args:=#[s,x],argTypes:=#[t,t] })
  (base:Nat) (e:TypeId) (i:TypeInfo) (z:Value) (size bytes:Nat) (h1:prog.underlying t=some (.slice e)) (h2:prog.info? e=some i) (h3:i.zero=some z) (h4:i.size=size) (h5:i.bytes=bytes) (h6:z.cells.size=size) (h7:0<size)
  (v:Value) (n:Nat) (xs:LV) (hs:a.eval s=v) (hown:w.ownsRow base e size v n xs)
  (xa:OA) (m c:Nat) (news:LV) (hx:a.eval x=.slice xa m c) (hx0:xa=none->m=0) (hn:news.length=m*size) (hc:∀ad,xa=some ad->∀j u,news[j]?=some u->w.cell? (ad.add j)=some u) (h1c:∀u∈news,u.oneCell'=true)
  (b1:n+m<=maxLen) (b2:(n+m)*bytes<=140737488355328) (hbase:base<=w.heap.size)
  (hK:∀v' w',w'.ownsRow base e size v' (n+m) (xs++news)->w.grownBy w' v.ownBlock->K (a.put o.dst v') w') :
  if Region.wanted o (yielded ops a.tmps)=true then Oper.wp prog o a w K Q else E:=by
 have f:Region.wanted o (yielded ops a.tmps)=true:=by simp[Region.wanted,hg]
 rw[zX f];cases xa with
 |some ad=>
  obtain⟨v',w',b,g,d,_⟩:=run_append_own (P:=prog) w base t o.type e i z size bytes h1 h2 h3 h4 h5 h6 h7 v n xs hown ad m c news hn (hc ad rfl) h1c b1 b2 hbase;unfold Oper.wp;simp[execOp,hop,resolve,invoke,builtin,hs,hx,b,Result.andThen];exact hK v' w' g d
 |none=>
  obtain rfl:=hx0 rfl;obtain rfl:news=[]:=yf (by simpa using hn);have b:=tH (w:=w) base t o.type e i size c h1 h2 v n xs hown;unfold Oper.wp;simp[execOp,hop,resolve,invoke,builtin,hs,hx,b,Result.andThen];exact hK v w (by simpa using hown) (World.grownBy.refl _ _)
set_option maxHeartbeats 8000000
theorem ia:(prog.info? 103).map (λi=>(i.zero,i.size,i.bytes))=some (some (.pointer none),1,8):=by kernel_rfl
theorem pK {n:Nat}{xs:LV}(h:w.ownsRow B 103 1 v n xs):∃ao cap,v=.slice ao n cap:=by
 rcases h.2 with⟨rfl,rfl⟩|⟨g,cap,a,rfl,_⟩<;>exact⟨_,_,rfl⟩
def Kn (w:World)(c:MC)(S:Nat)(ps:List Nat)(j:Nat)(iv:Value)(wr:World):Prop:=∃(i:Nat) (v:Value),iv=Vi (i:Int)/\i<=ps.length/\ps.length-i<=j/\Below S w wr/\ag wr S [ae c.m] 95/\ag wr (S+1) [v] 110/\wr.ownsRow (S+2) 103 1 v (dH c.T (ps.take i)).length ((dH c.T (ps.take i)).map λp=>ae (c.R p))
theorem TL (R:Nat->Nat)(l:List Nat):∀u∈l.map (λp=>ae (R p)),u.oneCell'=true:=by
 intro u a;obtain⟨p,_,rfl⟩:=yH.1 a;rfl
theorem MK {n:Nat}{xs:LV}(h:w.ownsRow B 103 1 v n xs){p:Addr}(hp:p.block<B)(u:Value):(w.setCell p u).ownsRow B 103 1 v n xs:=by
 refine⟨h.1,?_⟩;rcases h.2 with f|⟨g,a,b,e,d,c,r⟩
 ·exact .inl f
 ·exact .inr ⟨g,a,b,e,d,(zk _ _ _ _ (by omega)).trans c,r⟩
theorem Gv (w:World)(x:Nat):∀j u,[ae x][j]?=some u->(w.alloc (.cells #[ae x] 103)).cell? (((aD w.heap.size 0):Addr).add j)=some u:=by
 intro j u a
 match j,a with
 |0,a=>simp at a;subst a;simp[Addr.add]
open Classical in
noncomputable def rB (T:List RE)(p:Nat):Bool:=decide (lg T p [])
theorem oZ :rB T p=true↔lg T p []:=by simp[rB]
theorem Kn.step {wr w3:World}{S i cap cap3:Nat}{FL:List Nat}{ao ao3:OA}{j:Nat}(hFL:dH c.T (ps.take i)=FL)(hTK:ps.take (i+1)=ps.take i++[p])(hpo:gl c.T p=l)(hi:i<ps.length)(hj:ps.length-(i+1)<=j)(hbel:Below S w wr)(hk1:ag wr S [ae c.m] 95)(hk2:ag wr (S+1) [.slice ao FL.length cap] 110)(hown:wr.ownsRow (S+2) 103 1 (.slice ao FL.length cap) FL.length (FL.map λp=>ae (c.R p)))(hgrow:wr.grownBy w3 (Value.slice ao FL.length cap).ownBlock)(hown':w3.ownsRow (S+2) 103 1 (.slice ao3 (FL.length+l.length) cap3) (FL.length+l.length) ((FL.map λp=>ae (c.R p))++l.map λp=>ae (c.R p))) :
  w3.cell? (aD (S+1) 0)=some (.slice ao FL.length cap)/\w3.frozen? (aD (S+1) 0)=false/\S+1<w3.heap.size/\Kn w c S ps j (Vi ((i+1:Nat):Int)) (w3.setCell (aD (S+1) 0) (.slice ao3 (FL.length+l.length) cap3)):=by
 have b:∀k,k<S+2->some k≠(Value.slice ao FL.length cap).ownBlock:=λk h e=>by have:=(hown.lt k e.symm).1;omega
 have d:=hk1.grown hgrow (b _ (by omega));have a:=hk2.grown hgrow (b _ (by omega));have g:S<=wr.heap.size:=by have:=hk1.lt;omega
 have f:=hbel.grown hgrow g (λk e=>by have:=(hown.lt k e).1;omega);refine⟨a.cell 0,a.frozen 0,a.lt,i+1,_,rfl,by omega,hj,f.setCell (p:=(aD (S+1) 0)) (by show S<=S+1;omega) _,d.setOther (p:=(aD (S+1) 0)) (by show S≠S+1;omega) _,a.set 0 _,?_⟩;rw[hTK,AI,hFL,hpo,zH,xH];exact MK hown' (by show S+1<S+2;omega) _
theorem WJ {W:World}{S:Nat}{en:Bool}(hI:MkI w c q)(hP:aZ w)(hq:q<=9000000000000000000)(hS:w.heap.size=S)(hl:∀a∈l,a<c.T.length)(h1:l.length≠1)(hr:l.Pairwise (·<·))(hlen:l.length<=3000000000000)(hen:en=true↔∃a∈l,lg c.T a [])(hB:Bw w W)(hb1:ag W S [ae c.m] 95)(hb2:ag W (S+1) [v] 110)(hv:DO (S+2) c.R l v W):Calls prog 62 #[ae c.m,ae W.heap.size,Vz] (W.alloc (.cells #[Vi 0,Vi 2,v,.bool en,Vf 103 #[ae (S+1),ae S]] 113)) (jF w c (q+1) (.or l)):=by
 obtain⟨a,d,rfl,r⟩:=hv;have n:=hb2.lt;have i:∀g,S<=g->g≠W.heap.size->¬(c.S g\/g=W.heap.size):=λg h1 o f=>by
  rcases f with f|f
  ·have:=hI.S_lt f;omega
  ·exact o f
 have h:Bw w (W.alloc (.cells #[Vi 0,Vi 2,.slice a l.length d,.bool en,Vf 103 #[ae (S+1),ae S]] 113)):=hB.alloc hB.size _;have b:dQ (W.alloc (.cells #[Vi 0,Vi 2,.slice a l.length d,.bool en,Vf 103 #[ae (S+1),ae S]] 113)) (λg=>c.S g\/g=W.heap.size) c.R a l:=λj p t=>by
  obtain⟨g,k,u,m,s⟩:=r j p t;exact⟨g,0,k,by simp;omega,i g (by omega) (by omega),by rw[zf];exact (Below.cell ((zE W.heap.size W).alloc (zA _) _) (p:=(aD g j)) m).trans s⟩
 exact sk (e:=.or l) hI h (hP.below h) ⟨h1,hr⟩ hl (by have:=hB.size;exact this) (ag.new W _ 113) hen b
  ⟨S+1,S,a,d,rfl,rfl,i _ (by omega) (by omega),i _ (by omega) (by omega),hb2.alloc _,hb1.alloc _,b⟩ (iE.nil _ _) (by simp[RE.args]) hlen hq
theorem AH {pc:Nat}{pa:OA}(hI:MkI w c q)(hP:aZ w)(hq:q<=9000000000000000000)(hps:∀a∈ps,a<c.T.length)(hpa:dQ w c.S c.R pa ps)(hz:aG (λa=>(sz c.T a).z) ps<=3000000000000):Calls prog 61 #[ae c.m,.slice pa ps.length pc] w (au w c (q+1) (λu=>∃a∈ps,lg c.T a u) (orM (sz c.T) ps)):=by
 obtain⟨i0,hi,f4,e6,f2⟩:=zz ia;obtain⟨S,V⟩:∃S,w.heap.size=S:=⟨_,rfl⟩;obtain⟨W0,Q⟩:∃W0,(w.alloc (.cells #[ae c.m] 95)).alloc (.cells #[.slice none 0 0] 110)=W0:=⟨_,rfl⟩;have d5:Below S w W0:=by rw[<-Q,<-V];exact ((zE _ _).alloc (zA _) _).alloc (by simp) _
 have d3:ag W0 S [ae c.m] 95:=by rw[<-Q,<-V];exact (ag.new w [ae c.m] 95).alloc _
 have f8:ag W0 (S+1) [.slice none 0 0] 110:=by rw[<-Q,<-V];have:=ag.new (w.alloc (.cells #[ae c.m] 95)) [.slice none 0 0] 110;simpa using this
 have hT:=hI.wfT;have a0:ps.length<=3000000000000:=zJ (oh (f:=λa=>(sz c.T a).z) (λa ha=>(hI.sz_one (hps a ha)).2.2.2)) hz;have d4:∀i,(dH c.T (ps.take i)).length<=3000000000000:=λi=>by
  have F:=Qg hT (ps:=ps.take i) (λa ha=>hps a (yi ha));have X:aG (λa=>(sz c.T a).z) ps=aG (λa=>(sz c.T a).z) (ps.take i)+aG (λa=>(sz c.T a).z) (ps.drop i):=by rw[<-fY,zj]
  omega
 have HI:=aa hI;have HP:=aa hP;have Z:=aa hps;have i4:=aa hpa;have i1:=aa Q;have i3:Hid (Kn w c S ps ps.length (.int .i64 0) W0):=⟨0,_,rfl,zW _,by omega,d5,d3,f8,zZ _ _ _ _⟩;have f1:=aa d4;have HT:=aa hT;clear hI hP hps hpa hz Q d5 d3 f8 d4 hT;go_enter func61,ntmps61;go_wp2_with fail;rw[i1.out]
 try simp only[V]
 go_wp2_with fail
 go_loopg [12] ps.length (λj iv wr=>Kn w c S ps j iv wr)
 case atStart=>exact i3
 case round=>
  obtain⟨i,v,rfl,k9,hj,s,L,z,n⟩:=hrel;have k0:(0:Int)<=(i:Int):=zK _;have d8:S+2<=wr.heap.size:=by have:=z.lt;omega
  obtain⟨ao,D,rfl⟩:=pK n;by_cases d0:i<ps.length
  ·have k1:(i:Int)<(ps.length:Int):=by omega
   obtain⟨p,E⟩:∃p,ps[i]?=some p:=⟨_,zB d0⟩;have a0:=Z.out p (zU E);obtain⟨e,he⟩:∃e,c.T[p]?=some e:=⟨_,zB a0⟩;obtain⟨a3,f0,l0,l1,hR,b2,C,b0⟩:=HI.out.look he;obtain⟨bb,d7,rfl,e0,f5,c5⟩:=i4.out i p E;rw[V]at e0;have c1:wr.cell? ⟨bb,d7+i,none⟩=some (ae (c.R p)):=(s.cell (p:=⟨bb,d7+i,none⟩) e0).trans c5;have j2:bb<wr.heap.size:=by omega
   have R:=ag.below hR (show Below w.heap.size w wr by rw[V];exact s);have x1:wr.cell? ⟨c.R p,1,none⟩=some (.int .i64 e.kd):=R.cell 1;have x2:wr.cell? ⟨c.R p,2,none⟩=some (.slice a3 e.parts.length f0):=R.cell 2;have j3:=R.lt;have O:ps.take (i+1)=ps.take i++[p]:=dU E;have y:=f1.out (i+1);rw[O,AI,zH]at y;have b8:wr.cell? ⟨S+1,0,none⟩=some (.slice ao (dH c.T (ps.take i)).length D):=z.cell 0;generalize hFLE:dH c.T (ps.take i)=FL at *;by_cases a2:∃l,e=.or l
   ·obtain⟨l,rfl⟩:=a2;have G:gl c.T p=l:=by unfold gl;rw[he]
    rw[G]at y;simp only[RE.kd,RE.parts]at x1 x2 C;have i2:Hid (a3=none->l.length=0):=λh0=>by
     cases l with
     |nil=>rfl
     |cons a l=>obtain⟨b9,o9,Y,_⟩:=C 0 a rfl;rw[h0]at Y;cases Y
    have g8:Hid (∀ad,a3=some ad->∀j u,(l.map λp=>ae (c.R p))[j]?=some u->wr.drew.cell? (ad.add j)=some u):=λad g4 j u hu=>by
     rw[zg]at hu;obtain⟨p',g9,rfl⟩:=Option.map_eq_some_iff.1 hu;obtain⟨b9,o9,Y,g6,_,g7⟩:=C j p' g9;rw[g4]at Y;cases Y;rw[show (⟨b9,o9,none⟩:Addr).add j=⟨b9,o9+j,none⟩ by simp[Addr.add]];show wr.cell? ⟨b9,o9+j,none⟩=_
     exact (s.cell (p:=⟨b9,o9+j,none⟩) (by rw[<-V];exact g6)).trans g7
    have H:=aa (λ(w3:World) (ao3:Option Addr) (cap3:Nat) (hg:wr.grownBy w3 _)=>Kn.step (w:=w) (wr:=wr) (w3:=w3) (ao3:=ao3) (cap3:=cap3) (j:=ps.length-(i+1)) hFLE O G d0 (zA _) s L z n hg);have P:Hid (wr.drew.ownsRow (S+2) 103 1 (.slice ao FL.length D) FL.length (FL.map λp=>ae (c.R p))):=n;clear R hR L z s n c5 C b2 b0 O hFLE G he E a0 f5;go_wp2_with fail
    go_region_law (refine Ax rfl (.tmp 21) (.tmp 25) 110 rfl (S+2) 103 i0 (.pointer none) 1 8 underlying110 hi f4 e6 f2 rfl (by decide) (.slice ao FL.length D) FL.length (FL.map λp=>ae (c.R p)) (by simp[Act.eval]) P a3 l.length f0 (l.map λp=>ae (c.R p)) (by simp[Act.eval]) i2 (by simp) g8 (TL _ _) (by unfold maxLen;omega) (by omega) (by simp;omega) ?_;intro v' w3 o d;obtain⟨ao3,cap3,rfl⟩:=pK o;obtain⟨e3,f3,l3,h3⟩:=H.out w3 ao3 cap3 ⟨d.os,d.tape,d.output,d.size,d.block⟩ o;have H3:=aa h3;clear h3 o d)
    all_goals go_wp2_with fail
    all_goals go_roundg (ps.length-(i+1))
    all_goals first|omega|exact H3
   ·have G:gl c.T p=[p]:=by
     rcases lV (T:=c.T) p with⟨l,F,_⟩|⟨_,X⟩
     ·rw[he]at F;cases F;exact absurd ⟨l,rfl⟩ a2
     ·exact X
    rw[G]at y;have j7:(e.kd==2)=false:=zD.2 (λh=>a2 (by cases e<;>simp[RE.kd]at h;exact⟨_,rfl⟩));have H:=aa (λ(w3:World) (ao3:Option Addr) (cap3:Nat) (hg:(wr.alloc (.cells #[ae (c.R p)] 103)).grownBy w3 _)=>Kn.step (w:=w) (wr:=wr.alloc (.cells #[ae (c.R p)] 103)) (w3:=w3) (ao3:=ao3) (cap3:=cap3) (j:=ps.length-(i+1)) hFLE O G d0 (zA _) (s.alloc (by omega) _) (L.alloc _) (z.alloc _) (n.alloc _) hg);have P:Hid ((wr.alloc (.cells #[ae (c.R p)] 103)).ownsRow (S+2) 103 1 (.slice ao FL.length D) FL.length (FL.map λp=>ae (c.R p))):=n.alloc _;clear R hR L z s n c5 C b2 b0 O hFLE G he E a0 f5 a2;go_wp2_with (at_builtin;refine yD _ rfl _ _ 110 rfl (S+2) 103 i0 (.pointer none) 1 8 underlying110 hi f4 e6 f2 rfl (by decide) _ _ _ rfl P ⟨wr.heap.size,0,none⟩ 1 1 [ae (c.R p)] rfl rfl (Gv _ _) (by simp[Value.oneCell']) (by unfold maxLen;simp at y;omega) (by simp at y;omega) (by simp;omega) ?_;intro v' w3 o d _;obtain⟨ao3,cap3,rfl⟩:=pK o;obtain⟨e3,f3,l3,h3⟩:=H.out w3 ao3 cap3 d o;have H3:=aa h3;clear h3 o d)
    go_roundg (ps.length-(i+1))
    all_goals first|omega|exact H3
  ·have d1:decide ((i:Int)<(ps.length:Int))=false:=zI (by omega);have h7:i=ps.length:=by omega
   subst h7;rw[zQ]at n z;have y:=f1.out ps.length;rw[zQ]at y;have hI:=HI.out;have d9:0<c.T.length:=(zC.1 hI.t0).1;have c2:∀p,p<c.T.length->c.R p<S:=λp E=>by rw[<-V];exact (hI.cell0 E).2
   have c0:Below w.heap.size w wr:=by rw[V];exact s
   have c7:=aa (Gw c.T.length (rD HT Z) d9 (λp E=>⟨((c0.cell (p:=⟨c.R p,0,none⟩) (hI.cell0 E).2).trans (hI.cell0 E).1),by have:=c2 p E;omega⟩) d8 (TO n) (by omega));have b8:wr.cell? ⟨S+1,0,none⟩=some (.slice ao (dH c.T ps).length D):=z.cell 0;have g3:=aa L;have g2:=aa z;have d2:=aa c0;have e5:=aa c2;generalize hFLE:dH c.T ps=FL at *;have N:=aa hFLE;clear hI L z s n c0 c2 hFLE;go_wp2_with fail;refine c7.mono ?_;rintro e w5 ⟨rfl,l5,a8,g0,f9,J⟩;have g1:=aa (AK c.T.length (λa ha=>by have:=a8.mem_iff.1 ha;rw[<-N.out]at this;exact rD HT Z a this) (λp E=>⟨by have:=e5.out p E;omega,by
    obtain⟨Y,b7⟩:∃e,c.T[p]?=some e:=⟨_,zB E⟩;obtain⟨i6,h8,b4,i5,b5,_⟩:=HI.out.look b7;exact⟨_,_,(J.block _ (by have:=e5.out p E;omega)).trans (ag.below b5 d2)⟩⟩) (λi j hi hj h=>HI.inj i j hi hj h) (zJ d8 J.size) f9 (by rw[a8.length_eq];omega) g0)
   have k5:w5.cell? ⟨S+1,0,none⟩=some (.slice ao FL.length D):=(J.cell (p:=⟨S+1,0,none⟩) (by show S+1<S+2;omega)).trans b8;have k4:S+1<w5.heap.size:=by have:=J.size;omega
   have i8:=aa a8;have c3:=aa J;clear a8 g0 f9 J;go_wp2_with fail;refine g1.mono ?_;rintro e B ⟨v6,t,rfl,c8,d6,h5,a5⟩;obtain⟨M,b,rfl,a4⟩:=h5;have HM:Hid (∀x,x∈t↔x∈dH c.T ps):=λx=>by rw[d6 x,i8.out.mem_iff,N.out]
   have a1:Hid (∀x∈t,x<c.T.length):=λx hx=>rD HT Z x ((HM x).1 hx);have i9:t.length<=FL.length:=by
    have h9:=rC (λ_=>1) (l:=t) (m:=FL) (c8.imp (λh=>by omega)) (λx hx=>by rw[<-N.out];exact (HM x).1 hx);have Y:∀l:List Nat,aG (λ_=>1) l=l.length:=λl=>by induction l with|nil=>rfl|cons a l ih=>simp only[aG,ih,zG];omega
    rw[Y,Y]at h9;exact h9
   have U:ag B (S+1) [.slice ao FL.length D] 110:=(a5.block _ (by omega)).trans ((c3.block _ (by omega)).trans g2);have a9:ag B S [ae c.m] 95:=(a5.block _ (by omega)).trans ((c3.block _ (by omega)).trans g3);have f7:Below w.heap.size w B:=d2.trans ((c3.mono (by omega)).trans (a5.mono (by omega)));have k6:B.cell? ⟨S+1,0,none⟩=some (.slice ao FL.length D):=U.cell 0;have f6:=U.frozen 0;have k2:=U.lt;have A:Below w.heap.size w (B.setCell ⟨S+1,0,none⟩ (.slice M t.length b)):=f7.setCell (p:=⟨S+1,0,none⟩) (by show w.heap.size<=S+1;omega) _;have c4:ag (B.setCell ⟨S+1,0,none⟩ (.slice M t.length b)) (S+1) [.slice M t.length b] 110:=U.set 0 _;have I:ag (B.setCell ⟨S+1,0,none⟩ (.slice M t.length b)) S [ae c.m] 95:=a9.setOther (p:=⟨S+1,0,none⟩) (by show S≠S+1;omega) _;have K:DO (S+2) c.R t (.slice M t.length b) (B.setCell ⟨S+1,0,none⟩ (.slice M t.length b)):=⟨M,b,rfl,λj p hj=>by
    obtain⟨g,e1,e2,e3,e4⟩:=a4 j p hj;exact⟨g,e1,e2,by simpa [World.setCell]using e3,(zP (w:=B) (zk B ⟨S+1,0,none⟩ _ g (show g≠S+1 by omega))).trans e4⟩⟩
   have c6:=aa c8;clear d6 a5 a9 f7 k5 b8 c8 U;by_cases F:t.length=1
   ·obtain⟨x,rfl⟩:=zy.1 F;have hx:=a1.out x (by simp);obtain⟨g,rfl,j6,k3,j5⟩:=a4 0 x rfl;have j8:g≠S+1:=by omega
    have HG:Hid (au w c (q+1) (λu=>∃a∈ps,lg c.T a u) (orM (sz c.T) ps) (.returned (ae (c.R x))) (B.setCell ⟨S+1,0,none⟩ (.slice (some ⟨g,0,none⟩) 1 b))):=by
     refine⟨c,x,rfl,(HI.below A).more (by omega),Gone.below A,hx,?_,?_⟩
     ·funext u;rw[<-propext (AJ HT.out u)];refine propext ⟨λh=>⟨x,(HM x).1 (by simp),h⟩,?_⟩;rintro⟨a,ha,hu⟩;have:=(HM a).2 ha;simp at this;rw[<-this];exact hu
     ·exact Me.trans (Yf (f:=sz c.T) (l:=[x]) (by simp)) (Ko HT c6 HM)
    clear A c4 I K a4;simp only[zo]at *;go_wp2_with fail;go_ret;exact HG
   ·have j1:((t.length:Int)==1)=false:=zD.2 (by omega);have h6:(t.length==1)=false:=zD.2 F;have b6:=aa (λ(k:Nat) (en:Bool) (hen:en=true↔∃a∈t,lg c.T a [])=>WJ (c:=c) (q:=q) (en:=en) (W:=((B.setCell ⟨S+1,0,none⟩ (.slice M t.length b)).drewN k)) HI HP hq V a1 F c6 (by omega) hen ⟨A.os,A.tape,A.output,A.size,A.block⟩ (I.drewN k) (c4.drewN k) ⟨M,b,rfl,by obtain⟨a7,j0,e7,K⟩:=K;cases e7;exact K⟩);have b3:=aa (Ip c.T.length (rB c.T) a1 d9 (λp E=>by
     obtain⟨Y,b7⟩:∃e,c.T[p]?=some e:=⟨_,zB E⟩;obtain⟨i6,h8,b4,i5,b5,b1,_⟩:=HI.out.look b7;have c9:=(ag.below b5 A).cell 3;have:b4=rB c.T p:=by
      cases b4 with
      |true=>exact (oZ.2 (b1.1 rfl)).symm
      |false=>
       cases h:rB c.T p with
       |false=>rfl
       |true=>have:=b1.2 (oZ.1 h);cases this
     rw[<-this];exact c9) K (by omega))
    have e8:Hid (t.any (rB c.T)=true↔∃a∈t,lg c.T a []):=by
     show _↔_
     rw[List.any_eq_true];exact⟨λ⟨a,F,X⟩=>⟨a,F,oZ.1 X⟩,λ⟨a,F,X⟩=>⟨a,F,oZ.2 X⟩⟩
    have g5:Hid (∀r w9,jF w c (q+1) (.or t) r w9->au w c (q+1) (λu=>∃a∈ps,lg c.T a u) (orM (sz c.T) ps) r w9):=λr w9 h9=>h9.at (zE _ _) a1 (by
     funext u;rw[<-propext (AJ HT.out u)];exact propext ⟨λ⟨a,F,X⟩=>⟨a,(HM a).1 F,X⟩,λ⟨a,F,X⟩=>⟨a,(HM a).2 F,X⟩⟩) (Ko HT c6 HM)
    generalize t.any (rB c.T)=en at b3 e8;have k7:(B.setCell ⟨S+1,0,none⟩ (.slice M t.length b)).cell? ⟨S,0,none⟩=some (ae c.m):=I.cell 0;have n7:S≠S+1:=by omega
    have k8:B.cell? ⟨S,0,none⟩=some (ae c.m):=(zP (w:=B) (zk B ⟨S+1,0,none⟩ _ S n7)).symm.trans k7;have j4:S<B.heap.size:=by omega
    clear A c4 I K a4;go_wp2_with fail;refine b3.mono ?_;rintro e w8 ⟨rfl,q8,rfl⟩;go_wp2_with fail;have hk:=b6.out q8 en e8;rw[show ((B.setCell ⟨S+1,0,none⟩ (.slice M t.length b)).drewN q8).heap.size=B.heap.size by simp[World.setCell]]at hk;refine hk.mono ?_;intro r w9 h9;have i7:=aa (g5 r w9 h9);obtain⟨c9,j9,rfl,h4⟩:=h9;clear h4 hk;go_wp2_with fail;go_ret;exact i7
