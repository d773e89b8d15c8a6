import Derived.Deep.RegionLawGrows
import Derived.Test.YtebnghmioamheaaGreatDoorM39
set_option maxHeartbeats 4000000
set_option maxRecDepth 100000
set_option linter.all false
namespace Go.Proofs.YtebnghmioamheaaGreatDoor
open Go.Shelf Go.RowKit Go.Lib Go.Sort Brm Tryz
variable {l ps:List Nat}{w:World}{c:MC}{q p B:Nat}{T:List RE}{R:Nat->Nat}{v:Value}
def gl (T:List RE)(p:Nat):List Nat:=match T[p]? with|some (.or l)=>l|_=>[p]
def dH (T:List RE)(ps:List Nat):List Nat:=ps.flatMap (gl T)
theorem AI (T:List RE)(ps:List Nat)(p:Nat):dH T (ps++[p])=dH T ps++gl T p:=by simp[dH]
theorem fY (f:Nat->Nat):∀l m:List Nat,aG f (l++m)=aG f l+aG f m
 | [],m=>by simp[aG]
 |a::l,m=>by simp only[zV,aG];rw[fY f l m];omega
theorem pL (f:Nat->Nat):∀l m:List Nat,dA f (l++m)=max (dA f l) (dA f m)
 | [],m=>by simp[dA]
 |a::l,m=>by simp only[zV,dA];rw[pL f l m];omega
theorem Qf (f:Nat->Nat){m:List Nat}(h:l.Perm m):aG f l=aG f m:=by
 induction h with
 |nil=>rfl
 |cons x _ ih=>simp only[aG,ih]
 |swap x y l=>simp only[aG];omega
 |trans _ _ h1 h2=>exact h1.trans h2
theorem rC (f:Nat->Nat):∀{l m:List Nat},l.Nodup->(∀x∈l,x∈m)->aG f l<=aG f m
 | [],m,_,_=>zW _
 |a::l,m,hn,hs=>by
  have d:=hs a (by simp);rw[Qf f (List.perm_cons_erase d)];simp only[aG];have b:=List.nodup_cons.1 hn;have:=rC f (l:=l) (m:=m.erase a) b.2 (λx c=>(List.mem_erase_of_ne (by intro e;subst e;exact b.1 c)).2 (hs x (by simp[c])));omega
theorem xe (f:Nat->Nat):∀{l m:List Nat},(∀x∈l,x∈m)->dA f l<=dA f m
 | [],m,_=>zW _
 |a::l,m,hs=>by
  simp only[dA];have d:=uU (f:=f) (hs a (by simp));have c:=xe f (l:=l) (m:=m) (λx b=>hs x (by simp[b]));omega
theorem oh {f:Nat->Nat}:∀{l:List Nat},(∀a∈l,1<=f a)->l.length<=aG f l
 | [],_=>zA _
 |a::l,h=>by simp only[aG,zG];have:=h a (by simp);have:=oh (f:=f) (l:=l) (λb c=>h b (by simp[c]));omega
def CS (T:List RE):Prop:=∀(i:Nat) (e:RE),T[i]?=some e->∀a∈e.parts,a<i
theorem MkI.wfT (h:MkI w c q):CS c.T:=λi e a=>(h.wf i e a).2
theorem lV (p:Nat):(∃l,T[p]?=some (.or l)/\gl T p=l)\/((∀l,T[p]?≠some (.or l))/\gl T p=[p]):=by
 unfold gl
 split
 ·rename_i l h;exact .inl ⟨l,h,rfl⟩
 ·rename_i h;exact .inr ⟨λl e=>h l e,rfl⟩
theorem TM (hT:CS T)(hp:p<T.length):∀a∈gl T p,a<T.length:=by
 intro a b;rcases lV (T:=T) p with⟨l,h1,h2⟩|⟨_,h2⟩
 ·rw[h2]at b;have:=hT p _ h1 a b;omega
 ·rw[h2]at b;simp at b;omega
theorem rD (hT:CS T)(hp:∀a∈ps,a<T.length):∀a∈dH T ps,a<T.length:=by
 intro a c;obtain⟨p,d,b⟩:=xL.1 c;exact TM hT (hp p d) a b
theorem TN (hT:CS T)(p:Nat):dA (λa=>(sz T a).n) (gl T p)<=(sz T p).n/\dA (λa=>(sz T a).p) (gl T p)<=(sz T p).p/\aG (λa=>(sz T a).y) (gl T p)<=(sz T p).y/\aG (λa=>(sz T a).z) (gl T p)<=(sz T p).z:=by
 rcases lV (T:=T) p with⟨l,h1,h2⟩|⟨_,h2⟩
 ·rw[h2,pg h1 (hT p _ h1)];simp only[RE.size,orM];omega
 ·rw[h2];simp[dA,aG]
theorem xf {T:List RE}(hT:CS T):∀(ps:List Nat),dA (λa=>(sz T a).n) (dH T ps)<=dA (λa=>(sz T a).n) ps/\dA (λa=>(sz T a).p) (dH T ps)<=dA (λa=>(sz T a).p) ps/\aG (λa=>(sz T a).y) (dH T ps)<=aG (λa=>(sz T a).y) ps/\aG (λa=>(sz T a).z) (dH T ps)<=aG (λa=>(sz T a).z) ps
 | []=>by simp[dH,dA,aG]
 |p::ps=>by
  have c:=TN hT p;have b:=xf hT ps;have e:dH T (p::ps)=gl T p++dH T ps:=by simp[dH]
  rw[e,pL,pL,fY,fY];simp only[dA,aG];omega
theorem Qg (hT:CS T)(hp:∀a∈ps,a<T.length):(dH T ps).length<=aG (λa=>(sz T a).z) ps :=
 zJ (oh (f:=λa=>(sz T a).z) (λa b=>(sz_one hT a (rD hT hp a b)).2.2.2)) (xf hT ps).2.2.2
theorem AJ (hT:CS T)(u:LZ):(∃a∈dH T ps,lg T a u)↔∃a∈ps,lg T a u:=by
 have b:∀p,(∃a∈gl T p,lg T a u)↔lg T p u:=by
  intro p;rcases lV (T:=T) p with⟨l,e,d⟩|⟨_,d⟩
  ·rw[d,Nb e (hT p _ e)];rfl
  ·rw[d];simp
 constructor
 ·rintro⟨a,f,c⟩;obtain⟨p,e,d⟩:=xL.1 f;exact⟨p,e,(b p).1 ⟨a,d,c⟩⟩
 ·rintro⟨p,g,c⟩;obtain⟨a,f,c⟩:=(b p).2 c;exact⟨a,xL.2 ⟨p,g,f⟩,c⟩
theorem Ko (hT:CS T)(hn:l.Pairwise (·<·))(hm:∀x,x∈l↔x∈dH T ps):orM (sz T) l<=orM (sz T) ps:=by
 have c:l.Nodup:=hn.imp (λh=>by omega);have h:=xf hT ps;have d:=xe (λa=>(sz T a).n) (l:=l) (m:=dH T ps) (λx b=>(hm x).1 b);have f:=xe (λa=>(sz T a).p) (l:=l) (m:=dH T ps) (λx b=>(hm x).1 b);have g:=rC (λa=>(sz T a).y) c (λx b=>(hm x).1 b);have e:=rC (λa=>(sz T a).z) c (λx b=>(hm x).1 b);refine⟨?_,?_,?_,?_⟩<;>simp only[orM]<;>omega
def ML (B:Nat)(R:Nat->Nat)(l:List Nat)(v:Value)(w:World):Prop:=(l=[]/\∃a cap,v=.slice a 0 cap)\/∃g cap,v=Vs g l.length cap/\l.length<=cap/\B<=g/\g<w.heap.size/\RowP w g R l.toArray w
theorem TO (h:w.ownsRow B 103 1 v l.length (l.map λp=>ae (R p))):ML B R l v w:=by
 rcases h.2 with⟨rfl,e⟩|⟨g,b,d,rfl,k,n,c,q,o,m⟩
 ·exact .inl ⟨zq.1 e,none,0,rfl⟩
 ·refine .inr ⟨g,b,rfl,c,k,(h.lt g rfl).2,But.refl _ _,λj f=>?_⟩;have a:j<l.length:=by simpa using f
  refine⟨?_,h.frozenAt j⟩;rw[h.cellAt j (by omega),zg,zB a];have i:l.toArray[j]! = l[j]:=by simp[getElem!_pos,a]
  rw[i];rfl
theorem Gw (N:Nat)(hl:∀a∈l,a<N)(h0:0<N)(hN:∀p,p<N->w.cell? (aD (R p) 0)=some (Vi (p:Int))/\R p<B)(hB:B<=w.heap.size)(hv:ML B R l v w)(hlen:l.length<=9000000000000000):Calls prog 99 #[v,Vf 100 #[]] w λe w'=>e=.returned (.tuple #[])/\∃l':List Nat,l'.Perm l/\l'.Pairwise (λx y=>x<=y)/\ML B R l' v w'/\Below B w w':=by
 rcases hv with⟨rfl,a,b,rfl⟩|⟨g,b,rfl,o,m,h,f⟩
 ·have c:=AnyF.slices_SortFunc_none Ie a b (Vf 100 #[]) w;change Calls prog 99 _ _ _ at c;refine c.mono ?_;rintro e w' ⟨i,rfl⟩;exact⟨i,[],List.Perm.refl _,by simp,.inl ⟨rfl,a,b,rfl⟩,zE _ _⟩
 ·refine (Dq N l hl b h0 (λp d=>⟨(hN p d).1,by have:=(hN p d).2;omega⟩) f h hlen).mono ?_;rintro e w' ⟨i,l',d,q,j⟩;refine⟨i,l',d,q,.inr ⟨g,b,by rw[d.length_eq],by rw[d.length_eq];exact o,m,zF h j.but.size,But.refl _ _,j.cell⟩,j.but.toBelow (λk n=>by subst n;exact m) hB⟩
theorem Gx (a:OA)(cap:Nat)(w:World):Calls prog 102 #[.slice a 0 cap] w λe w'=>e=.returned (.slice a 0 cap)/\w'=w:=by
 go_enter func102,ntmps102;go_wp2_with fail;go_ret;exact⟨rfl,rfl⟩
def DO (B:Nat)(R:Nat->Nat)(l:List Nat)(v:Value)(w:World):Prop:=∃a cap,v=.slice a l.length cap/\∀j p,l[j]?=some p->∃g,a=some (aD g 0)/\B<=g/\g<w.heap.size/\w.cell? (aD g j)=some (ae (R p))
theorem AK (N:Nat)(hl:∀a∈l,a<N)(hN:∀p,p<N->R p<B/\∃cs t,ag w (R p) cs t)(hinj:∀i j,i<N->j<N->R i=R j->i=j)(hB:B<=w.heap.size)(hv:ML B R l v w)(hlen:l.length<=9000000000000000)(hs:l.Pairwise (λx y=>x<=y)):Calls prog 102 #[v] w λe w'=>∃(v':Value) (l':List Nat),e=.returned v'/\l'.Pairwise (·<·)/\(∀x,x∈l'↔x∈l)/\DO B R l' v' w'/\Below B w w':=by
 rcases hv with⟨rfl,a,c,rfl⟩|⟨g,c,rfl,A,s,r,o⟩
 ·refine (Gx a c w).mono ?_;rintro e w' ⟨rfl,rfl⟩;exact⟨_,[],rfl,by simp,λ_=>Iff.rfl,⟨a,c,rfl,λj p h=>by simp at h⟩,zE _ _⟩
 ·have b:∀j,j<l.toArray.size->l.toArray[j]!<N:=λj m=>by
   have q:j<l.length:=by simpa using m
   have E:l.toArray[j]! = l[j]:=by simp[getElem!_pos,q]
   rw[E];exact hl _ (xE q)
  have d:=Ik c o (λj m=>⟨by have:=(hN _ (b j m)).1;omega,(hN _ (b j m)).2⟩) (λi j D m h=>hinj _ _ (b i D) (b j m) h) (by simpa using hlen) (by simpa using A);rw[show l.toArray.size=l.length by simp]at d;refine d.mono ?_;rintro e w' ⟨rfl,f,n⟩;have u:=wC l;have z:=Dr l.toArray (Lz hs);rw[show l.toArray.size=l.length by simp]at u z;exact⟨_,compactUpTo l.toArray l.length,rfl,z,u,⟨_,_,rfl,λj p m=>⟨g,rfl,s,zF r f.size,n j p m⟩⟩,f.toBelow (λk C=>by subst C;exact s) hB⟩
theorem FU (a:Nat)(b:Bool)(W:World)(ha:W.cell? (aD a 3)=some (.bool b)):Calls prog 105 #[ae a] W λe w'=>e=.returned (.bool b)/\∃q,w'=W.drewN q:=by
 have c:=eU ha;go_enter func105,ntmps105;go_wp2_with fail;go_ret;exact⟨rfl,0,rfl⟩
theorem Ip (N:Nat)(en:Nat->Bool)(hl:∀a∈l,a<N)(h0:0<N)(hN:∀p,p<N->w.cell? (aD (R p) 3)=some (.bool (en p)))(hv:DO B R l v w)(hlen:l.length<=9000000000000000):Calls prog 104 #[v,Vf 105 #[]] w λe w'=>e=.returned (.bool (l.any en))/\∃q,w'=w.drewN q:=by
 obtain⟨a,h,rfl,m⟩:=hv;cases hl0:l with
 |nil=>
  have b:=AnyE.slices_ContainsFunc_empty CF a h (Vf 105 #[]) w;change Calls prog 104 _ _ _ at b;refine b.mono ?_;rintro e w' ⟨k,rfl⟩;exact⟨k,0,rfl⟩
 |cons p0 l0=>
  rw[<-hl0];obtain⟨g,rfl,_⟩:=m 0 p0 (by rw[hl0];rfl)
  haveI:Inhabited (nB N):=⟨⟨0,h0⟩⟩
  have d:=xW l hl;generalize xV l hl=ns at d;have s:ns.length=l.length:=by rw[<-d];simp
  have o:∀args w,(callFunc 105 args).run prog w=.ok (.enter 105 args) w:=enters_of func105 (by kernel_rfl) rfl;have z:PredAt prog 105 #[] (λx:nB N=>ae (R x.1)) (λx=>en x.1) w:=λW x t=>by
   have c:=hN x.1 x.2;exact FU (R x.1) (en x.1) W ((t.cell (p:=(aD (R x.1) 3)) (eU c)).trans c)
  have b:=AnyE.slices_ContainsFunc CF (λx:nB N=>ae (R x.1)) (λx=>en x.1) 105 #[] o g 0 l.length h ns w z (by omega) (by omega) (λj n=>by
   have i:j<l.length:=by omega
   obtain⟨C,y,_,_,f⟩:=m j l[j] (zB i);cases y;rw[zf,f];have u:ns[j]! = ns[j]:=by simp[getElem!_pos,n]
   have A:ns[j].1=l[j]:=by
    have:(ns.map Subtype.val)[j]'(by simpa using n)=l[j]:=by simp only[d]
    simpa using this
   rw[u];show _=some (ae (R ns[j].1))
   rw[A])
  change Calls prog 104 _ _ _ at b;refine b.mono ?_;rintro e w' ⟨k,q,r⟩;refine⟨?_,q,r⟩;rw[k];have:(ns.take l.length).any (λx=>en x.1)=l.any en:=by
   rw[yF (by omega)]
   conv=>rhs;rw[<-d,List.any_map]
   rfl
  rw[this]
theorem tH (base:Nat)(t ty e:TypeId)(i:TypeInfo)(size c:Nat)(ht:prog.underlying t=some (.slice e))(hi:prog.info? e=some i)(v:Value)(n:Nat)(xs:LV)(hown:w.ownsRow base e size v n xs):(Builtin.append_ #[t,t] ty #[v,.slice none 0 c]).run prog w=.ok v w:=by
 rcases hown.2 with⟨rfl,rfl⟩|⟨g,d,b,rfl,_,_,a,_⟩
 ·simp[Builtin.append_,yp ht,sizeOf,typeInfo,hi,Builtin.lenOf,Builtin.firstCells]
 ·simp[Builtin.append_,yp ht,sizeOf,typeInfo,hi,Builtin.lenOf,Builtin.firstCells,a,storeCells]
theorem Ax {ops:Array Oper}{o:Oper}{a:Act}{w:World}{K:Act->World->Prop}{Q:Exit->Act->World->Prop}{E:Prop}
  (hg:o.guard=none) (s x:Operand) (t:TypeId) (hop:o.op=Op.call { callee:=Callee.builtin Builtin.append,args:=#[s,x],argTypes:=#[t,t] })
  (base:Nat) (e:TypeId) (i:TypeInfo) (z:Value) (size bytes:Nat) (h1:prog.underlying t=some (.slice e)) (h2:prog.info? e=some i) (h3:i.zero=some z) (h4:i.size=size) (h5:i.bytes=bytes) (h6:z.cells.size=size) (h7:0<size)
  (v:Value) (n:Nat) (xs:LV) (hs:a.eval s=v) (hown:w.ownsRow base e size v n xs)
  (xa:OA) (m c:Nat) (news:LV) (hx:a.eval x=.slice xa m c) (hx0:xa=none->m=0) (hn:news.length=m*size) (hc:∀ad,xa=some ad->∀j u,news[j]?=some u->w.cell? (ad.add j)=some u) (h1c:∀u∈news,u.oneCell'=true)
  (b1:n+m<=maxLen) (b2:(n+m)*bytes<=140737488355328) (hbase:base<=w.heap.size)
  (hK:∀v' w',w'.ownsRow base e size v' (n+m) (xs++news)->w.grownBy w' v.ownBlock->K (a.put o.dst v') w') :
  if Region.wanted o (yielded ops a.tmps)=true then Oper.wp prog o a w K Q else E:=by
 have f:Region.wanted o (yielded ops a.tmps)=true:=by simp[Region.wanted,hg]
 rw[zX f];cases xa with
 |some ad=>
  obtain⟨v',w',b,g,d,_⟩:=run_append_own (P:=prog) w base t o.type e i z size bytes h1 h2 h3 h4 h5 h6 h7 v n xs hown ad m c news hn (hc ad rfl) h1c b1 b2 hbase;unfold Oper.wp;simp[execOp,hop,resolve,invoke,builtin,hs,hx,b,Result.andThen];exact hK v' w' g d
 |none=>
  obtain rfl:=hx0 rfl;obtain rfl:news=[]:=yf (by simpa using hn);have b:=tH (w:=w) base t o.type e i size c h1 h2 v n xs hown;unfold Oper.wp;simp[execOp,hop,resolve,invoke,builtin,hs,hx,b,Result.andThen];exact hK v w (by simpa using hown) (World.grownBy.refl _ _)
set_option maxHeartbeats 8000000
theorem jN:(prog.info? 103).map (λi=>(i.zero,i.size,i.bytes))=some (some (.pointer none),1,8):=by kernel_rfl
theorem pK {n:Nat}{xs:LV}(h:w.ownsRow B 103 1 v n xs):∃ao cap,v=.slice ao n cap:=by
 rcases h.2 with⟨rfl,rfl⟩|⟨g,cap,a,rfl,_⟩<;>exact⟨_,_,rfl⟩
def Kn (w:World)(c:MC)(S:Nat)(ps:List Nat)(j:Nat)(iv:Value)(wr:World):Prop:=∃(i:Nat) (v:Value),iv=Vi (i:Int)/\i<=ps.length/\ps.length-i<=j/\Below S w wr/\ag wr S [ae c.m] 95/\ag wr (S+1) [v] 110/\wr.ownsRow (S+2) 103 1 v (dH c.T (ps.take i)).length ((dH c.T (ps.take i)).map λp=>ae (c.R p))
theorem TL (R:Nat->Nat)(l:List Nat):∀u∈l.map (λp=>ae (R p)),u.oneCell'=true:=by
 intro u a;obtain⟨p,_,rfl⟩:=yH.1 a;rfl
theorem MK {n:Nat}{xs:LV}(h:w.ownsRow B 103 1 v n xs){p:Addr}(hp:p.block<B)(u:Value):(w.setCell p u).ownsRow B 103 1 v n xs:=by
 refine⟨h.1,?_⟩;rcases h.2 with d|⟨g,b,a,e,f,c,r⟩
 ·exact .inl d
 ·exact .inr ⟨g,b,a,e,f,(zk _ _ _ _ (by omega)).trans c,r⟩
theorem Gv (w:World)(x:Nat):∀j u,[ae x][j]?=some u->(w.alloc (.cells #[ae x] 103)).cell? (((aD w.heap.size 0):Addr).add j)=some u:=by
 intro j u a
 match j,a with
 |0,a=>simp at a;subst a;simp[Addr.add]
open Classical in
noncomputable def rB (T:List RE)(p:Nat):Bool:=decide (lg T p [])
theorem oZ :rB T p=true↔lg T p []:=by simp[rB]
theorem Kn.step {wr w3:World}{S i cap cap3:Nat}{FL:List Nat}{ao ao3:OA}{j:Nat}(hFL:dH c.T (ps.take i)=FL)(hTK:ps.take (i+1)=ps.take i++[p])(hpo:gl c.T p=l)(hi:i<ps.length)(hj:ps.length-(i+1)<=j)(hbel:Below S w wr)(hk1:ag wr S [ae c.m] 95)(hk2:ag wr (S+1) [.slice ao FL.length cap] 110)(hown:wr.ownsRow (S+2) 103 1 (.slice ao FL.length cap) FL.length (FL.map λp=>ae (c.R p)))(hgrow:wr.grownBy w3 (Value.slice ao FL.length cap).ownBlock)(hown':w3.ownsRow (S+2) 103 1 (.slice ao3 (FL.length+l.length) cap3) (FL.length+l.length) ((FL.map λp=>ae (c.R p))++l.map λp=>ae (c.R p))) :
  w3.cell? (aD (S+1) 0)=some (.slice ao FL.length cap)/\w3.frozen? (aD (S+1) 0)=false/\S+1<w3.heap.size/\Kn w c S ps j (Vi ((i+1:Nat):Int)) (w3.setCell (aD (S+1) 0) (.slice ao3 (FL.length+l.length) cap3)):=by
 have b:∀k,k<S+2->some k≠(Value.slice ao FL.length cap).ownBlock:=λk h e=>by have:=(hown.lt k e.symm).1;omega
 have d:=hk1.grown hgrow (b _ (by omega));have a:=hk2.grown hgrow (b _ (by omega));have f:S<=wr.heap.size:=by have:=hk1.lt;omega
 have g:=hbel.grown hgrow f (λk e=>by have:=(hown.lt k e).1;omega);refine⟨a.cell 0,a.frozen 0,a.lt,i+1,_,rfl,by omega,hj,g.setCell (p:=(aD (S+1) 0)) (by show S<=S+1;omega) _,d.setOther (p:=(aD (S+1) 0)) (by show S≠S+1;omega) _,a.set 0 _,?_⟩;rw[hTK,AI,hFL,hpo,zH,xH];exact MK hown' (by show S+1<S+2;omega) _
theorem WJ {W:World}{S:Nat}{en:Bool}(hI:MkI w c q)(hP:aZ w)(hq:q<=9000000000000000000)(hS:w.heap.size=S)(hl:∀a∈l,a<c.T.length)(h1:l.length≠1)(hr:l.Pairwise (·<·))(hlen:l.length<=3000000000000)(hen:en=true↔∃a∈l,lg c.T a [])(hB:Bw w W)(hb1:ag W S [ae c.m] 95)(hb2:ag W (S+1) [v] 110)(hv:DO (S+2) c.R l v W):Calls prog 62 #[ae c.m,ae W.heap.size,Vz] (W.alloc (.cells #[Vi 0,Vi 2,v,.bool en,Vf 103 #[ae (S+1),ae S]] 113)) (jF w c (q+1) (.or l)):=by
 obtain⟨a,d,rfl,s⟩:=hv;have n:=hb2.lt;have i:∀g,S<=g->g≠W.heap.size->¬(c.S g\/g=W.heap.size):=λg h1 o h=>by
  rcases h with h|h
  ·have:=hI.S_lt h;omega
  ·exact o h
 have f:Bw w (W.alloc (.cells #[Vi 0,Vi 2,.slice a l.length d,.bool en,Vf 103 #[ae (S+1),ae S]] 113)):=hB.alloc hB.size _;have b:dQ (W.alloc (.cells #[Vi 0,Vi 2,.slice a l.length d,.bool en,Vf 103 #[ae (S+1),ae S]] 113)) (λg=>c.S g\/g=W.heap.size) c.R a l:=λj p r=>by
  obtain⟨g,k,u,t,m⟩:=s j p r;exact⟨g,0,k,by simp;omega,i g (by omega) (by omega),by rw[zf];exact (Below.cell ((zE W.heap.size W).alloc (zA _) _) (p:=(aD g j)) t).trans m⟩
 exact sk (e:=.or l) hI f (hP.below f) ⟨h1,hr⟩ hl (by have:=hB.size;exact this) (ag.new W _ 113) hen b
  ⟨S+1,S,a,d,rfl,rfl,i _ (by omega) (by omega),i _ (by omega) (by omega),hb2.alloc _,hb1.alloc _,b⟩ (iE.nil _ _) (by simp[RE.args]) hlen hq
theorem AH {pc:Nat}{pa:OA}(hI:MkI w c q)(hP:aZ w)(hq:q<=9000000000000000000)(hps:∀a∈ps,a<c.T.length)(hpa:dQ w c.S c.R pa ps)(hz:aG (λa=>(sz c.T a).z) ps<=3000000000000):Calls prog 61 #[ae c.m,.slice pa ps.length pc] w (au w c (q+1) (λu=>∃a∈ps,lg c.T a u) (orM (sz c.T) ps)):=by
 obtain⟨i0,hi,g1,e8,f1⟩:=zz jN;obtain⟨S,X⟩:∃S,w.heap.size=S:=⟨_,rfl⟩;obtain⟨W0,Q⟩:∃W0,(w.alloc (.cells #[ae c.m] 95)).alloc (.cells #[.slice none 0 0] 110)=W0:=⟨_,rfl⟩;have d4:Below S w W0:=by rw[<-Q,<-X];exact ((zE _ _).alloc (zA _) _).alloc (by simp) _
 have d6:ag W0 S [ae c.m] 95:=by rw[<-Q,<-X];exact (ag.new w [ae c.m] 95).alloc _
 have e5:ag W0 (S+1) [.slice none 0 0] 110:=by rw[<-Q,<-X];have:=ag.new (w.alloc (.cells #[ae c.m] 95)) [.slice none 0 0] 110;simpa using this
 have hT:=hI.wfT;have a5:ps.length<=3000000000000:=zJ (oh (f:=λa=>(sz c.T a).z) (λa ha=>(hI.sz_one (hps a ha)).2.2.2)) hz;have d3:∀i,(dH c.T (ps.take i)).length<=3000000000000:=λi=>by
  have G:=Qg hT (ps:=ps.take i) (λa ha=>hps a (yi ha));have Y:aG (λa=>(sz c.T a).z) ps=aG (λa=>(sz c.T a).z) (ps.take i)+aG (λa=>(sz c.T a).z) (ps.drop i):=by rw[<-fY,zj]
  omega
 have HI:=aa hI;have HP:=aa hP;have a8:=aa hps;have g2:=aa hpa;have i9:=aa Q;have h6:Hid (Kn w c S ps ps.length (.int .i64 0) W0):=⟨0,_,rfl,zW _,by omega,d4,d6,e5,zZ _ _ _ _⟩;have d7:=aa d3;have HT:=aa hT;clear hI hP hps hpa hz Q d4 d6 e5 d3 hT;go_enter func61,ntmps61;go_wp2_with fail;rw[i9.out]
 try simp only[X]
 go_wp2_with fail
 go_loopg [12] ps.length (λj iv wr=>Kn w c S ps j iv wr)
 case atStart=>exact h6
 case round=>
  obtain⟨i,v,rfl,j8,hj,s,M,z,n⟩:=hrel;have k0:(0:Int)<=(i:Int):=zK _;have g0:S+2<=wr.heap.size:=by have:=z.lt;omega
  obtain⟨ao,E,rfl⟩:=pK n;by_cases c0:i<ps.length
  ·have k1:(i:Int)<(ps.length:Int):=by omega
   obtain⟨p,D⟩:∃p,ps[i]?=some p:=⟨_,zB c0⟩;have a5:=a8.out p (zU D);obtain⟨e,he⟩:∃e,c.T[p]?=some e:=⟨_,zB a5⟩;obtain⟨Z,f2,j5,k2,hR,a9,C,b2⟩:=HI.out.look he;obtain⟨bb,f8,rfl,f7,e6,b7⟩:=g2.out i p D;rw[X]at f7;have c1:wr.cell? ⟨bb,f8+i,none⟩=some (ae (c.R p)):=(s.cell (p:=⟨bb,f8+i,none⟩) f7).trans b7;have j0:bb<wr.heap.size:=by omega
   have R:=ag.below hR (show Below w.heap.size w wr by rw[X];exact s);have x1:wr.cell? ⟨c.R p,1,none⟩=some (.int .i64 e.kd):=R.cell 1;have x2:wr.cell? ⟨c.R p,2,none⟩=some (.slice Z e.parts.length f2):=R.cell 2;have j4:=R.lt;have P:ps.take (i+1)=ps.take i++[p]:=dU D;have y:=d7.out (i+1);rw[P,AI,zH]at y;have d0:wr.cell? ⟨S+1,0,none⟩=some (.slice ao (dH c.T (ps.take i)).length E):=z.cell 0;generalize hFLE:dH c.T (ps.take i)=FL at *;by_cases a4:∃l,e=.or l
   ·obtain⟨l,rfl⟩:=a4;have H:gl c.T p=l:=by unfold gl;rw[he]
    rw[H]at y;simp only[RE.kd,RE.parts]at x1 x2 C;have g5:Hid (Z=none->l.length=0):=λh0=>by
     cases l with
     |nil=>rfl
     |cons a l=>obtain⟨b9,o9,V,_⟩:=C 0 a rfl;rw[h0]at V;cases V
    have g3:Hid (∀ad,Z=some ad->∀j u,(l.map λp=>ae (c.R p))[j]?=some u->wr.drew.cell? (ad.add j)=some u):=λad h8 j u hu=>by
     rw[zg]at hu;obtain⟨p',g8,rfl⟩:=Option.map_eq_some_iff.1 hu;obtain⟨b9,o9,V,g4,_,i2⟩:=C j p' g8;rw[h8]at V;cases V;rw[show (⟨b9,o9,none⟩:Addr).add j=⟨b9,o9+j,none⟩ by simp[Addr.add]];show wr.cell? ⟨b9,o9+j,none⟩=_
     exact (s.cell (p:=⟨b9,o9+j,none⟩) (by rw[<-X];exact g4)).trans i2
    have F:=aa (λ(w3:World) (ao3:Option Addr) (cap3:Nat) (hg:wr.grownBy w3 _)=>Kn.step (w:=w) (wr:=wr) (w3:=w3) (ao3:=ao3) (cap3:=cap3) (j:=ps.length-(i+1)) hFLE P H c0 (zA _) s M z n hg);have U:Hid (wr.drew.ownsRow (S+2) 103 1 (.slice ao FL.length E) FL.length (FL.map λp=>ae (c.R p))):=n;clear R hR M z s n b7 C a9 b2 P hFLE H he D a5 e6;go_wp2_with fail
    go_region_law (refine Ax rfl (.tmp 21) (.tmp 25) 110 rfl (S+2) 103 i0 (.pointer none) 1 8 underlying110 hi g1 e8 f1 rfl (by decide) (.slice ao FL.length E) FL.length (FL.map λp=>ae (c.R p)) (by simp[Act.eval]) U Z l.length f2 (l.map λp=>ae (c.R p)) (by simp[Act.eval]) g5 (by simp) g3 (TL _ _) (by unfold maxLen;omega) (by omega) (by simp;omega) ?_;intro v' w3 o d;obtain⟨ao3,cap3,rfl⟩:=pK o;obtain⟨e3,f3,l3,h3⟩:=F.out w3 ao3 cap3 ⟨d.os,d.tape,d.output,d.size,d.block⟩ o;have H3:=aa h3;clear h3 o d)
    all_goals go_wp2_with fail
    all_goals go_roundg (ps.length-(i+1))
    all_goals first|omega|exact H3
   ·have H:gl c.T p=[p]:=by
     rcases lV (T:=c.T) p with⟨l,G,_⟩|⟨_,Y⟩
     ·rw[he]at G;cases G;exact absurd ⟨l,rfl⟩ a4
     ·exact Y
    rw[H]at y;have k9:(e.kd==2)=false:=zD.2 (λh=>a4 (by cases e<;>simp[RE.kd]at h;exact⟨_,rfl⟩));have F:=aa (λ(w3:World) (ao3:Option Addr) (cap3:Nat) (hg:(wr.alloc (.cells #[ae (c.R p)] 103)).grownBy w3 _)=>Kn.step (w:=w) (wr:=wr.alloc (.cells #[ae (c.R p)] 103)) (w3:=w3) (ao3:=ao3) (cap3:=cap3) (j:=ps.length-(i+1)) hFLE P H c0 (zA _) (s.alloc (by omega) _) (M.alloc _) (z.alloc _) (n.alloc _) hg);have U:Hid ((wr.alloc (.cells #[ae (c.R p)] 103)).ownsRow (S+2) 103 1 (.slice ao FL.length E) FL.length (FL.map λp=>ae (c.R p))):=n.alloc _;clear R hR M z s n b7 C a9 b2 P hFLE H he D a5 e6 a4;go_wp2_with (at_builtin;refine yD _ rfl _ _ 110 rfl (S+2) 103 i0 (.pointer none) 1 8 underlying110 hi g1 e8 f1 rfl (by decide) _ _ _ rfl U ⟨wr.heap.size,0,none⟩ 1 1 [ae (c.R p)] rfl rfl (Gv _ _) (by simp[Value.oneCell']) (by unfold maxLen;simp at y;omega) (by simp at y;omega) (by simp;omega) ?_;intro v' w3 o d _;obtain⟨ao3,cap3,rfl⟩:=pK o;obtain⟨e3,f3,l3,h3⟩:=F.out w3 ao3 cap3 d o;have H3:=aa h3;clear h3 o d)
    go_roundg (ps.length-(i+1))
    all_goals first|omega|exact H3
  ·have d1:decide ((i:Int)<(ps.length:Int))=false:=zI (by omega);have h5:i=ps.length:=by omega
   subst h5;rw[zQ]at n z;have y:=d7.out ps.length;rw[zQ]at y;have hI:=HI.out;have d2:0<c.T.length:=(zC.1 hI.t0).1;have c8:∀p,p<c.T.length->c.R p<S:=λp D=>by rw[<-X];exact (hI.cell0 D).2
   have c7:Below w.heap.size w wr:=by rw[X];exact s
   have b8:=aa (Gw c.T.length (rD HT a8) d2 (λp D=>⟨((c7.cell (p:=⟨c.R p,0,none⟩) (hI.cell0 D).2).trans (hI.cell0 D).1),by have:=c8 p D;omega⟩) g0 (TO n) (by omega));have d0:wr.cell? ⟨S+1,0,none⟩=some (.slice ao (dH c.T ps).length E):=z.cell 0;have h7:=aa M;have i8:=aa z;have f4:=aa c7;have d9:=aa c8;generalize hFLE:dH c.T ps=FL at *;have O:=aa hFLE;clear hI M z s n c7 c8 hFLE;go_wp2_with fail;refine b8.mono ?_;rintro e w5 ⟨rfl,l5,a3,f9,f5,J⟩;have d8:=aa (AK c.T.length (λa ha=>by have:=a3.mem_iff.1 ha;rw[<-O.out]at this;exact rD HT a8 a this) (λp D=>⟨by have:=d9.out p D;omega,by
    obtain⟨V,b4⟩:∃e,c.T[p]?=some e:=⟨_,zB D⟩;obtain⟨h4,g7,c3,i7,c5,_⟩:=HI.out.look b4;exact⟨_,_,(J.block _ (by have:=d9.out p D;omega)).trans (ag.below c5 f4)⟩⟩) (λi j hi hj h=>HI.inj i j hi hj h) (zJ g0 J.size) f5 (by rw[a3.length_eq];omega) f9)
   have k5:w5.cell? ⟨S+1,0,none⟩=some (.slice ao FL.length E):=(J.cell (p:=⟨S+1,0,none⟩) (by show S+1<S+2;omega)).trans d0;have k4:S+1<w5.heap.size:=by have:=J.size;omega
   have i6:=aa a3;have c6:=aa J;clear a3 f9 f5 J;go_wp2_with fail;refine d8.mono ?_;rintro e B ⟨v6,t,rfl,b5,e0,i4,a0⟩;obtain⟨L,b,rfl,a2⟩:=i4;have HM:Hid (∀x,x∈t↔x∈dH c.T ps):=λx=>by rw[e0 x,i6.out.mem_iff,O.out]
   have a1:Hid (∀x∈t,x<c.T.length):=λx hx=>rD HT a8 x ((HM x).1 hx);have i3:t.length<=FL.length:=by
    have h9:=rC (λ_=>1) (l:=t) (m:=FL) (b5.imp (λh=>by omega)) (λx hx=>by rw[<-O.out];exact (HM x).1 hx);have V:∀l:List Nat,aG (λ_=>1) l=l.length:=λl=>by induction l with|nil=>rfl|cons a l ih=>simp only[aG,ih,zG];omega
    rw[V,V]at h9;exact h9
   have N:ag B (S+1) [.slice ao FL.length E] 110:=(a0.block _ (by omega)).trans ((c6.block _ (by omega)).trans i8);have b1:ag B S [ae c.m] 95:=(a0.block _ (by omega)).trans ((c6.block _ (by omega)).trans h7);have f0:Below w.heap.size w B:=f4.trans ((c6.mono (by omega)).trans (a0.mono (by omega)));have k6:B.cell? ⟨S+1,0,none⟩=some (.slice ao FL.length E):=N.cell 0;have f6:=N.frozen 0;have k3:=N.lt;have A:Below w.heap.size w (B.setCell ⟨S+1,0,none⟩ (.slice L t.length b)):=f0.setCell (p:=⟨S+1,0,none⟩) (by show w.heap.size<=S+1;omega) _;have c4:ag (B.setCell ⟨S+1,0,none⟩ (.slice L t.length b)) (S+1) [.slice L t.length b] 110:=N.set 0 _;have I:ag (B.setCell ⟨S+1,0,none⟩ (.slice L t.length b)) S [ae c.m] 95:=b1.setOther (p:=⟨S+1,0,none⟩) (by show S≠S+1;omega) _;have K:DO (S+2) c.R t (.slice L t.length b) (B.setCell ⟨S+1,0,none⟩ (.slice L t.length b)):=⟨L,b,rfl,λj p hj=>by
    obtain⟨g,e1,e2,e3,e4⟩:=a2 j p hj;exact⟨g,e1,e2,by simpa [World.setCell]using e3,(zP (w:=B) (zk B ⟨S+1,0,none⟩ _ g (show g≠S+1 by omega))).trans e4⟩⟩
   have c2:=aa b5;clear e0 a0 b1 f0 k5 d0 b5 N;by_cases G:t.length=1
   ·obtain⟨x,rfl⟩:=zy.1 G;have hx:=a1.out x (by simp);obtain⟨g,rfl,j7,j6,j3⟩:=a2 0 x rfl;have l1:g≠S+1:=by omega
    have HG:Hid (au w c (q+1) (λu=>∃a∈ps,lg c.T a u) (orM (sz c.T) ps) (.returned (ae (c.R x))) (B.setCell ⟨S+1,0,none⟩ (.slice (some ⟨g,0,none⟩) 1 b))):=by
     refine⟨c,x,rfl,(HI.below A).more (by omega),Gone.below A,hx,?_,?_⟩
     ·funext u;rw[<-propext (AJ HT.out u)];refine propext ⟨λh=>⟨x,(HM x).1 (by simp),h⟩,?_⟩;rintro⟨a,ha,hu⟩;have:=(HM a).2 ha;simp at this;rw[<-this];exact hu
     ·exact Me.trans (Yf (f:=sz c.T) (l:=[x]) (by simp)) (Ko HT c2 HM)
    clear A c4 I K a2;simp only[zo,aD]at *;go_wp2_with fail;go_ret;exact HG
   ·have j1:((t.length:Int)==1)=false:=zD.2 (by omega);have g9:(t.length==1)=false:=zD.2 G;have b6:=aa (λ(k:Nat) (en:Bool) (hen:en=true↔∃a∈t,lg c.T a [])=>WJ (c:=c) (q:=q) (en:=en) (W:=((B.setCell ⟨S+1,0,none⟩ (.slice L t.length b)).drewN k)) HI HP hq X a1 G c2 (by omega) hen ⟨A.os,A.tape,A.output,A.size,A.block⟩ (I.drewN k) (c4.drewN k) ⟨L,b,rfl,by obtain⟨a7,j2,e7,K⟩:=K;cases e7;exact K⟩);have b3:=aa (Ip c.T.length (rB c.T) a1 d2 (λp D=>by
     obtain⟨V,b4⟩:∃e,c.T[p]?=some e:=⟨_,zB D⟩;obtain⟨h4,g7,c3,i7,c5,b0,_⟩:=HI.out.look b4;have c9:=(ag.below c5 A).cell 3;have:c3=rB c.T p:=by
      cases c3 with
      |true=>exact (oZ.2 (b0.1 rfl)).symm
      |false=>
       cases h:rB c.T p with
       |false=>rfl
       |true=>have:=b0.2 (oZ.1 h);cases this
     rw[<-this];exact c9) K (by omega))
    have d5:Hid (t.any (rB c.T)=true↔∃a∈t,lg c.T a []):=by
     show _↔_
     rw[List.any_eq_true];exact⟨λ⟨a,G,Y⟩=>⟨a,G,oZ.1 Y⟩,λ⟨a,G,Y⟩=>⟨a,G,oZ.2 Y⟩⟩
    have i5:Hid (∀r w9,jF w c (q+1) (.or t) r w9->au w c (q+1) (λu=>∃a∈ps,lg c.T a u) (orM (sz c.T) ps) r w9):=λr w9 h9=>h9.at (zE _ _) a1 (by
     funext u;rw[<-propext (AJ HT.out u)];exact propext ⟨λ⟨a,G,Y⟩=>⟨a,(HM a).1 G,Y⟩,λ⟨a,G,Y⟩=>⟨a,(HM a).2 G,Y⟩⟩) (Ko HT c2 HM)
    generalize t.any (rB c.T)=en at b3 d5;have k7:(B.setCell ⟨S+1,0,none⟩ (.slice L t.length b)).cell? ⟨S,0,none⟩=some (ae c.m):=I.cell 0;have n7:S≠S+1:=by omega
    have k8:B.cell? ⟨S,0,none⟩=some (ae c.m):=(zP (w:=B) (zk B ⟨S+1,0,none⟩ _ S n7)).symm.trans k7;have l0:S<B.heap.size:=by omega
    clear A c4 I K a2;go_wp2_with fail;refine b3.mono ?_;rintro e w8 ⟨rfl,q8,rfl⟩;go_wp2_with fail;have hk:=b6.out q8 en d5;rw[show ((B.setCell ⟨S+1,0,none⟩ (.slice L t.length b)).drewN q8).heap.size=B.heap.size by simp[World.setCell]]at hk;refine hk.mono ?_;intro r w9 h9;have i1:=aa (i5 r w9 h9);obtain⟨c9,j9,rfl,g6⟩:=h9;clear g6 hk;go_wp2_with fail;go_ret;exact i1
