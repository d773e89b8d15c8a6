import Derived.Deep.RegionLawGrows
import Derived.Test.YtebnghmioamheaaGreatDoorM40
set_option maxHeartbeats 4000000
set_option maxRecDepth 100000
set_option linter.all false
namespace Go.Proofs.YtebnghmioamheaaGreatDoor
open Go.Shelf Go.RowKit Go.Lib Go.Sort Brm Tryz
variable {l ps:List Nat}{w:World}{c:MC}{q p B:Nat}{T:List RE}{R:Nat->Nat}{v:Value}
def gl (T:List RE)(p:Nat):List Nat:=match T[p]? with|some (.or l)=>l|_=>[p]
def dH (T:List RE)(ps:List Nat):List Nat:=ps.flatMap (gl T)
theorem AI (T:List RE)(ps:List Nat)(p:Nat):dH T (ps++[p])=dH T ps++gl T p:=by simp[dH]
theorem fY (f:Nat->Nat):∀l m:List Nat,aG f (l++m)=aG f l+aG f m
 | [],m=>by simp[aG]
 |a::l,m=>by simp only[zV,aG];rw[fY f l m];omega
theorem pL (f:Nat->Nat):∀l m:List Nat,dA f (l++m)=max (dA f l) (dA f m)
 | [],m=>by simp[dA]
 |a::l,m=>by simp only[zV,dA];rw[pL f l m];omega
theorem Qf (f:Nat->Nat){m:List Nat}(h:l.Perm m):aG f l=aG f m:=by
 induction h with
 |nil=>rfl
 |cons x _ ih=>simp only[aG,ih]
 |swap x y l=>simp only[aG];omega
 |trans _ _ h1 h2=>exact h1.trans h2
theorem rC (f:Nat->Nat):∀{l m:List Nat},l.Nodup->(∀x∈l,x∈m)->aG f l<=aG f m
 | [],m,_,_=>zW _
 |a::l,m,hn,hs=>by
  have d:=hs a (by simp);rw[Qf f (List.perm_cons_erase d)];simp only[aG];have b:=List.nodup_cons.1 hn;have:=rC f (l:=l) (m:=m.erase a) b.2 (λx c=>(List.mem_erase_of_ne (by intro e;subst e;exact b.1 c)).2 (hs x (by simp[c])));omega
theorem xe (f:Nat->Nat):∀{l m:List Nat},(∀x∈l,x∈m)->dA f l<=dA f m
 | [],m,_=>zW _
 |a::l,m,hs=>by
  simp only[dA];have c:=uU (f:=f) (hs a (by simp));have d:=xe f (l:=l) (m:=m) (λx b=>hs x (by simp[b]));omega
theorem oh {f:Nat->Nat}:∀{l:List Nat},(∀a∈l,1<=f a)->l.length<=aG f l
 | [],_=>zA _
 |a::l,h=>by simp only[aG,zG];have:=h a (by simp);have:=oh (f:=f) (l:=l) (λb c=>h b (by simp[c]));omega
def CS (T:List RE):Prop:=∀(i:Nat) (e:RE),T[i]?=some e->∀a∈e.parts,a<i
theorem MkI.wfT (h:MkI w c q):CS c.T:=λi e a=>(h.wf i e a).2
theorem lV (p:Nat):(∃l,T[p]?=some (.or l)/\gl T p=l)\/((∀l,T[p]?≠some (.or l))/\gl T p=[p]):=by
 unfold gl
 split
 ·rename_i l h;exact .inl ⟨l,h,rfl⟩
 ·rename_i h;exact .inr ⟨λl e=>h l e,rfl⟩
theorem TM (hT:CS T)(hp:p<T.length):∀a∈gl T p,a<T.length:=by
 intro a b;rcases lV (T:=T) p with⟨l,h1,h2⟩|⟨_,h2⟩
 ·rw[h2]at b;have:=hT p _ h1 a b;omega
 ·rw[h2]at b;simp at b;omega
theorem rD (hT:CS T)(hp:∀a∈ps,a<T.length):∀a∈dH T ps,a<T.length:=by
 intro a d;obtain⟨p,b,c⟩:=xL.1 d;exact TM hT (hp p b) a c
theorem TN (hT:CS T)(p:Nat):dA (λa=>(sz T a).n) (gl T p)<=(sz T p).n/\dA (λa=>(sz T a).p) (gl T p)<=(sz T p).p/\aG (λa=>(sz T a).y) (gl T p)<=(sz T p).y/\aG (λa=>(sz T a).z) (gl T p)<=(sz T p).z:=by
 rcases lV (T:=T) p with⟨l,h1,h2⟩|⟨_,h2⟩
 ·rw[h2,pg h1 (hT p _ h1)];simp only[RE.size,orM];omega
 ·rw[h2];simp[dA,aG]
theorem xf {T:List RE}(hT:CS T):∀(ps:List Nat),dA (λa=>(sz T a).n) (dH T ps)<=dA (λa=>(sz T a).n) ps/\dA (λa=>(sz T a).p) (dH T ps)<=dA (λa=>(sz T a).p) ps/\aG (λa=>(sz T a).y) (dH T ps)<=aG (λa=>(sz T a).y) ps/\aG (λa=>(sz T a).z) (dH T ps)<=aG (λa=>(sz T a).z) ps
 | []=>by simp[dH,dA,aG]
 |p::ps=>by
  have b:=TN hT p;have c:=xf hT ps;have e:dH T (p::ps)=gl T p++dH T ps:=by simp[dH]
  rw[e,pL,pL,fY,fY];simp only[dA,aG];omega
theorem Qg (hT:CS T)(hp:∀a∈ps,a<T.length):(dH T ps).length<=aG (λa=>(sz T a).z) ps :=
 zJ (oh (f:=λa=>(sz T a).z) (λa b=>(sz_one hT a (rD hT hp a b)).2.2.2)) (xf hT ps).2.2.2
theorem AJ (hT:CS T)(u:LZ):(∃a∈dH T ps,lg T a u)↔∃a∈ps,lg T a u:=by
 have b:∀p,(∃a∈gl T p,lg T a u)↔lg T p u:=by
  intro p;rcases lV (T:=T) p with⟨l,e,c⟩|⟨_,c⟩
  ·rw[c,Nb e (hT p _ e)];rfl
  ·rw[c];simp
 constructor
 ·rintro⟨a,f,d⟩;obtain⟨p,e,c⟩:=xL.1 f;exact⟨p,e,(b p).1 ⟨a,c,d⟩⟩
 ·rintro⟨p,g,d⟩;obtain⟨a,f,d⟩:=(b p).2 d;exact⟨a,xL.2 ⟨p,g,f⟩,d⟩
theorem Ko (hT:CS T)(hn:l.Pairwise (·<·))(hm:∀x,x∈l↔x∈dH T ps):orM (sz T) l<=orM (sz T) ps:=by
 have c:l.Nodup:=hn.imp (λh=>by omega);have h:=xf hT ps;have g:=xe (λa=>(sz T a).n) (l:=l) (m:=dH T ps) (λx b=>(hm x).1 b);have f:=xe (λa=>(sz T a).p) (l:=l) (m:=dH T ps) (λx b=>(hm x).1 b);have d:=rC (λa=>(sz T a).y) c (λx b=>(hm x).1 b);have e:=rC (λa=>(sz T a).z) c (λx b=>(hm x).1 b);refine⟨?_,?_,?_,?_⟩<;>simp only[orM]<;>omega
def ML (B:Nat)(R:Nat->Nat)(l:List Nat)(v:Value)(w:World):Prop:=(l=[]/\∃a cap,v=.slice a 0 cap)\/∃g cap,v=Vs g l.length cap/\l.length<=cap/\B<=g/\g<w.heap.size/\RowP w g R l.toArray w
theorem TO (h:w.ownsRow B 103 1 v l.length (l.map λp=>ae (R p))):ML B R l v w:=by
 rcases h.2 with⟨rfl,e⟩|⟨g,b,f,rfl,k,m,i,n,q,o⟩
 ·exact .inl ⟨zq.1 e,none,0,rfl⟩
 ·refine .inr ⟨g,b,rfl,i,k,(h.lt g rfl).2,But.refl _ _,λj c=>?_⟩;have a:j<l.length:=by simpa using c
  refine⟨?_,h.frozenAt j⟩;rw[h.cellAt j (by omega),zg,zB a];have d:l.toArray[j]! = l[j]:=by simp[getElem!_pos,a]
  rw[d];rfl
theorem Gw (N:Nat)(hl:∀a∈l,a<N)(h0:0<N)(hN:∀p,p<N->w.cell? (aD (R p) 0)=some (Vi (p:Int))/\R p<B)(hB:B<=w.heap.size)(hv:ML B R l v w)(hlen:l.length<=9000000000000000):Calls prog 99 #[v,Vf 100 #[]] w λe w'=>e=.returned (.tuple #[])/\∃l':List Nat,l'.Perm l/\l'.Pairwise (λx y=>x<=y)/\ML B R l' v w'/\Below B w w':=by
 rcases hv with⟨rfl,a,b,rfl⟩|⟨g,b,rfl,n,m,f,h⟩
 ·have c:=AnyF.slices_SortFunc_none Ie a b (Vf 100 #[]) w;change Calls prog 99 _ _ _ at c;refine c.mono ?_;rintro e w' ⟨i,rfl⟩;exact⟨i,[],List.Perm.refl _,by simp,.inl ⟨rfl,a,b,rfl⟩,zE _ _⟩
 ·refine (Dq N l hl b h0 (λp d=>⟨(hN p d).1,by have:=(hN p d).2;omega⟩) h f hlen).mono ?_;rintro e w' ⟨i,l',d,q,j⟩;refine⟨i,l',d,q,.inr ⟨g,b,by rw[d.length_eq],by rw[d.length_eq];exact n,m,zF f j.but.size,But.refl _ _,j.cell⟩,j.but.toBelow (λk o=>by subst o;exact m) hB⟩
theorem Gx (a:OA)(cap:Nat)(w:World):Calls prog 102 #[.slice a 0 cap] w λe w'=>e=.returned (.slice a 0 cap)/\w'=w:=by
 go_enter func102,ntmps102;go_wp2_with fail;go_ret;exact⟨rfl,rfl⟩
def DO (B:Nat)(R:Nat->Nat)(l:List Nat)(v:Value)(w:World):Prop:=∃a cap,v=.slice a l.length cap/\∀j p,l[j]?=some p->∃g,a=some (aD g 0)/\B<=g/\g<w.heap.size/\w.cell? (aD g j)=some (ae (R p))
theorem AK (N:Nat)(hl:∀a∈l,a<N)(hN:∀p,p<N->R p<B/\∃cs t,ag w (R p) cs t)(hinj:∀i j,i<N->j<N->R i=R j->i=j)(hB:B<=w.heap.size)(hv:ML B R l v w)(hlen:l.length<=9000000000000000)(hs:l.Pairwise (λx y=>x<=y)):Calls prog 102 #[v] w λe w'=>∃(v':Value) (l':List Nat),e=.returned v'/\l'.Pairwise (·<·)/\(∀x,x∈l'↔x∈l)/\DO B R l' v' w'/\Below B w w':=by
 rcases hv with⟨rfl,a,c,rfl⟩|⟨g,c,rfl,E,s,r,q⟩
 ·refine (Gx a c w).mono ?_;rintro e w' ⟨rfl,rfl⟩;exact⟨_,[],rfl,by simp,λ_=>Iff.rfl,⟨a,c,rfl,λj p h=>by simp at h⟩,zE _ _⟩
 ·have b:∀j,j<l.toArray.size->l.toArray[j]!<N:=λj d=>by
   have o:j<l.length:=by simpa using d
   have D:l.toArray[j]! = l[j]:=by simp[getElem!_pos,o]
   rw[D];exact hl _ (xE o)
  have f:=Ik c q (λj d=>⟨by have:=(hN _ (b j d)).1;omega,(hN _ (b j d)).2⟩) (λi j C d h=>hinj _ _ (b i C) (b j d) h) (by simpa using hlen) (by simpa using E);rw[show l.toArray.size=l.length by simp]at f;refine f.mono ?_;rintro e w' ⟨rfl,m,n⟩;have z:=wC l;have u:=Dr l.toArray (Lz hs);rw[show l.toArray.size=l.length by simp]at z u;exact⟨_,compactUpTo l.toArray l.length,rfl,u,z,⟨_,_,rfl,λj p d=>⟨g,rfl,s,zF r m.size,n j p d⟩⟩,m.toBelow (λk A=>by subst A;exact s) hB⟩
theorem FU (a:Nat)(b:Bool)(W:World)(ha:W.cell? (aD a 3)=some (.bool b)):Calls prog 105 #[ae a] W λe w'=>e=.returned (.bool b)/\∃q,w'=W.drewN q:=by
 have c:=eU ha;go_enter func105,ntmps105;go_wp2_with fail;go_ret;exact⟨rfl,0,rfl⟩
theorem Ip (N:Nat)(en:Nat->Bool)(hl:∀a∈l,a<N)(h0:0<N)(hN:∀p,p<N->w.cell? (aD (R p) 3)=some (.bool (en p)))(hv:DO B R l v w)(hlen:l.length<=9000000000000000):Calls prog 104 #[v,Vf 105 #[]] w λe w'=>e=.returned (.bool (l.any en))/\∃q,w'=w.drewN q:=by
 obtain⟨a,h,rfl,n⟩:=hv;cases hl0:l with
 |nil=>
  have b:=AnyE.slices_ContainsFunc_empty CF a h (Vf 105 #[]) w;change Calls prog 104 _ _ _ at b;refine b.mono ?_;rintro e w' ⟨k,rfl⟩;exact⟨k,0,rfl⟩
 |cons p0 l0=>
  rw[<-hl0];obtain⟨g,rfl,_⟩:=n 0 p0 (by rw[hl0];rfl)
  haveI:Inhabited (nB N):=⟨⟨0,h0⟩⟩
  have d:=xW l hl;generalize xV l hl=ns at d;have A:ns.length=l.length:=by rw[<-d];simp
  have t:∀args w,(callFunc 105 args).run prog w=.ok (.enter 105 args) w:=enters_of func105 (by kernel_rfl) rfl;have z:PredAt prog 105 #[] (λx:nB N=>ae (R x.1)) (λx=>en x.1) w:=λW x u=>by
   have c:=hN x.1 x.2;exact FU (R x.1) (en x.1) W ((u.cell (p:=(aD (R x.1) 3)) (eU c)).trans c)
  have b:=AnyE.slices_ContainsFunc CF (λx:nB N=>ae (R x.1)) (λx=>en x.1) 105 #[] t g 0 l.length h ns w z (by omega) (by omega) (λj m=>by
   have i:j<l.length:=by omega
   obtain⟨C,s,_,_,f⟩:=n j l[j] (zB i);cases s;rw[zf,f];have y:ns[j]! = ns[j]:=by simp[getElem!_pos,m]
   have r:ns[j].1=l[j]:=by
    have:(ns.map Subtype.val)[j]'(by simpa using m)=l[j]:=by simp only[d]
    simpa using this
   rw[y];show _=some (ae (R ns[j].1))
   rw[r])
  change Calls prog 104 _ _ _ at b;refine b.mono ?_;rintro e w' ⟨k,q,o⟩;refine⟨?_,q,o⟩;rw[k];have:(ns.take l.length).any (λx=>en x.1)=l.any en:=by
   rw[yF (by omega)]
   conv=>rhs;rw[<-d,List.any_map]
   rfl
  rw[this]
theorem tH (base:Nat)(t ty e:TypeId)(i:TypeInfo)(size c:Nat)(ht:prog.underlying t=some (.slice e))(hi:prog.info? e=some i)(v:Value)(n:Nat)(xs:LV)(hown:w.ownsRow base e size v n xs):(Builtin.append_ #[t,t] ty #[v,.slice none 0 c]).run prog w=.ok v w:=by
 rcases hown.2 with⟨rfl,rfl⟩|⟨g,d,b,rfl,_,_,a,_⟩
 ·simp[Builtin.append_,yp ht,sizeOf,typeInfo,hi,Builtin.lenOf,Builtin.firstCells]
 ·simp[Builtin.append_,yp ht,sizeOf,typeInfo,hi,Builtin.lenOf,Builtin.firstCells,a,storeCells]
theorem Ax {ops:Array Oper}{o:Oper}{a:Act}{w:World}{K:Act->World->Prop}{Q:Exit->Act->World->Prop}{E:Prop}
  (hg:o.guard=none) (s x:Operand) (t:TypeId) (hop:o.op=Op.call { callee:=Callee.builtin Builtin.append,args:=#[s,x],argTypes:=#[t,t] })
  (base:Nat) (e:TypeId) (i:TypeInfo) (z:Value) (size bytes:Nat) (h1:prog.underlying t=some (.slice e)) (h2:prog.info? e=some i) (h3:i.zero=some z) (h4:i.size=size) (h5:i.bytes=bytes) (h6:z.cells.size=size) (h7:0<size)
  (v:Value) (n:Nat) (xs:LV) (hs:a.eval s=v) (hown:w.ownsRow base e size v n xs)
  (xa:OA) (m c:Nat) (news:LV) (hx:a.eval x=.slice xa m c) (hx0:xa=none->m=0) (hn:news.length=m*size) (hc:∀ad,xa=some ad->∀j u,news[j]?=some u->w.cell? (ad.add j)=some u) (h1c:∀u∈news,u.oneCell'=true)
  (b1:n+m<=maxLen) (b2:(n+m)*bytes<=140737488355328) (hbase:base<=w.heap.size)
  (hK:∀v' w',w'.ownsRow base e size v' (n+m) (xs++news)->w.grownBy w' v.ownBlock->K (a.put o.dst v') w') :
  if Region.wanted o (yielded ops a.tmps)=true then Oper.wp prog o a w K Q else E:=by
 have g:Region.wanted o (yielded ops a.tmps)=true:=by simp[Region.wanted,hg]
 rw[zX g];cases xa with
 |some ad=>
  obtain⟨v',w',b,f,d,_⟩:=run_append_own (P:=prog) w base t o.type e i z size bytes h1 h2 h3 h4 h5 h6 h7 v n xs hown ad m c news hn (hc ad rfl) h1c b1 b2 hbase;unfold Oper.wp;simp[execOp,hop,resolve,invoke,builtin,hs,hx,b,Result.andThen];exact hK v' w' f d
 |none=>
  obtain rfl:=hx0 rfl;obtain rfl:news=[]:=yf (by simpa using hn);have b:=tH (w:=w) base t o.type e i size c h1 h2 v n xs hown;unfold Oper.wp;simp[execOp,hop,resolve,invoke,builtin,hs,hx,b,Result.andThen];exact hK v w (by simpa using hown) (World.grownBy.refl _ _)
set_option maxHeartbeats 8000000
theorem ia:(prog.info? 103).map (λi=>(i.zero,i.size,i.bytes))=some (some (.pointer none),1,8):=by kernel_rfl
theorem pK {n:Nat}{xs:LV}(h:w.ownsRow B 103 1 v n xs):∃ao cap,v=.slice ao n cap:=by
 rcases h.2 with⟨rfl,rfl⟩|⟨g,cap,a,rfl,_⟩<;>exact⟨_,_,rfl⟩
def Kn (w:World)(c:MC)(S:Nat)(ps:List Nat)(j:Nat)(iv:Value)(wr:World):Prop:=∃(i:Nat) (v:Value),iv=Vi (i:Int)/\i<=ps.length/\ps.length-i<=j/\Below S w wr/\ag wr S [ae c.m] 95/\ag wr (S+1) [v] 110/\wr.ownsRow (S+2) 103 1 v (dH c.T (ps.take i)).length ((dH c.T (ps.take i)).map λp=>ae (c.R p))
theorem TL (R:Nat->Nat)(l:List Nat):∀u∈l.map (λp=>ae (R p)),u.oneCell'=true:=by
 intro u a;obtain⟨p,_,rfl⟩:=yH.1 a;rfl
theorem MK {n:Nat}{xs:LV}(h:w.ownsRow B 103 1 v n xs){p:Addr}(hp:p.block<B)(u:Value):(w.setCell p u).ownsRow B 103 1 v n xs:=by
 refine⟨h.1,?_⟩;rcases h.2 with c|⟨g,b,a,e,d,f,r⟩
 ·exact .inl c
 ·exact .inr ⟨g,b,a,e,d,(zk _ _ _ _ (by omega)).trans f,r⟩
theorem Gv (w:World)(x:Nat):∀j u,[ae x][j]?=some u->(w.alloc (.cells #[ae x] 103)).cell? (((aD w.heap.size 0):Addr).add j)=some u:=by
 intro j u a
 match j,a with
 |0,a=>simp at a;subst a;simp[Addr.add]
open Classical in
noncomputable def rB (T:List RE)(p:Nat):Bool:=decide (lg T p [])
theorem oZ :rB T p=true↔lg T p []:=by simp[rB]
theorem Kn.step {wr w3:World}{S i cap cap3:Nat}{FL:List Nat}{ao ao3:OA}{j:Nat}(hFL:dH c.T (ps.take i)=FL)(hTK:ps.take (i+1)=ps.take i++[p])(hpo:gl c.T p=l)(hi:i<ps.length)(hj:ps.length-(i+1)<=j)(hbel:Below S w wr)(hk1:ag wr S [ae c.m] 95)(hk2:ag wr (S+1) [.slice ao FL.length cap] 110)(hown:wr.ownsRow (S+2) 103 1 (.slice ao FL.length cap) FL.length (FL.map λp=>ae (c.R p)))(hgrow:wr.grownBy w3 (Value.slice ao FL.length cap).ownBlock)(hown':w3.ownsRow (S+2) 103 1 (.slice ao3 (FL.length+l.length) cap3) (FL.length+l.length) ((FL.map λp=>ae (c.R p))++l.map λp=>ae (c.R p))) :
  w3.cell? (aD (S+1) 0)=some (.slice ao FL.length cap)/\w3.frozen? (aD (S+1) 0)=false/\S+1<w3.heap.size/\Kn w c S ps j (Vi ((i+1:Nat):Int)) (w3.setCell (aD (S+1) 0) (.slice ao3 (FL.length+l.length) cap3)):=by
 have b:∀k,k<S+2->some k≠(Value.slice ao FL.length cap).ownBlock:=λk h e=>by have:=(hown.lt k e.symm).1;omega
 have d:=hk1.grown hgrow (b _ (by omega));have a:=hk2.grown hgrow (b _ (by omega));have g:S<=wr.heap.size:=by have:=hk1.lt;omega
 have f:=hbel.grown hgrow g (λk e=>by have:=(hown.lt k e).1;omega);refine⟨a.cell 0,a.frozen 0,a.lt,i+1,_,rfl,by omega,hj,f.setCell (p:=(aD (S+1) 0)) (by show S<=S+1;omega) _,d.setOther (p:=(aD (S+1) 0)) (by show S≠S+1;omega) _,a.set 0 _,?_⟩;rw[hTK,AI,hFL,hpo,zH,xH];exact MK hown' (by show S+1<S+2;omega) _
theorem WJ {W:World}{S:Nat}{en:Bool}(hI:MkI w c q)(hP:aZ w)(hq:q<=9000000000000000000)(hS:w.heap.size=S)(hl:∀a∈l,a<c.T.length)(h1:l.length≠1)(hr:l.Pairwise (·<·))(hlen:l.length<=3000000000000)(hen:en=true↔∃a∈l,lg c.T a [])(hB:Bw w W)(hb1:ag W S [ae c.m] 95)(hb2:ag W (S+1) [v] 110)(hv:DO (S+2) c.R l v W):Calls prog 62 #[ae c.m,ae W.heap.size,Vz] (W.alloc (.cells #[Vi 0,Vi 2,v,.bool en,Vf 103 #[ae (S+1),ae S]] 113)) (jF w c (q+1) (.or l)):=by
 obtain⟨a,d,rfl,t⟩:=hv;have k:=hb2.lt;have i:∀g,S<=g->g≠W.heap.size->¬(c.S g\/g=W.heap.size):=λg h1 s f=>by
  rcases f with f|f
  ·have:=hI.S_lt f;omega
  ·exact s f
 have h:Bw w (W.alloc (.cells #[Vi 0,Vi 2,.slice a l.length d,.bool en,Vf 103 #[ae (S+1),ae S]] 113)):=hB.alloc hB.size _;have b:dQ (W.alloc (.cells #[Vi 0,Vi 2,.slice a l.length d,.bool en,Vf 103 #[ae (S+1),ae S]] 113)) (λg=>c.S g\/g=W.heap.size) c.R a l:=λj p r=>by
  obtain⟨g,m,u,o,n⟩:=t j p r;exact⟨g,0,m,by simp;omega,i g (by omega) (by omega),by rw[zf];exact (Below.cell ((zE W.heap.size W).alloc (zA _) _) (p:=(aD g j)) o).trans n⟩
 exact sk (e:=.or l) hI h (hP.below h) ⟨h1,hr⟩ hl (by have:=hB.size;exact this) (ag.new W _ 113) hen b
  ⟨S+1,S,a,d,rfl,rfl,i _ (by omega) (by omega),i _ (by omega) (by omega),hb2.alloc _,hb1.alloc _,b⟩ (iE.nil _ _) (by simp[RE.args]) hlen hq
theorem AH {pc:Nat}{pa:OA}(hI:MkI w c q)(hP:aZ w)(hq:q<=9000000000000000000)(hps:∀a∈ps,a<c.T.length)(hpa:dQ w c.S c.R pa ps)(hz:aG (λa=>(sz c.T a).z) ps<=3000000000000):Calls prog 61 #[ae c.m,.slice pa ps.length pc] w (au w c (q+1) (λu=>∃a∈ps,lg c.T a u) (orM (sz c.T) ps)):=by
 obtain⟨i0,hi,f9,d7,d9⟩:=zz ia;obtain⟨S,V⟩:∃S,w.heap.size=S:=⟨_,rfl⟩;obtain⟨W0,O⟩:∃W0,(w.alloc (.cells #[ae c.m] 95)).alloc (.cells #[.slice none 0 0] 110)=W0:=⟨_,rfl⟩;have e6:Below S w W0:=by rw[<-O,<-V];exact ((zE _ _).alloc (zA _) _).alloc (by simp) _
 have f7:ag W0 S [ae c.m] 95:=by rw[<-O,<-V];exact (ag.new w [ae c.m] 95).alloc _
 have f8:ag W0 (S+1) [.slice none 0 0] 110:=by rw[<-O,<-V];have:=ag.new (w.alloc (.cells #[ae c.m] 95)) [.slice none 0 0] 110;simpa using this
 have hT:=hI.wfT;have a1:ps.length<=3000000000000:=zJ (oh (f:=λa=>(sz c.T a).z) (λa ha=>(hI.sz_one (hps a ha)).2.2.2)) hz;have d8:∀i,(dH c.T (ps.take i)).length<=3000000000000:=λi=>by
  have G:=Qg hT (ps:=ps.take i) (λa ha=>hps a (yi ha));have Y:aG (λa=>(sz c.T a).z) ps=aG (λa=>(sz c.T a).z) (ps.take i)+aG (λa=>(sz c.T a).z) (ps.drop i):=by rw[<-fY,zj]
  omega
 have HI:=aa hI;have HP:=aa hP;have a2:=aa hps;have g6:=aa hpa;have g9:=aa O;have h6:Hid (Kn w c S ps ps.length (.int .i64 0) W0):=⟨0,_,rfl,zW _,by omega,e6,f7,f8,zZ _ _ _ _⟩;have d4:=aa d8;have HT:=aa hT;clear hI hP hps hpa hz O e6 f7 f8 d8 hT;go_enter func61,ntmps61;go_wp2_with fail;rw[g9.out]
 try simp only[V]
 go_wp2_with fail
 go_loopg [12] ps.length (λj iv wr=>Kn w c S ps j iv wr)
 case atStart=>exact h6
 case round=>
  obtain⟨i,v,rfl,l0,hj,s,L,z,n⟩:=hrel;have k0:(0:Int)<=(i:Int):=zK _;have g1:S+2<=wr.heap.size:=by have:=z.lt;omega
  obtain⟨ao,E,rfl⟩:=pK n;by_cases b5:i<ps.length
  ·have k1:(i:Int)<(ps.length:Int):=by omega
   obtain⟨p,C⟩:∃p,ps[i]?=some p:=⟨_,zB b5⟩;have a1:=a2.out p (zU C);obtain⟨e,he⟩:∃e,c.T[p]?=some e:=⟨_,zB a1⟩;obtain⟨a0,e5,j3,k3,hR,b3,D,b2⟩:=HI.out.look he;obtain⟨bb,f0,rfl,f4,d6,c8⟩:=g6.out i p C;rw[V]at f4;have c1:wr.cell? ⟨bb,f0+i,none⟩=some (ae (c.R p)):=(s.cell (p:=⟨bb,f0+i,none⟩) f4).trans c8;have j0:bb<wr.heap.size:=by omega
   have Q:=ag.below hR (show Below w.heap.size w wr by rw[V];exact s);have x1:wr.cell? ⟨c.R p,1,none⟩=some (.int .i64 e.kd):=Q.cell 1;have x2:wr.cell? ⟨c.R p,2,none⟩=some (.slice a0 e.parts.length e5):=Q.cell 2;have k2:=Q.lt;have U:ps.take (i+1)=ps.take i++[p]:=dU C;have y:=d4.out (i+1);rw[U,AI,zH]at y;have c5:wr.cell? ⟨S+1,0,none⟩=some (.slice ao (dH c.T (ps.take i)).length E):=z.cell 0;generalize hFLE:dH c.T (ps.take i)=FL at *;by_cases a5:∃l,e=.or l
   ·obtain⟨l,rfl⟩:=a5;have H:gl c.T p=l:=by unfold gl;rw[he]
    rw[H]at y;simp only[RE.kd,RE.parts]at x1 x2 D;have g8:Hid (a0=none->l.length=0):=λh0=>by
     cases l with
     |nil=>rfl
     |cons a l=>obtain⟨b9,o9,X,_⟩:=D 0 a rfl;rw[h0]at X;cases X
    have g4:Hid (∀ad,a0=some ad->∀j u,(l.map λp=>ae (c.R p))[j]?=some u->wr.drew.cell? (ad.add j)=some u):=λad h8 j u hu=>by
     rw[zg]at hu;obtain⟨p',h5,rfl⟩:=Option.map_eq_some_iff.1 hu;obtain⟨b9,o9,X,g2,_,h4⟩:=D j p' h5;rw[h8]at X;cases X;rw[show (⟨b9,o9,none⟩:Addr).add j=⟨b9,o9+j,none⟩ by simp[Addr.add]];show wr.cell? ⟨b9,o9+j,none⟩=_
     exact (s.cell (p:=⟨b9,o9+j,none⟩) (by rw[<-V];exact g2)).trans h4
    have F:=aa (λ(w3:World) (ao3:Option Addr) (cap3:Nat) (hg:wr.grownBy w3 _)=>Kn.step (w:=w) (wr:=wr) (w3:=w3) (ao3:=ao3) (cap3:=cap3) (j:=ps.length-(i+1)) hFLE U H b5 (zA _) s L z n hg);have N:Hid (wr.drew.ownsRow (S+2) 103 1 (.slice ao FL.length E) FL.length (FL.map λp=>ae (c.R p))):=n;clear Q hR L z s n c8 D b3 b2 U hFLE H he C a1 d6;go_wp2_with fail
    go_region_law (refine Ax rfl (.tmp 21) (.tmp 25) 110 rfl (S+2) 103 i0 (.pointer none) 1 8 underlying110 hi f9 d7 d9 rfl (by decide) (.slice ao FL.length E) FL.length (FL.map λp=>ae (c.R p)) (by simp[Act.eval]) N a0 l.length e5 (l.map λp=>ae (c.R p)) (by simp[Act.eval]) g8 (by simp) g4 (TL _ _) (by unfold maxLen;omega) (by omega) (by simp;omega) ?_;intro v' w3 o d;obtain⟨ao3,cap3,rfl⟩:=pK o;obtain⟨e3,f3,l3,h3⟩:=F.out w3 ao3 cap3 ⟨d.os,d.tape,d.output,d.size,d.block⟩ o;have H3:=aa h3;clear h3 o d)
    all_goals go_wp2_with fail
    all_goals go_roundg (ps.length-(i+1))
    all_goals first|omega|exact H3
   ·have H:gl c.T p=[p]:=by
     rcases lV (T:=c.T) p with⟨l,G,_⟩|⟨_,Y⟩
     ·rw[he]at G;cases G;exact absurd ⟨l,rfl⟩ a5
     ·exact Y
    rw[H]at y;have k4:(e.kd==2)=false:=zD.2 (λh=>a5 (by cases e<;>simp[RE.kd]at h;exact⟨_,rfl⟩));have F:=aa (λ(w3:World) (ao3:Option Addr) (cap3:Nat) (hg:(wr.alloc (.cells #[ae (c.R p)] 103)).grownBy w3 _)=>Kn.step (w:=w) (wr:=wr.alloc (.cells #[ae (c.R p)] 103)) (w3:=w3) (ao3:=ao3) (cap3:=cap3) (j:=ps.length-(i+1)) hFLE U H b5 (zA _) (s.alloc (by omega) _) (L.alloc _) (z.alloc _) (n.alloc _) hg);have N:Hid ((wr.alloc (.cells #[ae (c.R p)] 103)).ownsRow (S+2) 103 1 (.slice ao FL.length E) FL.length (FL.map λp=>ae (c.R p))):=n.alloc _;clear Q hR L z s n c8 D b3 b2 U hFLE H he C a1 d6 a5;go_wp2_with (at_builtin;refine yD _ rfl _ _ 110 rfl (S+2) 103 i0 (.pointer none) 1 8 underlying110 hi f9 d7 d9 rfl (by decide) _ _ _ rfl N ⟨wr.heap.size,0,none⟩ 1 1 [ae (c.R p)] rfl rfl (Gv _ _) (by simp[Value.oneCell']) (by unfold maxLen;simp at y;omega) (by simp at y;omega) (by simp;omega) ?_;intro v' w3 o d _;obtain⟨ao3,cap3,rfl⟩:=pK o;obtain⟨e3,f3,l3,h3⟩:=F.out w3 ao3 cap3 d o;have H3:=aa h3;clear h3 o d)
    go_roundg (ps.length-(i+1))
    all_goals first|omega|exact H3
  ·have d1:decide ((i:Int)<(ps.length:Int))=false:=zI (by omega);have i5:i=ps.length:=by omega
   subst i5;rw[zQ]at n z;have y:=d4.out ps.length;rw[zQ]at y;have hI:=HI.out;have e0:0<c.T.length:=(zC.1 hI.t0).1;have b4:∀p,p<c.T.length->c.R p<S:=λp C=>by rw[<-V];exact (hI.cell0 C).2
   have c2:Below w.heap.size w wr:=by rw[V];exact s
   have b8:=aa (Gw c.T.length (rD HT a2) e0 (λp C=>⟨((c2.cell (p:=⟨c.R p,0,none⟩) (hI.cell0 C).2).trans (hI.cell0 C).1),by have:=b4 p C;omega⟩) g1 (TO n) (by omega));have c5:wr.cell? ⟨S+1,0,none⟩=some (.slice ao (dH c.T ps).length E):=z.cell 0;have i2:=aa L;have i6:=aa z;have d5:=aa c2;have f1:=aa b4;generalize hFLE:dH c.T ps=FL at *;have R:=aa hFLE;clear hI L z s n c2 b4 hFLE;go_wp2_with fail;refine b8.mono ?_;rintro e w5 ⟨rfl,l5,a8,e8,d2,M⟩;have d3:=aa (AK c.T.length (λa ha=>by have:=a8.mem_iff.1 ha;rw[<-R.out]at this;exact rD HT a2 a this) (λp C=>⟨by have:=f1.out p C;omega,by
    obtain⟨X,b7⟩:∃e,c.T[p]?=some e:=⟨_,zB C⟩;obtain⟨g5,g7,c7,i9,c6,_⟩:=HI.out.look b7;exact⟨_,_,(M.block _ (by have:=f1.out p C;omega)).trans (ag.below c6 d5)⟩⟩) (λi j hi hj h=>HI.inj i j hi hj h) (zJ g1 M.size) d2 (by rw[a8.length_eq];omega) e8)
   have k5:w5.cell? ⟨S+1,0,none⟩=some (.slice ao FL.length E):=(M.cell (p:=⟨S+1,0,none⟩) (by show S+1<S+2;omega)).trans c5;have j8:S+1<w5.heap.size:=by have:=M.size;omega
   have i3:=aa a8;have b6:=aa M;clear a8 e8 d2 M;go_wp2_with fail;refine d3.mono ?_;rintro e B ⟨v6,t,rfl,c4,f5,i8,a4⟩;obtain⟨J,b,rfl,a3⟩:=i8;have HM:Hid (∀x,x∈t↔x∈dH c.T ps):=λx=>by rw[f5 x,i3.out.mem_iff,R.out]
   have Z:Hid (∀x∈t,x<c.T.length):=λx hx=>rD HT a2 x ((HM x).1 hx);have i7:t.length<=FL.length:=by
    have h9:=rC (λ_=>1) (l:=t) (m:=FL) (c4.imp (λh=>by omega)) (λx hx=>by rw[<-R.out];exact (HM x).1 hx);have X:∀l:List Nat,aG (λ_=>1) l=l.length:=λl=>by induction l with|nil=>rfl|cons a l ih=>simp only[aG,ih,zG];omega
    rw[X,X]at h9;exact h9
   have P:ag B (S+1) [.slice ao FL.length E] 110:=(a4.block _ (by omega)).trans ((b6.block _ (by omega)).trans i6);have a9:ag B S [ae c.m] 95:=(a4.block _ (by omega)).trans ((b6.block _ (by omega)).trans i2);have g0:Below w.heap.size w B:=d5.trans ((b6.mono (by omega)).trans (a4.mono (by omega)));have k6:B.cell? ⟨S+1,0,none⟩=some (.slice ao FL.length E):=P.cell 0;have f6:=P.frozen 0;have k9:=P.lt;have A:Below w.heap.size w (B.setCell ⟨S+1,0,none⟩ (.slice J t.length b)):=g0.setCell (p:=⟨S+1,0,none⟩) (by show w.heap.size<=S+1;omega) _;have c0:ag (B.setCell ⟨S+1,0,none⟩ (.slice J t.length b)) (S+1) [.slice J t.length b] 110:=P.set 0 _;have I:ag (B.setCell ⟨S+1,0,none⟩ (.slice J t.length b)) S [ae c.m] 95:=a9.setOther (p:=⟨S+1,0,none⟩) (by show S≠S+1;omega) _;have K:DO (S+2) c.R t (.slice J t.length b) (B.setCell ⟨S+1,0,none⟩ (.slice J t.length b)):=⟨J,b,rfl,λj p hj=>by
    obtain⟨g,e1,e2,e3,e4⟩:=a3 j p hj;exact⟨g,e1,e2,by simpa [World.setCell]using e3,(zP (w:=B) (zk B ⟨S+1,0,none⟩ _ g (show g≠S+1 by omega))).trans e4⟩⟩
   have d0:=aa c4;clear f5 a4 a9 g0 k5 c5 c4 P;by_cases G:t.length=1
   ·obtain⟨x,rfl⟩:=zy.1 G;have hx:=Z.out x (by simp);obtain⟨g,rfl,l1,j5,j4⟩:=a3 0 x rfl;have j7:g≠S+1:=by omega
    have HG:Hid (au w c (q+1) (λu=>∃a∈ps,lg c.T a u) (orM (sz c.T) ps) (.returned (ae (c.R x))) (B.setCell ⟨S+1,0,none⟩ (.slice (some ⟨g,0,none⟩) 1 b))):=by
     refine⟨c,x,rfl,(HI.below A).more (by omega),Gone.below A,hx,?_,?_⟩
     ·funext u;rw[<-propext (AJ HT.out u)];refine propext ⟨λh=>⟨x,(HM x).1 (by simp),h⟩,?_⟩;rintro⟨a,ha,hu⟩;have:=(HM a).2 ha;simp at this;rw[<-this];exact hu
     ·exact Me.trans (Yf (f:=sz c.T) (l:=[x]) (by simp)) (Ko HT d0 HM)
    clear A c0 I K a3;simp only[zo]at *;go_wp2_with fail;go_ret;exact HG
   ·have j2:((t.length:Int)==1)=false:=zD.2 (by omega);have i1:(t.length==1)=false:=zD.2 G;have c3:=aa (λ(k:Nat) (en:Bool) (hen:en=true↔∃a∈t,lg c.T a [])=>WJ (c:=c) (q:=q) (en:=en) (W:=((B.setCell ⟨S+1,0,none⟩ (.slice J t.length b)).drewN k)) HI HP hq V Z G d0 (by omega) hen ⟨A.os,A.tape,A.output,A.size,A.block⟩ (I.drewN k) (c0.drewN k) ⟨J,b,rfl,by obtain⟨a7,j1,e7,K⟩:=K;cases e7;exact K⟩);have b1:=aa (Ip c.T.length (rB c.T) Z e0 (λp C=>by
     obtain⟨X,b7⟩:∃e,c.T[p]?=some e:=⟨_,zB C⟩;obtain⟨g5,g7,c7,i9,c6,b0,_⟩:=HI.out.look b7;have c9:=(ag.below c6 A).cell 3;have:c7=rB c.T p:=by
      cases c7 with
      |true=>exact (oZ.2 (b0.1 rfl)).symm
      |false=>
       cases h:rB c.T p with
       |false=>rfl
       |true=>have:=b0.2 (oZ.1 h);cases this
     rw[<-this];exact c9) K (by omega))
    have f2:Hid (t.any (rB c.T)=true↔∃a∈t,lg c.T a []):=by
     show _↔_
     rw[List.any_eq_true];exact⟨λ⟨a,G,Y⟩=>⟨a,G,oZ.1 Y⟩,λ⟨a,G,Y⟩=>⟨a,G,oZ.2 Y⟩⟩
    have h7:Hid (∀r w9,jF w c (q+1) (.or t) r w9->au w c (q+1) (λu=>∃a∈ps,lg c.T a u) (orM (sz c.T) ps) r w9):=λr w9 h9=>h9.at (zE _ _) Z (by
     funext u;rw[<-propext (AJ HT.out u)];exact propext ⟨λ⟨a,G,Y⟩=>⟨a,(HM a).1 G,Y⟩,λ⟨a,G,Y⟩=>⟨a,(HM a).2 G,Y⟩⟩) (Ko HT d0 HM)
    generalize t.any (rB c.T)=en at b1 f2;have k7:(B.setCell ⟨S+1,0,none⟩ (.slice J t.length b)).cell? ⟨S,0,none⟩=some (ae c.m):=I.cell 0;have n7:S≠S+1:=by omega
    have k8:B.cell? ⟨S,0,none⟩=some (ae c.m):=(zP (w:=B) (zk B ⟨S+1,0,none⟩ _ S n7)).symm.trans k7;have j6:S<B.heap.size:=by omega
    clear A c0 I K a3;go_wp2_with fail;refine b1.mono ?_;rintro e w8 ⟨rfl,q8,rfl⟩;go_wp2_with fail;have hk:=c3.out q8 en f2;rw[show ((B.setCell ⟨S+1,0,none⟩ (.slice J t.length b)).drewN q8).heap.size=B.heap.size by simp[World.setCell]]at hk;refine hk.mono ?_;intro r w9 h9;have i4:=aa (h7 r w9 h9);obtain⟨c9,j9,rfl,g3⟩:=h9;clear g3 hk;go_wp2_with fail;go_ret;exact i4
