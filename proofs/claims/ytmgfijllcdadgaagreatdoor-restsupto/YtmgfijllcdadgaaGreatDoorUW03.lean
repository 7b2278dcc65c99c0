import Derived.Test.YtmgfijllcdadgaaGreatDoorUW00
import Derived.Handy
set_option linter.all false
namespace Go.Proofs.YtmgfijllcdadgaaGreatDoor.V
open Go.RowKit
open Rf
open Mk
variable {w:World}{b:Nat}{s:R}{r r' :Row}{rs:List Row}
structure bA where
 ea:Option Addr
 ec:Nat
 oa:Option Addr
 oc:Nat
 ga:Option Addr
 gc:Nat
 es:List (Ev×Value)
 gs:List (List aI×Value)
def aR(s:R)(L:bA):List Value:=
 [.int .i64 s.od,.int .i64 s.oa,.int .i64 s.S,.bool s.on,.string ⟨s.s.toArray⟩,.int .i64 s.A,.int .i64 s.stop,.int .i64 s.err,.bool s.whole,
  .slice L.ea s.y.length L.ec,.slice L.oa s.I.length L.oc,.slice L.ga s.P.length L.gc]
def jm(s:R)(L:bA):Row:=⟨65,5,.slice L.ea s.y.length L.ec,s.y.length,dU L.es⟩
def jo(s:R)(L:bA):Row:=⟨9,1,.slice L.oa s.I.length L.oc,s.I.length,s.I.map sv⟩
def gH(s:R)(L:bA):Row:=⟨63,1,.slice L.ga s.P.length L.gc,s.P.length,L.gs.map (·.2)⟩
def jq(p:List aI×Value):Row:=⟨69,3,p.2,p.1.length,cQ p.1⟩
def eP(s:R)(L:bA):List Row:=jm s L::jo s L::gH s L::(L.es.map bR++L.gs.map jq)
def cO(s:R)(L:bA):List Nat:=cZ (eP s L)
structure bD(w:World)(b:Nat)(s:R)(L:bA):Prop where
 blk:w.heap[b]?=some (.cells (aR s L).toArray 111 (0,0))
 rows:fJ w (b+1) (eP s L)
 evs:L.es.map (·.1)=s.y
 p_:L.gs.map (·.1)=s.P
def bD.lt{L:bA}(h:bD w b s L):b<w.heap.size:=(Array.getElem?_eq_some_iff.1 h.blk).1
def bD.cell{w:World}{b:Nat}{s:R}{L:bA}(h:bD w b s L):∀i,w.cell? ⟨b,i,none⟩=(aR s L)[i]?:=by
 intro i;simp[World.cell?,h.blk]
def bD.frozen{w:World}{b:Nat}{s:R}{L:bA}(h:bD w b s L):∀i,w.frozen? ⟨b,i,none⟩=false:=by
 intro i;simp[World.frozen?,h.blk]
def bD.zzv{L:bA}(h:bD w b s L):(∀i,w.cell? ⟨b,i,none⟩=(aR s L)[i]?)/\(∀i,w.frozen? ⟨b,i,none⟩=false)/\b<w.heap.size:=⟨h.cell,h.frozen,h.lt⟩
def bD.zzw{L:bA}(h:bD w b s L):(∀i,w.cell? ⟨b,i,none⟩=[.int .i64 s.od,.int .i64 s.oa,.int .i64 s.S,.bool s.on,.string ⟨s.s.toArray⟩,.int .i64 s.A,.int .i64 s.stop,.int .i64 s.err,.bool s.whole,.slice L.ea s.y.length L.ec,.slice L.oa s.I.length L.oc,.slice L.ga s.P.length L.gc][i]?)/\(∀i,w.frozen? ⟨b,i,none⟩=false)/\b<w.heap.size:=h.zzv
def bD.jh{L:bA}(h:bD w b s L):∀k∈cO s L,b<k/\k<w.heap.size:=λk a=>h.rows.lt k a
structure bL(w0:World)(b:Nat)(f0:List Nat)(w:World)(s:R)(L:bA):Prop where
 X:bD w b s L
 fr:Fr w0 w b f0 (cO s L)
 gs:∃s0 L0,bD w0 b s0 L0/\L0.gs.map (·.2)<+:L.gs.map (·.2)
def bD.start{L:bA}(h:bD w b s L):bL w b (cO s L) w s L:=⟨h,Fr.refl _ _ _,s,L,h,List.prefix_rfl⟩
def Zu{e s:TypeId}{d n:Nat}{v:Value}{m o:List Value}(h:w.ownsRow b e d v n m)(k:w.ownsRow b s d v n o):m=o:=by
 obtain⟨j,t⟩|⟨g,u,x,p,_,y,_,_,_,z⟩:=h.2
 .have a:=h.1;have c:=k.1;rw[t,Nat.zero_mul]at a c;rw[List.length_eq_zero_iff.1 a,List.length_eq_zero_iff.1 c]
 obtain⟨j,_⟩|⟨A,q,r,f,_,i,_,_,_,l⟩:=k.2
 .rw[p]at j;cases j
 rw[p]at f;cases f;rw[y]at i;cases i;rw[<-z,<-l]
def bD.unique{f:R}{L e:bA}(h:bD w b s L)(k:bD w b f e):L.gs.map (·.2)=e.gs.map (·.2):=by
 have d:=h.blk;rw[k.blk]at d;injection d with d;injection d with d;injection d with d;unfold aR at d;simp only[List.cons.injEq,and_true]at d;obtain⟨-,-,-,-,-,-,-,-,-,-,-,g⟩:=d;have a:=h.rows.own (gH s L) (by simp[eP]);have c:=k.rows.own (gH f e) (by simp[eP]);simp only[Row.owned,gH]at a c;rw[g]at c;injection g with _ i _;rw[i]at c;exact Zu a c
def bD.Hh{L:bA}(h:bD w b s L):L.gs.length=s.P.length:=by rw[<-h.p_];simp
def NP{b d:Type}:∀{l m:List (b×d)},l.map (·.1)=m.map (·.1)->l.map (·.2)=m.map (·.2)->l=m
 |[],[],_,_=>rfl
 |[],_::_,h,_=>by cases h
 |_::_,[],h,_=>by cases h
 |(a,c)::l,(e,f)::m,h,k=>by
  simp only[lf,List.cons.injEq]at h k;obtain⟨rfl,h⟩:=h;obtain⟨rfl,k⟩:=k;rw[NP h k]
def bL.xq{w' :World}{f:List Nat}{s' :R}{L L' :bA}(m:bL w b f w' s' L')(h:bD w b s L)(a:s'.P=s.P):L'.gs=L.gs:=by
 obtain⟨g,L0,d,c⟩:=m.gs;rw[<-h.unique d]at c;have e:L.gs.map (·.2)=L'.gs.map (·.2):=c.eq_of_length (by simp[h.Hh,m.X.Hh,a]);exact NP (by rw[h.p_,m.X.p_,a]) e.symm
def bD.keep{w w' :World}{b:Nat}{s:R}{L:bA}(h:bD w b s L)(a:∀k,k=b\/k∈cO s L->w'.heap[k]?=w.heap[k]?):bD w' b s L:=
 ⟨(a b (.inl rfl)).trans h.blk,h.rows.keep λk c=>a k (.inr c),h.evs,h.p_⟩
section
variable {w0 w w' :World}{b:Nat}{f0:List Nat}{s s' :R}{L L' :bA}
def bL.alloc(m:bL w0 b f0 w s L)(o:Obj):bL w0 b f0 (w.alloc o) s L:=
 ⟨m.X.keep λk a=>dG _ _ _ (by obtain rfl|a:=a;exact m.X.lt;exact(m.X.jh k a).2),m.fr.trans (Fr.alloc _ _ _ _),m.gs⟩
def bL.drew(m:bL w0 b f0 w s L):bL w0 b f0 w.drew s L:=⟨m.X.keep λ_ _=>rfl,m.fr.trans (Fr.drew _ _ _),m.gs⟩
def bL.store(m:bL w0 b f0 w s L)(i:Nat)(v:Value)(s' :R)(c:(aR s L).set i v=aR s' L)(a:eP s' L=eP s L)(d:s'.y=s.y)(e:s'.P=s.P):
 bL w0 b f0 (w.setCell ⟨b,i,none⟩ v) s' L:=by
 refine⟨⟨?_,?_,by rw[d];exact m.X.evs,by rw[e];exact m.X.p_⟩,?_,m.gs⟩
 .rw[<-c];have:=m.X.blk;simp[World.setCell,rE,this]
 .rw[a];refine m.X.rows.keep λk f=>kR _ _ _ _ ?_;have:=(m.X.rows.lt k f).1;show k≠b;omega
 rw[cO,a];exact m.fr.trans (Fr.setCell _ _ _ _ _)
def bL.yO(m:bL w0 b f0 w s L){a:Addr}(d:w0.heap.size<=a.block)(g:b<w0.heap.size)(f:a.block∉cO s L)(u:Value):bL w0 b f0 (w.setCell a u) s L:=
 ⟨m.X.keep λk c=>kR _ _ _ _ (by obtain rfl|c:=c;omega;exact λe=>f (e▸c)),m.fr.yO d u,m.gs⟩
def bL.call{a:R}{c:bA}{d:World}(m:bL w0 b f0 w s L)(k:bL w b (cO s L) d a c):bL w0 b f0 d a c:=
 ⟨k.X,m.fr.trans k.fr,by
  obtain⟨f,L0,g,h⟩:=m.gs
  obtain⟨j,l,i,e⟩:=k.gs
  rw[<-m.X.unique i]at e
  exact⟨f,L0,g,h.trans e⟩⟩
def bL.AU(m:bL w0 b f0 w s L)(f:List Row)(i:Nat)(v:Value)(j:(eP s L).Perm (r::rs))(a:(eP s' L').Perm (f++r' ::rs))(l:∀x∈f,x.isNil)(q:r'.owned w' (b+1))(g:w.grownBy w' r.v.ownBlock)
 (n:r'.v.ownBlock=r.v.ownBlock\/r'.v.ownBlock=some w.heap.size) (t:(aR s L).set i v=aR s' L') (u:L'.es.map (·.1)=s'.y) (y:L'.gs.map (·.1)=s'.P) (hx:∃z L0,bD w0 b z L0/\L0.gs.map (·.2)<+:L'.gs.map (·.2)):
 bL w0 b f0 (w'.setCell ⟨b,i,none⟩ v) s' L' :=by
 have o:=m.X.rows.perm j;have p:fJ w' (b+1) (eP s' L'):=((o.grow q g n).De f l).perm a.symm;have h:some b≠r.v.ownBlock:=λe=>by
  have:=(o.own r jU).lt b e.symm;omega
 have c:w'.heap[b]?=some (.cells (aR s L).toArray 111 (0,0)):=(g.block b m.X.lt h).trans m.X.blk;refine⟨⟨?_,?_,u,y⟩,?_,hx⟩
 .rw[<-t];simp[World.setCell,rE,c]
 .refine p.keep λk d=>kR _ _ _ _ ?_;have:=(p.lt k d).1;show k≠b;omega
 refine(m.fr.trans ((Fr.grown (b:=b) g n rs rfl).wide λk d=>nC j.symm k d)).trans ((Fr.setCell _ _ _ _ _).sub λk d=>?_);have:=nC a k d;rwa[yN f l]at this
def bL.grow(m:bL w0 b f0 w s L)(i:Nat)(v:Value)(c:(eP s L).Perm (r::rs))(a:(eP s' L').Perm (r' ::rs))(d:r'.owned w' (b+1))(e:w.grownBy w' r.v.ownBlock)
 (f:r'.v.ownBlock=r.v.ownBlock\/r'.v.ownBlock=some w.heap.size) (g:(aR s L).set i v=aR s' L') (j:L'.es.map (·.1)=s'.y) (k:L'.gs.map (·.1)=s'.P) (hx:∃l L0,bD w0 b l L0/\L0.gs.map (·.2)<+:L'.gs.map (·.2)):
 bL w0 b f0 (w'.setCell ⟨b,i,none⟩ v) s' L' :=m.AU [] i v c a (λ_ h=>by cases h) d e f g j k hx
def bD.grown{a:World}(h:bD w b s L)(c:w.grownBy a r.v.ownBlock)(d:r∈eP s L):a.heap[b]?=some (.cells (aR s L).toArray 111 (0,0)):=by
 refine(c.block b h.lt λe=>?_).trans h.blk;have:=(h.rows.own r d).lt b e.symm;omega
def Hj(h:w.heap[b]?=some (.cells (aR s L).toArray 111 (0,0))):(∀i,w.cell? ⟨b,i,none⟩=(aR s L)[i]?)/\∀i,w.frozen? ⟨b,i,none⟩=false:=
 ⟨λi=>by simp[World.cell?,h],λi=>by simp[World.frozen?,h]⟩
def bL.below(m:bL w0 b f0 w s L)(a:Below w.heap.size w w'):bL w0 b f0 w' s L:=
 ⟨m.X.keep λk c=>a.block k (by obtain rfl|c:=c;exact m.X.lt;exact(m.X.jh k c).2),
  m.fr.trans ⟨a.os,a.tape,a.output,a.size,λk c _ _=>a.block k c,λ_ h=>.inl h⟩,m.gs⟩
def bD.drewN(h:bD w b s L)(n:Nat):bD (w.drewN n) b s L:=h.keep λ_ _=>by rw[heap_drewN]
def bL.drewN(m:bL w0 b f0 w s L)(n:Nat):bL w0 b f0 (w.drewN n) s L:=m.below ⟨rfl,rfl,rfl,ajQ<|by rw[heap_drewN],λ_ _=>by rw[heap_drewN]⟩
end
def qR(w:World)(b:Nat)(s:R)(L:bA)(r:R×Bool)(e:Ending)(w' :World):Prop:=
 e=.returned (.bool r.2)/\∃L', bL w b (cO s L) w' r.1 L'
end Go.Proofs.YtmgfijllcdadgaaGreatDoor.V
namespace Rf
open Mk (U aI Ev)
def vk(b:UInt8):U:=if b=60 then[38,108,116,59]else if b=62 then[38,103,116,59]else if b=38 then[38,97,109,112,59]else if b=13 then[38,35,49,51,59]else[b]
def xB(b:UInt8):U:=if vk b=[34]then[38,113,117,111,116,59]else if vk b=[9]then[38,35,57,59]else if vk b=[10]then[38,35,49,48,59]else vk b
def lH(s:U)(iA:Bool):U:=s.flatMap λb=>if iA then xB b else vk b
def qb(a:aI):U:=[32]++a.B++[61,34]++lH a.val true++[34]
def tag(a:U)(e:Ev):U:=[60]++e.B++a++e.f.flatMap qb++[62]
def one(a:U)(e:Ev):U:=
 if e.kind=1 then tag a e
 else if e.kind=2 then[60,47]++e.B++[62]
 else if e.kind=3 then lH e.val false
 else if e.kind=4 then[60,33,45,45]++e.val++[45,45,62]
 else if e.kind=5 then[60,63]++e.B++(if e.val=[]then[]else[32]++e.val)++[63,62]
 else[]
def Bo(n:U):U:=if n=[]then[120,109,108,110,115]else[120,109,108,110,115,58]++n
def nG(e:Ev):U:=[32]++Bo e.B++[61,34]++lH e.val true++[34]
def sG:List Ev->U->U->U
 |[],_,out=>out
 |e::l,a,out=>sG l (if e.kind=6 then a++nG e else[]) (out++one a e)
def yC(l:List Ev):U:=sG l [] []
def mF:List aI->List aI->Bool
 |[],[]=>true
 |a::l,b::m=>decide (a.B=b.B)&&decide (a.space=b.space)&&decide (a.val=b.val)&&mF l m
 |_,_=>false
def uM(x y:Ev):Bool:=mF x.f y.f&&decide (x.kind=y.kind)&&decide (x.B=y.B)&&decide (x.space=y.space)&&decide (x.val=y.val)
def lZ:List Ev->List Ev->Bool
 |[],[]=>true
 |a::l,b::m=>uM a b&&lZ l m
 |_,_=>false
def Ob:∀l m:List aI,mF l m=true↔l=m
 |[],[]=>by simp[mF]
 |[],_::_=>by simp[mF]
 |_::_,[]=>by simp[mF]
 |⟨n,s,v⟩::l,⟨a,b,c⟩::m=>by
  simp only[mF,nQ,wS,Ob l m,List.cons.injEq,aI.mk.injEq,and_assoc]
def aah(x y:Ev):uM x y=true↔x=y:=by
 obtain⟨k,n,s,v,a⟩:=x;obtain⟨g,h,i,j,l⟩:=y;simp only[uM,nQ,wS,Ob,Ev.mk.injEq,and_assoc];constructor
 .rintro⟨b,c,d,e,f⟩;exact⟨c,d,e,f,b⟩
 rintro⟨c,d,e,f,b⟩;exact⟨b,c,d,e,f⟩
def LB:∀l m:List Ev,lZ l m=true↔l=m
 |[],[]=>by simp[lZ]
 |[],_::_=>by simp[lZ]
 |_::_,[]=>by simp[lZ]
 |x::l,y::m=>by simp only[lZ,nQ,aah,LB l m,List.cons.injEq]
def lG(a b c:Int):Bool:=if decide (a<1)||decide (64<a)||decide (b<0)||decide (32<b)then false else decide (8<=c)&&decide (c<=1024)
def tu(a b c:Int)(d:Bool)(l:List Ev):U×Int:=
 if lG a b c then
  (if(fN a b c d (yC l)).whole&&lZ (Ar (fN a b c d (yC l)).y) l then(yC l,0)else([],11))
 else([],1)
end Rf
namespace Go.Proofs.YtmgfijllcdadgaaGreatDoor
open List
open Mk
def kI(s:Z)(e:Ev):aX s e={s with C:=(aX s e).C,F:=(aX s e).F}:=by
 unfold aX bK;split<;>rfl
def Dr:∀(l:List (U×U)) (s:Z),gJ s l={s with C:=(gJ s l).C,F:=(gJ s l).F}
 |[],s=>rfl
 |p::r,s=>by
  show gJ (aX s _) r={s with C:=(gJ (aX s _) r).C,F:=(gJ (aX s _) r).F};have a:=Dr r (aX s ⟨6,p.1,[],p.2,[]⟩);have b:=kI s ⟨6,p.1,[],p.2,[]⟩;rw[b]at a⊢;exact a
def yX:∀(l:List (U×U)) (s:Z),iV s l={s with C:=(iV s l).C,F:=(iV s l).F}
 |[],s=>rfl
 |p::r,s=>by
  show iV (aX s _) r={s with C:=(iV (aX s _) r).C,F:=(iV (aX s _) r).F};have a:=yX r (aX s ⟨7,p.1,[],[],[]⟩);have b:=kI s ⟨7,p.1,[],[],[]⟩;rw[b]at a⊢;exact a
def oW(s:Z):bX s={s with C:=(bX s).C,F:=(bX s).F,f:=[]}:=by
 have a:=kI (gK s) ⟨1,s.B,Mk.bQ s s.B,[],s.f⟩;have b:gK s={s with C:=(gK s).C,F:=(gK s).F}:=Dr (Mk.dZ s) s;unfold bX;rw[a,b]
def Dt:∀(d:List aI) (b:List (U×U)) (c:Nat),(iG d b c).1.length<=b.length+d.length/\(iG d b c).2.1<=c+d.length
 |[],b,c=>⟨by simp[iG],by simp[iG]⟩
 |a::r,b,c=>by
  unfold iG;split
  .have:=Dt r b c;simp only[cT];omega
  split
  .simp only[cT];omega
  have:=Dt r (b++[(Mk.kP a.B,a.val)]) (c+1);simp only[cT,bT,fB]at this⊢;omega
def Gp(aJ:List (U×U))(m:Nat):∀(c b l:List aI),mR aJ c b=some l->l.length<=b.length+c.length/\((∀a∈b,a.val.length<=m)->(∀a∈c,a.val.length<=m)->∀a∈l,a.val.length<=m)
 |[],b,l,h=>by cases h;exact⟨by simp,λh _=>h⟩
 |a::r,b,l,h=>by
  unfold mR at h;split at h
  .have:=Gp aJ m r b l h;exact⟨by simp only[cT];omega,λe d=>this.2 e λx hx=>d x (iU _ hx)⟩
  split at h
  .cases h
  have:=Gp aJ m r _ l h;refine⟨by simp only[cT,bT,fB]at this⊢;omega,λe d=>this.2 (λx hx=>?_) λx hx=>d x (iU _ hx)⟩;obtain hx|hx:=mem_append.1 hx
  .exact e x hx
  simp at hx;subst hx;have:(kz aJ a).val=a.val:=by unfold kz;split<;>rfl
  rw[this];exact d a jU
def Du(aJ:List (U×U))(m:Nat):∀(c b l:List aI),mR aJ c b=some l->l.length<=b.length+c.length/\((∀a∈b,a.B.length<=m)->(∀a∈c,a.B.length<=m)->∀a∈l,a.B.length<=m)
 |[],b,l,h=>by cases h;exact⟨by simp,λh _=>h⟩
 |a::r,b,l,h=>by
  unfold mR at h;split at h
  .have:=Du aJ m r b l h;exact⟨by simp only[cT];omega,λe d=>this.2 e λx hx=>d x (iU _ hx)⟩
  split at h
  .cases h
  have:=Du aJ m r _ l h;refine⟨by simp only[cT,bT,fB]at this⊢;omega,λe d=>this.2 (λx hx=>?_) λx hx=>d x (iU _ hx)⟩;obtain hx|hx:=mem_append.1 hx
  .exact e x hx
  simp at hx;subst hx;have:(kz aJ a).B=a.B:=by unfold kz;split<;>rfl
  rw[this];exact d a jU
def Bb(s:Z):(cG s).1={s with m:=(iG s.f s.m 0).1,T:=(cG s).1.T}/\((cG s).1.T=s.T\/(cG s).1.T=s.T++[(iG s.f s.m 0).2.1]):=by
 unfold cG;dsimp only;split
 .exact⟨rfl,.inr rfl⟩
 exact⟨rfl,.inl rfl⟩
def Mw(s:Z):(dY s).1=s\/(dY s).1=(cG s).1:=by
 unfold dY;repeat' split
 all_goals first|exact .inl rfl|exact .inr rfl
def Gq{s:Z}{l:List aI}(h:(dY s).2=some l):(dY s).1=(cG s).1/\mR (cG s).1.m s.f []=some l:=by
 unfold dY at h⊢;split at h
 .cases h
 rename_i a;rw[M a];split at h
 .cases h
 rename_i b;rw[M b];split at h
 .cases h
 rename_i c;rw[M c];exact⟨rfl,h⟩
def WS(s:Z):jb s={s with C:=(jb s).C,F:=(jb s).F}:=yX _ s
def WU(s:Z):gK s={s with C:=(gK s).C,F:=(gK s).F}:=Dr _ s
def Gr(s:Z)(e:Ev):(aX s e).F.length<=s.F.length/\(aX s e).C.length<=s.C.length+2:=by
 unfold aX bK;split
 .exact⟨a_ _,by simp⟩
 exact⟨by simp,by simp⟩
def Gs:∀(l:List (U×U)) (s:Z),(gJ s l).F.length<=s.F.length/\(gJ s l).C.length<=s.C.length+2*l.length
 |[],s=>⟨a_ _,by simp[gJ]⟩
 |p::r,s=>by
  have a:=Gs r (aX s ⟨6,p.1,[],p.2,[]⟩);have b:=Gr s ⟨6,p.1,[],p.2,[]⟩;unfold gJ;simp only[cT];omega
section
variable {P:Program}{ops:Array Oper}{Q:Exit->Act->World->Prop}{K:Act->World->Prop}{a:Act}{w w' :World}{i:Nat}{o:Oper}
def NA(b:ops[i]?=some o)(c:o.guard=none)(v:Value)(d:(execOp a.eval o).run P w=.ok (.value v) w')(f:K (a.put o.dst v) w'):wpOp P ops Q i K a w:=by
 rw[wpOp,b];have e:Region.wanted o (yielded ops a.tmps)=true:=by simp[Region.wanted,c]
 simp only[e,bY];refine .inl ?_;rwa[Oper.wp,d]
def YR(c:ops[i]?=some o)(d:o.guard=none)(f:FuncId)(b:Array Value)(g:(execOp a.eval o).run P w=.ok (.enter f b) w)(h:Calls P f b w λe w' =>∃v,e=.returned v/\K (a.put o.dst v) w'):wpOp P ops Q i K a w:=by
 rw[wpOp,c];have j:Region.wanted o (yielded ops a.tmps)=true:=by simp[Region.wanted,d]
 simp only[j,bY];refine .inl ?_;rw[Oper.wp,g];go_call h as e l ⟨v,rfl,k⟩;exact k
def YS{d:Region.Mode}{a:Array Bool}(k:a.size=ops.size)(b:∀(i:Nat) (o:Oper),ops[i]?=some o->∀e∈o.after,e.on<i)(g:Region.ready d ops a=[]):∀i,i<ops.size->a.getD i false=true:=by
 intro i;induction i using Nat.strongRecOn with
 |ind i ih=>
  intro j;have hd:a.getD i true=a.getD i false:=by
   have:i<a.size:=by omega
   simp[this]
  cases h:a.getD i false with
  |true=>rfl
  |false=>
   have c:ops[i]?=some ops[i]:=FV j;have:i∈Region.ready d ops a:=mem_ready.2 ⟨by rw[hd,h],ops[i],c,λe f _=>ih e.on (b i _ c e f)<|by have:=b i _ c e f;omega⟩;rw[g]at this;cases this
def YT(h:((List.range ops.size).all λi=>match ops[i]? with|some o=>o.after.toList.all (λe=>decide (e.on<i))|none=>true)=true):∀(i:Nat) (o:Oper),ops[i]?=some o->∀e∈o.after,e.on<i:=by
 intro i o a e c;have d:=(Array.getElem?_eq_some_iff.1 a).1;have b:=all_eq_true.1 h i (mem_range.2 d);simp only[a]at b;have f:=all_eq_true.1 b e (Array.mem_toList_iff.2 c);simpa using f
def GV(a:Act)(d:Nat)(v:Value)(k:Nat)(hd:d<a.tmps.size):(a.put (some d) v).tmps.getD k undef=if k=d then v else a.tmps.getD k undef:=by
 unfold Act.put;by_cases h:k=d
 .subst h;simp[hd]
 have b:d≠k:=λe=>h e.symm;simp[h,Array.getElem?_setIfInBounds_ne b]
end
end Go.Proofs.YtmgfijllcdadgaaGreatDoor
namespace Mk
def iJ(c l:Int):U:=
 if l=1 then[128]
 else if l=2 then(if c=0 then[160,128]else[128,128])
 else if l=3 then(if c=0 then[144,128,128]else[128,128,128])
 else[]
def qf(n:U):List (U×Int)->U
 |[]=>[]
 |(x,_)::r=>if n.isPrefixOf x then x.drop n.length else qf n r
def lC(c a:Int):U:=
 if eX c then[59]else if eX (c*a)then[48,59]else if eX (c*a*a)then[48,48,59]else[57,59]
def jP(p:Int)(n:U)(c:Int):U:=
 if p=1\/p=2 then qf n fG
 else if p=3\/p=5 then lC c 10
 else if p=4\/p=6 then lC c 16
 else[]
def gy(w:U)(k:Int):U:=if k<0\/(w.length:Int)<k then[]else w.drop k.toNat
def kC:U:=[67,68,65,84,65,91]
def qW(s:Z):Nat->Int->U
 |0,_=>[]
 |n+1,b=>if eD b&& !gM s (s.i++[u8 b])then[u8 b]else qW s n (b+1)
def oJ(s:Z):U:=if gM s s.i then qW s 58 65 else[]
def iR(a:Int):Bool:=decide (12<=a)&&decide (a<=19)
def kW(a:Int):Bool:=a==20||a==21
def jw(s:Z):U:=
 if s.H=14 then oJ s++[61,39,39,47,62]
 else if s.H=15 then[61,39,39,47,62]
 else if s.H=16 then[39,39,47,62]
 else if s.H=17 then[u8 s.aj2,47,62]
 else if s.H=19 then[62]
 else[47,62]
def j_(s:Z):U:=
 if s.H=8/\(s.G=0\/jg s.i=true)then[97,63,62]
 else if s.H=9 then[62]
 else gy [63,62] s.D.length
def dD(s:Z):U:=
 if s.H=0\/s.H=1 then[]
 else if s.H=3 then[33,45,45,45,45,62]
 else if s.H=4 then[45,45,45,45,62]
 else if s.H=5 then[45,45,45,62]
 else if s.H=7 then gy [45,45,62] s.D.length
 else if s.H=6 then gy kC s.aW++[93,93,62]
 else if s.H=2 then gy [93,93,62] s.D.length
 else if s.H=20 then gy (bP s) s.aW++[62]
 else if s.H=21 then[62]
 else if iR s.H then jw s
 else j_ s
def gA:List U->U
 |[]=>[]
 |n::r=>[60,47]++n++[62]++gA r
def qX(s:Z):List U:=if kW s.H then s.I.dropLast.reverse else s.I.reverse
def rest(s:Z):U:=
 iJ s.pc s.t++jP s.rp s.rn s.rc++dD s++gA (qX s)++(if s.I=[]/\s.over=false/\iR s.H=false then[60,97,47,62]else[])
end Mk
namespace Go.Proofs.YtmgfijllcdadgaaGreatDoor
open Mk
def Er(s:Z)(r:Z×Int):Prop:=r.2=0\/(r.1.C=s.C/\r.1.F=s.F/\r.1.I=s.I/\r.1.K=s.K/\r.1.aN=s.aN)
def iq{s:Z}{c:Prop}[Decidable c]{a b:Z×Int}(d:Er s a)(e:Er s b):Er s (if c then a else b):=by split<;>assumption
def BX(s:Z)(x:Int):Er s (cV s x):=by
 unfold cV;split
 .exact .inr ⟨rfl,rfl,rfl,rfl,rfl⟩
 exact iq (.inl rfl) (.inr ⟨rfl,rfl,rfl,rfl,rfl⟩)
def afr(s:Z)(x:Int):Er s (fT s x):=by
 unfold fT;split
 .exact .inr ⟨rfl,rfl,rfl,rfl,rfl⟩
 exact .inl rfl
def afs(s:Z)(x:Int):Er s (fD s x):=by
 unfold fD;split
 .exact .inr ⟨rfl,rfl,rfl,rfl,rfl⟩
 exact iq (.inl rfl) (.inl rfl)
def aft(s:Z)(c:Int)(h:bI s=false):(bV s c).C=s.C/\(bV s c).F=s.F/\(bV s c).I=s.I/\(bV s c).K=s.K/\(bV s c).aN=s.aN:=by
 unfold bV;rw[h];exact⟨rfl,rfl,rfl,rfl,rfl⟩
def RZ(s:Z)(x:Int):Er s (fS s x):=by
 unfold fS;repeat' ((with_reducible show Er _ (ite _ _ _));refine iq ?_ ?_)
 all_goals first|exact .inl rfl|exact .inr ⟨rfl,rfl,rfl,rfl,rfl⟩
def afu(s:Z)(x:Int):Er s (iO s x):=by
 unfold iO;repeat' ((with_reducible show Er _ (ite _ _ _));refine iq ?_ ?_)
 all_goals first|exact .inl rfl|exact .inr ⟨rfl,rfl,rfl,rfl,rfl⟩
def afv(s:Z)(x:Int):Er s (fu s x):=by
 unfold fu;repeat' ((with_reducible show Er _ (ite _ _ _));refine iq ?_ ?_)
 all_goals first|exact .inl rfl|exact .inr ⟨rfl,rfl,rfl,rfl,rfl⟩|exact BX _ _
def afw(s:Z)(x:Int):Er s (cN s x):=by
 unfold cN;repeat' ((with_reducible show Er _ (ite _ _ _));refine iq ?_ ?_)
 all_goals first|exact .inl rfl|exact .inr ⟨rfl,rfl,rfl,rfl,rfl⟩|exact RZ _ _
def afx(s:Z)(x:Int):Er s (jD s x):=by
 unfold jD;repeat' ((with_reducible show Er _ (ite _ _ _));refine iq ?_ ?_)
 all_goals first|exact .inl rfl|exact .inr ⟨rfl,rfl,rfl,rfl,rfl⟩
def R_(s:Z)(x:Int):Er s (dN s x):=by
 unfold dN;repeat' ((with_reducible show Er _ (ite _ _ _));refine iq ?_ ?_)
 all_goals first|exact .inl rfl|exact .inr ⟨rfl,rfl,rfl,rfl,rfl⟩|exact BX _ _
def afy(s:Z)(x:Int):Er s (jK s x):=by
 unfold jK;repeat' ((with_reducible show Er _ (ite _ _ _));refine iq ?_ ?_)
 all_goals first|exact .inl rfl|exact .inr ⟨rfl,rfl,rfl,rfl,rfl⟩|exact R_ _ _
def afz(s:Z)(x:Int):Er s (h_ s x):=by
 unfold h_;repeat' ((with_reducible show Er _ (ite _ _ _));refine iq ?_ ?_)
 all_goals first|exact .inl rfl|exact .inr ⟨rfl,rfl,rfl,rfl,rfl⟩
def afA(s:Z)(x:Int):Er s (fw s x):=by
 unfold fw;repeat' ((with_reducible show Er _ (ite _ _ _));refine iq ?_ ?_)
 all_goals first|exact .inl rfl|exact .inr ⟨rfl,rfl,rfl,rfl,rfl⟩|exact BX _ _
def afB(s:Z)(x:Int):Er s (fH s x):=by
 unfold fH;repeat' ((with_reducible show Er _ (ite _ _ _));refine iq ?_ ?_)
 all_goals first|exact .inl rfl|exact .inr ⟨rfl,rfl,rfl,rfl,rfl⟩|exact BX _ _
def afC(s:Z)(x:Int):Er s (mg s x):=by
 unfold mg;repeat' ((with_reducible show Er _ (ite _ _ _));refine iq ?_ ?_)
 all_goals first|exact .inl rfl|exact .inr ⟨rfl,rfl,rfl,rfl,rfl⟩
def afD(s:Z)(x:Int):Er s (eG s x):=by
 unfold eG;repeat' ((with_reducible show Er _ (ite _ _ _));refine iq ?_ ?_)
 all_goals first|exact .inl rfl|exact .inr ⟨rfl,rfl,rfl,rfl,rfl⟩|exact afC _ _
def afE(s:Z)(x:Int):Er s (gF s x):=by
 unfold gF;repeat' ((with_reducible show Er _ (ite _ _ _));refine iq ?_ ?_)
 all_goals first|exact .inl rfl|exact .inr ⟨rfl,rfl,rfl,rfl,rfl⟩
def afF(s:Z)(x:Int):Er s (dQ s x):=by
 unfold dQ;repeat' ((with_reducible show Er _ (ite _ _ _));refine iq ?_ ?_)
 all_goals first|exact .inl rfl|exact .inr ⟨rfl,rfl,rfl,rfl,rfl⟩
def afG(s:Z):(cG s).1.C=s.C/\(cG s).1.F=s.F/\(cG s).1.I=s.I/\(cG s).1.K=s.K/\(cG s).1.aN=s.aN:=by unfold cG;dsimp only;split<;>exact⟨rfl,rfl,rfl,rfl,rfl⟩
def afH(s:Z):(dY s).1.C=s.C/\(dY s).1.F=s.F/\(dY s).1.I=s.I/\(dY s).1.K=s.K/\(dY s).1.aN=s.aN:=by
 unfold dY;repeat' split
 all_goals first|exact⟨rfl,rfl,rfl,rfl,rfl⟩|exact afG s
def afI(s:Z)(x:Int):Er s (ia s x):=by
 unfold ia;repeat' split
 .exact .inr (afH s)
 .exact .inl rfl
 exact .inl rfl
def JZ(s:Z)(x:Int):Er s (dR s x):=by
 unfold dR;repeat' ((with_reducible show Er _ (ite _ _ _));refine iq ?_ ?_)
 all_goals first|exact .inl rfl|exact .inr ⟨rfl,rfl,rfl,rfl,rfl⟩|exact afI _ _
def afJ(s:Z)(x:Int):Er s (iP s x):=by
 unfold iP;repeat' ((with_reducible show Er _ (ite _ _ _));refine iq ?_ ?_)
 all_goals first|exact .inl rfl|exact .inr ⟨rfl,rfl,rfl,rfl,rfl⟩|exact RZ _ _|exact JZ _ _
def afK(s:Z)(x:Int):Er s (gV s x):=by
 unfold gV;repeat' ((with_reducible show Er _ (ite _ _ _));refine iq ?_ ?_)
 all_goals first|exact .inl rfl|exact .inr ⟨rfl,rfl,rfl,rfl,rfl⟩|exact JZ _ _
def afL(s:Z)(x:Int):Er s (jL s x):=by
 unfold jL;repeat' ((with_reducible show Er _ (ite _ _ _));refine iq ?_ ?_)
 all_goals first|exact .inl rfl|exact .inr ⟨rfl,rfl,rfl,rfl,rfl⟩
def Sb(s:Z)(x:Int):Er s (fI s x):=by
 unfold fI;repeat' ((with_reducible show Er _ (ite _ _ _));refine iq ?_ ?_)
 all_goals first|exact .inl rfl|exact .inr ⟨rfl,rfl,rfl,rfl,rfl⟩
def afM(s:Z)(x:Int)(h:bI s=false):Er s (mh s x):=by
 unfold mh;exact iq (iq (.inr (aft s x h)) (.inl rfl)) (.inr ⟨rfl,rfl,rfl,rfl,rfl⟩)
def afN(s:Z)(x:Int)(h:bI s=false):Er s (fU s x):=by
 unfold fU;refine iq (afM s x h) (iq (.inr ⟨rfl,rfl,rfl,rfl,rfl⟩) (iq (.inr ⟨rfl,rfl,rfl,rfl,rfl⟩) ?_));exact Sb {Mk.bH s with attr:=s.i} x
def afO(s:Z)(x:Int):Er s (gW s x):=by
 unfold gW;repeat' ((with_reducible show Er _ (ite _ _ _));refine iq ?_ ?_)
 all_goals first|exact .inl rfl|exact .inr ⟨rfl,rfl,rfl,rfl,rfl⟩
def afP(s:Z)(x:Int):Er s (fA s x):=by
 unfold fA;repeat' ((with_reducible show Er _ (ite _ _ _));refine iq ?_ ?_)
 all_goals first|exact .inl rfl|exact .inr ⟨rfl,rfl,rfl,rfl,rfl⟩|exact BX _ _
def Sd(s:Z)(x:Int):Er s (gh s x):=by
 unfold gh;repeat' ((with_reducible show Er _ (ite _ _ _));refine iq ?_ ?_)
 all_goals first|exact .inl rfl|exact .inr ⟨rfl,rfl,rfl,rfl,rfl⟩
def afQ(s:Z)(x:Int):Er s (iC s x):=by
 unfold iC;repeat' ((with_reducible show Er _ (ite _ _ _));refine iq ?_ ?_)
 all_goals first|exact .inl rfl|exact .inr ⟨rfl,rfl,rfl,rfl,rfl⟩|exact Sd _ _
def afR(s:Z)(x:Int):Er s (dV s x):=by
 unfold dV;refine iq (afJ s x) (iq (afK s x) ?_);by_cases h:(s.H==14)=true
 .rw[J h];refine afN s x ?_;have:s.H=14:=by simpa using h
  simp[bI,this]
 rw[M h];exact iq (Sb s x) (iq (afO s x) (iq (JZ s x) (afL s x)))
def afS(s:Z)(x:Int):Er s (bU s x):=by
 unfold bU;repeat' ((with_reducible show Er _ (ite _ _ _));refine iq ?_ ?_)
 all_goals first|exact .inl rfl|exact .inr ⟨rfl,rfl,rfl,rfl,rfl⟩|exact afD _ _|exact afE _ _|exact afu _ _|exact afF _ _|exact afw _ _|exact afx _ _|exact afy _ _|exact afQ _ _|exact Sd _ _|exact afR _ _
def afT(s:Z)(x:Int):Er s (aP s x):=by
 unfold aP;repeat' ((with_reducible show Er _ (ite _ _ _));refine iq ?_ ?_)
 all_goals first|exact .inl rfl|exact .inr ⟨rfl,rfl,rfl,rfl,rfl⟩|exact afr _ _|exact afs _ _|exact afz _ _|exact afA _ _|exact afB _ _|exact afv _ _|exact R_ _ _|exact afP _ _|exact afS _ _
def afU(s:Z)(x:Int):Er s (eY s x):=by
 unfold eY;split
 .exact .inl rfl
 exact afT s x
def Sf(s:Z)(x:Int):Er s (kE s x):=by
 unfold kE;repeat' ((with_reducible show Er _ (ite _ _ _));refine iq ?_ ?_)
 all_goals first|exact .inl rfl|exact .inr ⟨rfl,rfl,rfl,rfl,rfl⟩|exact afU _ _
def J_(s:Z)(x:UInt8)(h:s.j=0)(b:(aS s x).j≠0):(aS s x).C=s.C/\(aS s x).F=s.F:=by
 unfold aS at b⊢;rw[J h]at b⊢;rcases Sf {s with A:=s.A+1} x.toNat with a|a
 .exact aj6 a b
 exact⟨a.1,a.2.1⟩
def afV(s:Z)(x:UInt8)(h:s.j=0)(a:(aS s x).j≠0):(aS s x).I=s.I/\(aS s x).K=s.K/\(aS s x).aN=s.aN:=by
 unfold aS at a⊢;rw[J h]at a⊢;rcases Sf {s with A:=s.A+1} x.toNat with b|b
 .exact aj6 b a
 exact b.2.2
end Go.Proofs.YtmgfijllcdadgaaGreatDoor
