import Derived.Test.YtmgfijllcdadgaaGreatDoorUW00
set_option linter.all false
set_option maxHeartbeats 8000000
namespace Go.Proofs.YtmgfijllcdadgaaGreatDoor.Q
open List
open Rf hiding aU
open Mk hiding Rf
variable {k m:Z}{b x:UInt8}{c n a v:Int}{l:U}{X:List Ev}{r:R}{p:Int->Bool}
def zu(b:UInt8):kr [b]=match eF b.toNat with|none=> -1|some p=>p.2:=by
 obtain⟨n,a,rfl⟩:∃n,n<256/\b=UInt8.ofNat n:=⟨b.toNat,b.toNat_lt,by simp⟩;revert n;decide+kernel
def Cp(l:U)(c n:Int):Prop:=
 (n=1/\l=[Mk.u8 (192+c)]/\2<=c/\c<=31)\/(n=2/\l=[Mk.u8 (224+c)]/\0<=c/\c<=15)\/(n=3/\l=[Mk.u8 (240+c)]/\0<=c/\c<=4)
 \/(n=1/\l=[Mk.u8 (224+c / 64),Mk.u8 (128+c % 64)]/\32<=c/\c<=1023/\(c<864\/895<c))\/(n=2/\l=[Mk.u8 (240+c / 64),Mk.u8 (128+c % 64)]/\16<=c/\c<=271)
 \/(n=1/\l=[Mk.u8 (240+c / 4096),Mk.u8 (128+c / 64 % 64),Mk.u8 (128+c % 64)]/\1024<=c/\c<=17407)
def iQ{k:Int}(a:0<=k:=by omega)(b:k<256:=by omega):((Mk.u8 k).toNat:Int)=k:=by
 unfold Mk.u8;simp;omega
def rT(b:UInt8):Mk.u8 (b.toNat:Int)=b:=by unfold Mk.u8;simp
def ahm{k:Int}(h:(b.toNat:Int)=k):b=Mk.u8 k:=by rw[<-h,rT]
def Ty(h:eF b.toNat=some (c,n)):(n=0/\c=b.toNat/\c<128/\eX c=true)\/(0<n/\Cp [b] c n):=by
 unfold eF at h;have a:=b.toNat_lt;split at h
 .rename_i g;simp only[Option.some.injEq,Prod.mk.injEq]at h;obtain⟨rfl,rfl⟩:=h;exact .inl ⟨rfl,rfl,g.1,g.2⟩
 split at h
 .simp only[Option.some.injEq,Prod.mk.injEq]at h;obtain⟨rfl,rfl⟩:=h;exact .inr ⟨by omega,.inl ⟨rfl,by rw[show(192+((b.toNat:Int) - 192))=b.toNat by omega,rT],by omega,by omega⟩⟩
 split at h
 .simp only[Option.some.injEq,Prod.mk.injEq]at h;obtain⟨rfl,rfl⟩:=h;exact .inr ⟨by omega,.inr (.inl ⟨rfl,by rw[show(224+((b.toNat:Int) - 224))=b.toNat by omega,rT],by omega,by omega⟩)⟩
 split at h
 .simp only[Option.some.injEq,Prod.mk.injEq]at h;obtain⟨rfl,rfl⟩:=h;exact .inr ⟨by omega,.inr (.inr (.inl ⟨rfl,by rw[show(240+((b.toNat:Int) - 240))=b.toNat by omega,rT],by omega,by omega⟩))⟩
 cases h
def uZ(b:0<=c)(a:c<128):dB c=[Mk.u8 c]:=by rw[dB,jf,J a];rfl
def Tz(a:0<=c)(b:c<=31):mq (192+c)=some (2,128,c):=by
 rw[mq,M<|by simp;omega,J<|by simp;omega];simp;omega
def Fe(a:0<=c)(b:c<=15):mq (224+c)=some (3,2048,c):=by
 rw[mq,M<|by simp;omega,M<|by simp;omega,J<|by simp;omega];simp;omega
def zX(a:0<=c:=by omega)(b:c<=7:=by omega):mq (240+c)=some (4,65536,c):=by
 rw[mq,M<|by simp;omega,M<|by simp;omega,M<|by simp;omega,J<|by simp;omega];simp;omega
def qH(l:U)(h:¬((x.toNat:Int)<128\/191<(x.toNat:Int))):qx a (x::l)=qx (a*64+x.toNat - 128) l:=by
 show(if _ then _ else _)=_;rw[M<|by simp;omega]
def zY(l:U)(h:(x.toNat:Int)<128\/191<(x.toNat:Int)):qx a (x::l)=none:=by
 show(if _ then _ else _)=_;rw[J<|by simp;omega]
def uj(a v:Int)(m:Nat):Bool:=decide ((if decide (rJ v m<a)then a else rJ v m)<=tQ v m)&&nY (if decide (rJ v m<a)then a else rJ v m) (tQ v m)
def zZ{b m:Nat}(d:mq x.toNat=some (b,a,c))(f:b=l.length+1+m)(e:qx c l=some v):kr (x::l)=if uj a v m then(m:Int)else -1:=by
 unfold kr;dsimp only;rw[d];dsimp only;rw[M,e];dsimp only;rw[show b - (l.length+1)=m by omega];unfold uj;with_reducible rfl
def z_{b:Nat}(d:mq x.toNat=some (b,a,c))(f:l.length+1<=b)(e:qx c l=none):kr (x::l)= -1:=by
 unfold kr;dsimp only;rw[d];dsimp only;rw[M,e]
def Ks(v:Int):eX v=true↔v=9\/v=10\/v=13\/(32<=v/\v<=55295)\/(57344<=v/\v<=65533)\/(65536<=v/\v<=1114111):=by
 unfold eX;split
 .simp;omega
 split
 .simp;omega
 simp;omega
def yd(a b:Int):nY a b=true↔(a<=9/\9<=b)\/(a<=10/\10<=b)\/(a<=13/\13<=b)\/(a<=55295/\32<=b)\/(a<=65533/\57344<=b)\/(a<=1114111/\65536<=b):=by
 unfold nY;simp;omega
def Ku(v:Int)(h:0<=v):nY v v=eX v:=by
 rw[kF,Ks,yd];omega
def Ff{m:Nat}(p q:Int)(b:rJ v m=p)(c:tQ v m=q):uj a v m=true↔(p<a/\a<=q/\nY a q=true)\/(a<=p/\p<=q/\nY p q=true):=by
 rw[uj,b,c];by_cases h:p<a
 .simp[h];omega
 simp[h];omega
def Kv(c:0<=v)(h:a<=v):gU v 0=uj a v 0:=by
 rw[kF,Ff v v rfl rfl,Ku v c];have e:gU v 0=eX v:=by simp[gU]
 rw[e];constructor
 .intro b;exact .inr ⟨h,vq _,b⟩
 rintro(b|b)
 .omega
 exact b.2.2
def ahn(a:0<=v)(b:v<=1023):gU v 1=uj 2048 v 1:=by
 rw[kF,Ff (v*64) (v*64+63) rfl rfl,yd,yd];simp[gU];omega
def aho(a:1024<=v)(b:v<=17407):gU v 1=uj 65536 v 1:=by
 rw[kF,Ff (v*64) (v*64+63) rfl rfl,yd,yd];simp[gU];omega
def ahp(a:0<=v)(b:v<=319):gU v 2=uj 65536 v 2:=by
 rw[kF,Ff (v*64*64) ((v*64+63)*64+63) rfl rfl,yd,yd];simp[gU];omega
def TA(h:gU v 2=true):16<=v/\v<=271:=by simpa[gU]using h
def TB(h:gU v 1=true):32<=v/\(v<864\/895<v):=by simpa[gU]using h
def Kw(h:gU v 0=true):eX v=true:=by simpa[gU]using h
def enc2(b:128<=v)(a:v<2048):dB v=[Mk.u8 (192+v / 64),Mk.u8 (128+v % 64)]:=by
 rw[dB,jf,M,J a];rfl
def enc3(b:2048<=v)(a:v<65536):dB v=[Mk.u8 (224+v / 4096),Mk.u8 (128+v / 64 % 64),Mk.u8 (128+v % 64)]:=by
 rw[dB,jf,M,M,J a];rfl
def enc4(a:65536<=v):dB v=[Mk.u8 (240+v / 262144),Mk.u8 (128+v / 4096 % 64),Mk.u8 (128+v / 64 % 64),Mk.u8 (128+v % 64)]:=by
 rw[dB,jf,M,M,M];rfl
def ahq(h:¬((b.toNat:Int)<128\/191<(b.toNat:Int))):eO c n b.toNat=if gU (c*64+b.toNat - 128) (n - 1)then some (c*64+b.toNat - 128,n - 1)else none:=by
 rw[eO,M h]
def ahr(h:Cp l c n)(b:UInt8):
 (eO c n b.toNat=none/\kr (l++[b])= -1)\/(∃g i,eO c n b.toNat=some (g,i)/\kr (l++[b])=i/\((0<i/\Cp (l++[b]) g i)\/(i=0/\l++[b]=dB g/\eX g=true/\128<=g))):=by
 have u:=b.toNat_lt;by_cases o:(b.toNat:Int)<128\/191<(b.toNat:Int)
 .refine .inl ⟨by unfold eO;rw[J o],?_⟩;obtain⟨rfl,rfl,j,k⟩|⟨rfl,rfl,j,k⟩|⟨rfl,rfl,j,k⟩|⟨rfl,rfl,j,k,q⟩|⟨rfl,rfl,j,k⟩|⟨rfl,rfl,j,k⟩:=h
  .exact z_ (by rw[iQ];exact Tz (by omega) (by omega)) (by simp) (zY [] o)
  .exact z_ (by rw[iQ];exact Fe (by omega) (by omega)) (by simp) (zY [] o)
  .exact z_ (by rw[iQ];exact zX) (by simp) (zY [] o)
  .exact z_ (by rw[iQ];exact Fe (by omega) (by omega)) (by simp) ((qH _<|by rw[iQ];omega).trans (zY [] o))
  .exact z_ (by rw[iQ];exact zX) (by simp) ((qH _<|by rw[iQ];omega).trans (zY [] o))
  exact z_ (by rw[iQ];exact zX) (by simp) ((qH _<|by rw[iQ];omega).trans ((qH _<|by rw[iQ];omega).trans (zY [] o)))
 rw[ahq o];obtain⟨x,hx⟩:∃x:Int,(b.toNat:Int)=x:=⟨_,rfl⟩;have e:=ahm hx;rw[hx]at o⊢;have f:∀(m:Nat) (d v:Int),v=c*64+x - 128->n=(m:Int)+1->kr (l++[b])=(if uj d v m then(m:Int)else -1)->gU v (n - 1)=uj d v m->
  ((gU v (n - 1)=true)->(0<n - 1/\Cp (l++[b]) v (n - 1))\/(n - 1=0/\l++[b]=dB v/\eX v=true/\128<=v))->
  ((if gU (c*64+x - 128) (n - 1)then some (c*64+x - 128,n - 1)else none)=none/\kr (l++[b])= -1)\/(∃g i,(if gU (c*64+x - 128) (n - 1)then some (c*64+x - 128,n - 1)else none)=some (g,i)/\kr (l++[b])=i/\((0<i/\Cp (l++[b]) g i)\/(i=0/\l++[b]=dB g/\eX g=true/\128<=g))):=by
  intro m d v r w p s t;subst r;rw[<-s]at p;cases a:gU (c*64+x - 128) (n - 1)
  .exact .inl ⟨by simp,by rw[p,a];simp⟩
  exact .inr ⟨_,_,by simp,by rw[p,a];simp;omega,t a⟩
 obtain⟨rfl,rfl,j,k⟩|⟨rfl,rfl,j,k⟩|⟨rfl,rfl,j,k⟩|⟨rfl,rfl,j,k,q⟩|⟨rfl,rfl,j,k⟩|⟨rfl,rfl,j,k⟩:=h
 .refine f 0 128 _ rfl (by omega) (zZ (by rw[iQ];exact Tz (by omega) (by omega)) (by simp) ((qH _<|by omega).trans (by rw[hx];rfl))) (Kv (by omega) (by omega)) λa=>.inr ⟨rfl,?_,Kw a,by omega⟩;rw[enc2 (by omega) (by omega),e,show(c*64+x - 128) / 64=c by omega,show 128+(c*64+x - 128) % 64=x by omega];rfl
 .refine f 1 2048 _ rfl (by omega) (zZ (by rw[iQ];exact Fe (by omega) (by omega)) (by simp) ((qH _<|by omega).trans (by rw[hx];rfl))) (ahn (by omega) (by omega)) λa=>.inl ⟨by omega,.inr (.inr (.inr (.inl ⟨rfl,?_,(TB a).1,by omega,(TB a).2⟩)))⟩;rw[e,show(c*64+x - 128) / 64=c by omega,show 128+(c*64+x - 128) % 64=x by omega];rfl
 .refine f 2 65536 _ rfl (by omega) (zZ (by rw[iQ];exact zX) (by simp) ((qH _<|by omega).trans (by rw[hx];rfl))) (ahp (by omega) (by omega)) λa=>.inl ⟨by omega,.inr (.inr (.inr (.inr (.inl ⟨rfl,?_,(TA a).1,(TA a).2⟩))))⟩;rw[e,show(c*64+x - 128) / 64=c by omega,show 128+(c*64+x - 128) % 64=x by omega];rfl
 .refine f 0 2048 _ rfl (by omega) (zZ (v:=c*64+x - 128) (by rw[iQ];exact Fe (by omega) (by omega)) (by simp) ((qH _<|by rw[iQ];omega).trans ((qH _<|by omega).trans (by rw[hx,iQ];show some _=some _;congr 1;omega)))) (Kv (by omega) (by omega)) λa=>.inr ⟨rfl,?_,Kw a,by omega⟩;rw[enc3 (by omega) (by omega),e,show(c*64+x - 128) / 64=c by omega,show(c*64+x - 128) / 4096=c / 64 by omega,show 128+(c*64+x - 128) % 64=x by omega];rfl
 .refine f 1 65536 _ rfl (by omega) (zZ (v:=c*64+x - 128) (by rw[iQ];exact zX) (by simp) ((qH _<|by rw[iQ];omega).trans ((qH _<|by omega).trans (by rw[hx,iQ];show some _=some _;congr 1;omega)))) (aho (by omega) (by omega)) λa=>.inl ⟨by omega,.inr (.inr (.inr (.inr (.inr ⟨rfl,?_,by omega,by omega⟩))))⟩;rw[e,show(c*64+x - 128) / 64=c by omega,show(c*64+x - 128) / 4096=c / 64 by omega,show 128+(c*64+x - 128) % 64=x by omega];rfl
 refine f 0 65536 _ rfl (by omega) (zZ (v:=c*64+x - 128) (by rw[iQ];exact zX) (by simp) ((qH _<|by rw[iQ];omega).trans ((qH _<|by rw[iQ];omega).trans ((qH _<|by omega).trans (by rw[hx,iQ,iQ];show some _=some _;congr 1;omega))))) (Kv (by omega) (by omega)) λa=>.inr ⟨rfl,?_,Kw a,by omega⟩;rw[enc4<|by omega,e,show(c*64+x - 128) / 64=c by omega,show(c*64+x - 128) / 4096=c / 64 by omega,show(c*64+x - 128) / 262144=c / 4096 by omega,show 128+(c*64+x - 128) % 64=x by omega];rfl
def gu(u:U):Ev:=⟨3,[],[],u,[]⟩
def bM:List Ev×U->List Ev->List Ev×U
 |p,[]=>p
 |p,e::X=>if e.kind=3 then bM (p.1,p.2++e.val) X else bM ((if p.2.length=0 then p.1 else p.1++[gu p.2])++[e],[]) X
def Ky(p:List Ev×U)(X a:List Ev):bM p (X++a)=bM (bM p X) a:=by
 induction X generalizing p with
 |nil=>rfl
 |cons e X ih=>simp only[wQ,bM];split<;>exact ih _
def cont(x:UInt8):Bool:=decide (128<=x.toNat)&&decide (x.toNat<192)
def chars:U->List U
 |[]=>[]
 |x::l=>match chars l with
  |[]=>[[x]]
  |c::a=>if cont (c.headD 0)then(x::c)::a else[x]::c::a
def Ch:U->Prop
 |[]=>False
 |x::l=>cont x=false/\∀y∈l,cont y=true
def ahs:∀(x:UInt8) (l:U),∃c a,chars (x::l)=(x::c)::a
 |x,l=>by
  simp only[chars];split
  .exact⟨_,_,rfl⟩
  split<;>exact⟨_,_,rfl⟩
def aht(x:UInt8):∀(l t:U),(∀y∈l,cont y=true)->(∀y b,t=y::b->cont y=false)->chars (x::l++t)=(x::l)::chars t:=by
 intro l;induction l generalizing x with
 |nil=>
  intro t _ a;cases t with
  |nil=>rfl
  |cons y t=>
   obtain⟨c,f,e⟩:=ahs y t;show chars (x::(y::t))=_;rw[chars,e];simp[a y t rfl]
 |cons y l ih=>
  intro t h a;have:=ih y t (λz d=>h z<|by simp[d]) a;show chars (x::(y::l++t))=_;rw[chars,this];simp[h y<|by simp]
def Pc(X:List Ev):Prop:=∀e∈X,e.kind=3->Ch e.val/\e=gu e.val
def u_(l:List Ev)(t:U):List Ev:=(l.flatMap λe=>if e.kind=3 then(chars e.val).map gu else[e])++(chars t).map gu
def TC{c:U}(h:Ch c):∀t:U,chars (t++c)=chars t++[c]
 |[]=>by
  cases c with
  |nil=>cases h
  |cons x l=>have:=aht x l [] h.2 (λ_ _ e=>by cases e);simpa[chars]using this
 |x::t=>by
  simp only[wQ,chars,(TC h t)];cases a:chars t with
  |nil=>
   cases c with
   |nil=>cases h
   |cons y l=>simp[h.1]
  |cons d b=>simp only[wQ];split<;>rfl
def Kz:∀(X:List Ev) (p:List Ev×U),Pc X->u_ (bM p X).1 (bM p X).2=u_ p.1 p.2++X
 |[],p,_=>by simp[bM]
 |e::X,p,h=>by
  have c:Pc X:=λa d=>h a (by simp[d]);simp only[bM];split
  .rename_i b;obtain⟨f,g⟩:=h e (by simp) b;rw[Kz X _ c];simp only[u_,TC f,mP,lf,qO,jB,wQ,ul];rw[<-g]
  rename_i b;rw[Kz X _ c];split
  .rename_i i;have:p.2=[]:=length_eq_zero_iff.1 i;simp[u_,b,this,chars]
  simp[u_,b,chars,gu]
def tb(m:Z)(b:UInt8):List Ev:=u_ (aS {m with C:=[],F:=[]} b).C (aS {m with C:=[],F:=[]} b).F
def tE:Z->U->List Ev
 |_,[]=>[]
 |m,b::l=>tb m b++tE (aS m b) l
def Co:∀(a b:U) (m:Z),tE m (a++b)=tE m a++tE (aQ m a) b
 |[],_,_=>rfl
 |x::a,b,m=>by simp only[wQ,tE,aQ,Co a b,jB]
def qj:∀(a b:U) (m:Z),aQ m (a++b)=aQ (aQ m a) b
 |[],_,_=>rfl
 |x::a,b,m=>by simp only[wQ,aQ,qj a b]
def Un:Z->U->Prop
 |_,[]=>True
 |m,b::l=>(∀L T,aS {m with C:=L,F:=T} b={aS m b with C:=(bM (L,T) (tb m b)).1,F:=(bM (L,T) (tb m b)).2})/\Un (aS m b) l
def Un.nil(m:Z):Un m []:=trivial
def Un.append:∀{a b:U} {m:Z},Un m a->Un (aQ m a) b->Un m (a++b)
 |[],_,_,_,g=>g
 |_::_,_,_,h,g=>⟨h.1,Un.append h.2 g⟩
def Un.right:∀{a b:U} {m:Z},Un m (a++b)->Un (aQ m a) b
 |[],_,_,h=>h
 |x::a,b,m,h=>@Un.right a b (aS m x) h.2
def Un.one(a:tb m b=X)(h:∀L T,aS {m with C:=L,F:=T} b={aS m b with C:=(bM (L,T) X).1,F:=(bM (L,T) X).2}):Un m [b]:=
 ⟨by rwa[a],trivial⟩
def Un.out:∀{l:U} {m:Z},Un m l->∀L T,aQ {m with C:=L,F:=T} l={aQ m l with C:=(bM (L,T) (tE m l)).1,F:=(bM (L,T) (tE m l)).2}
 |[],_,_,_,_=>rfl
 |b::l,m,h,L,T=>by
  show aQ (aS {m with C:=L,F:=T} b) l=_;rw[h.1 L T];have:=Un.out h.2 (bM (L,T) (tb m b)).1 (bM (L,T) (tb m b)).2;rw[this];show _={aQ (aS m b) l with C:=(bM (L,T) (tb m b++tE (aS m b) l)).1,F:=(bM (L,T) (tb m b++tE (aS m b) l)).2};rw[Ky]
def Lk(k m:Z):Prop:=∃L T a l c r,m={k with C:=L,F:=T,A:=a,K:=l,aN:=c,O:=r,j:=0}
def Does(k:Z)(b:Int)(X:List Ev)(d:Z):Prop:=
 ∀L T a r l c e,aP {k with C:=L,F:=T,A:=a,K:=l,aN:=c,O:=r,j:=e} b=({d with C:=(bM (L,T) X).1,F:=(bM (L,T) X).2,A:=a,K:=l,aN:=c,O:=r,j:=e},0)
def fQ(k:Z)(b e:Int):Prop:=
 ∀L T a r l c e0,(aP {k with C:=L,F:=T,A:=a,K:=l,aN:=c,O:=r,j:=e0} b).2=e
def nb(b:UInt8):Int:=if b=13 then 10 else(b.toNat:Int)
def ahu(m:Z)(b:Int):∃l c,gX m b={m with K:=l,aN:=c}:=by
 unfold gX;split
 .exact⟨_,_,rfl⟩
 split<;>exact⟨_,_,rfl⟩
def KA(e:m.j=0)(f:¬(b=10/\m.O=true)):
 aS m b=(let y:=aP {m with A:=m.A+1,O:=decide (b=13)} (nb b);{(if y.2=0 then gX y.1 (nb b)else y.1)with j:=y.2}):=by
 have d:b=13↔(b.toNat:Int)=13:=by
  constructor
  .rintro rfl;rfl
  intro h;exact UInt8.toNat_inj.1 (by simpa using(by omega:b.toNat=13))
 have c:b=10↔(b.toNat:Int)=10:=by
  constructor
  .rintro rfl;rfl
  intro h;exact UInt8.toNat_inj.1 (by simpa using(by omega:b.toNat=10))
 rw[aS,J e];unfold kE;simp only[<-c];rw[M f];unfold nb Mk.eY;by_cases a:b=13
 .rw[J (d.1 a)];simp only[a,bY,ajO];split
  .rename_i g;simp[g]
  rename_i g;simp[g]
 rw[M λg=>a (d.2 g)];simp only[a,cE,decide_false];split
 .rename_i g;simp[g]
 rename_i g;simp[g]
def Aa(a:m.j=0)(h:m.O=true):aS m 10={m with A:=m.A+1,O:=false,j:=0}:=by
 rw[aS,J a];unfold kE;simp[h]
def ahv(m:Z)(b:Int)(L:List Ev)(T:U):gX {m with C:=L,F:=T} b={gX m b with C:=L,F:=T}:=by
 unfold gX;split
 .rfl
 split<;>rfl
def wI{h:Z}(hd:Does k (nb b) X h)(i:Pc X)(j:Lk k m)(n:¬(b=10/\m.O=true)):
 Lk h (aS m b)/\(aS m b).O=decide (b=13)/\tb m b=X/\∀L T,aS {m with C:=L,F:=T} b={aS m b with C:=(bM (L,T) X).1,F:=(bM (L,T) X).2}:=by
 obtain⟨L,T,a,l,c,r,rfl⟩:=j;have d:∀f g,aS {k with C:=f,F:=g,A:=a,K:=l,aN:=c,O:=r,j:=0} b={gX {h with C:=[],F:=[],A:=a+1,K:=l,aN:=c,O:=decide (b=13),j:=0} (nb b)with C:=(bM (f,g) X).1,F:=(bM (f,g) X).2,j:=0}:=by
  intro f g;rw[KA (m:={k with C:=f,F:=g,A:=a,K:=l,aN:=c,O:=r,j:=0}) rfl n];simp only[hd f g (a+1) (decide (b=13)) l c 0,bY];have:=ahv {h with C:=[],F:=[],A:=a+1,K:=l,aN:=c,O:=decide (b=13),j:=0} (nb b) (bM (f,g) X).1 (bM (f,g) X).2;rw[this]
 obtain⟨o,p,e⟩:=ahu {h with C:=[],F:=[],A:=a+1,K:=l,aN:=c,O:=decide (b=13),j:=0} (nb b);rw[e]at d;refine⟨?_,?_,?_,?_⟩
 .rw[d L T];exact⟨_,_,_,_,_,_,rfl⟩
 .rw[d L T]
 .show u_ (aS {k with C:=[],F:=[],A:=a,K:=l,aN:=c,O:=r,j:=0} b).C (aS {k with C:=[],F:=[],A:=a,K:=l,aN:=c,O:=r,j:=0} b).F=X;rw[d [] []];have:=Kz X ([],[]) i;simpa[u_,chars]using this
 intro f g;rw[d f g,d L T]
def TD(d:Lk k m)(b:m.O=true):Lk k (aS m 10)/\(aS m 10).O=false/\tb m 10=[]/\∀L T,aS {m with C:=L,F:=T} 10={aS m 10 with C:=(bM (L,T) []).1,F:=(bM (L,T) []).2}:=by
 obtain⟨L,T,a,l,c,r,rfl⟩:=d;refine⟨?_,?_,?_,?_⟩
 .rw[Aa rfl b];exact⟨_,_,_,_,_,_,rfl⟩
 .rw[Aa rfl b]
 .show u_ (aS {k with C:=[],F:=[],A:=a,K:=l,aN:=c,O:=r,j:=0} 10).C (aS {k with C:=[],F:=[],A:=a,K:=l,aN:=c,O:=r,j:=0} 10).F=[];rw[Aa (m:={k with C:=[],F:=[],A:=a,K:=l,aN:=c,O:=r,j:=0}) rfl b];rfl
 intro e f;rw[Aa (m:={k with C:=e,F:=f,A:=a,K:=l,aN:=c,O:=r,j:=0}) rfl b,Aa rfl b];rfl
def ahw{e:Int}(hd:fQ k (nb b) e)(g:Lk k m)(h:¬(b=10/\m.O=true)):∀L T,(aS {m with C:=L,F:=T} b).j=e:=by
 obtain⟨L,T,a,l,c,r,rfl⟩:=g;intro d f;rw[KA (m:={k with C:=d,F:=f,A:=a,K:=l,aN:=c,O:=r,j:=0}) rfl h];exact hd d f (a+1) (decide (b=13)) l c 0
def Lk.en(h:Lk k m):m.j=0:=by obtain⟨L,T,a,l,c,r,rfl⟩:=h;rfl
def seg(r:R)(a b:Nat):U:=(r.s.drop a).take (b - a)
def uk(r:R)(a:Nat):seg r a a=[]:=by simp[seg]
def rU(r:R){a b c:Nat}(d:a<=b:=by omega)(f:b<=c:=by omega):seg r a c=seg r a b++seg r b c:=by
 unfold seg;have e:c - a=(b - a)+(c - b):=by omega
 rw[e,take_add,drop_drop,show a+(b - a)=b by omega]
def iS(r:R){a:Nat}(h:a<r.s.length):seg r a (a+1)=[r.s.getD a 0]:=by
 rw[seg,show a+1 - a=1 by omega,gB h];show[r.s[a]]=_;simp[List.getD,h]
def TE(r:R){a:Nat}:seg r a r.s.length=r.s.drop a:=by unfold seg;exact nZ (by simp)
structure dF(r:R)(m:Z)(r' :R)(m' :Z):Prop where
 s:r'.s=r.s
 o:r'.od=r.od/\r'.oa=r.oa/\r'.S=r.S/\r'.on=r.on/\r'.err=r.err
 wh:r.whole=false->r'.whole=false
 le:r.A<=r'.A
 lt:r'.A<=r.s.length
 aU:m' =aQ m (seg r r.A r'.A)
 ev:r'.y=r.y++tE m (seg r r.A r'.A)
 Ab:Un m (seg r r.A r'.A)
def dF.refl(h:r.A<=r.s.length):dF r m r m:=⟨rfl,⟨rfl,rfl,rfl,rfl,rfl⟩,id,a_ _,h,by rw[uk];rfl,by rw[uk];simp[tE],by rw[uk];exact Un.nil _⟩
def Cq{c:R}(h:c.s=r.s)(a b:Nat):seg c a b=seg r a b:=by unfold seg;rw[h]
def dF.trans{r a b:R}{m c d:Z}(h:dF r m a c)(g:dF a c b d):dF r m b d:=by
 have e:=rU r h.le g.le;refine⟨g.s.trans h.s,⟨g.o.1.trans h.o.1,g.o.2.1.trans h.o.2.1,g.o.2.2.1.trans h.o.2.2.1,g.o.2.2.2.1.trans h.o.2.2.2.1,g.o.2.2.2.2.trans h.o.2.2.2.2⟩,λw=>g.wh (h.wh w),cL h.le g.le,by have:=g.lt;rwa[h.s]at this,?_,?_,?_⟩
 .rw[e,qj,<-h.aU,<-Cq h.s];exact g.aU
 .rw[e,Co,<-h.aU,g.ev,h.ev,jB,Cq h.s]
 rw[e];refine h.Ab.append ?_;rw[<-h.aU,<-Cq h.s];exact g.Ab
def Rt(r:R)(m:Z):Prop:=m.O=true->r.s.getD r.A 0≠10
def Fin(r:R)(m:Z)(a:R):Prop:=
 (a.stop=1/\a.err=r.err/\∃k,Lk k (aQ m (r.s.drop r.A))/\a.y=r.y++tE m (r.s.drop r.A)/\a.I=k.I/\a.whole=fO k/\Un m (r.s.drop r.A))\/
 (a.stop=2/\r.A<=a.A/\a.A<r.s.length/\(∃k,Lk k (aQ m (seg r r.A a.A)))/\(∀L T,(aS {aQ m (seg r r.A a.A)with C:=L,F:=T} (r.s.getD a.A 0)).j=a.err)/\a.err≠0/\(r.whole=false->a.whole=false)/\Un m (seg r r.A a.A))
def Fin.of{a l:R}{n:Z}(h:dF r m a n)(g:Fin a n l):Fin r m l:=by
 obtain⟨d,b,k,f,i,c,j,p⟩|⟨d,b,f,⟨k,i⟩,c,j,p,q⟩:=g
 .have e:r.s.drop r.A=seg r r.A a.A++a.s.drop a.A:=by
   rw[<-TE,<-TE,rU r h.le h.lt,Cq h.s,h.s]
  refine .inl ⟨d,b.trans h.o.2.2.2.2,k,?_,?_,c,j,?_⟩
  .rwa[e,qj,<-h.aU]
  .rw[e,Co,<-h.aU,i,h.ev,jB]
  rw[e];refine h.Ab.append ?_;rwa[<-h.aU]
 have e:=rU r h.le b;rw[Cq h.s]at i c q;rw[h.s]at f c;refine .inr ⟨d,cL h.le b,f,⟨k,?_⟩,?_,j,λw=>p (h.wh w),?_⟩
 .rwa[e,qj,<-h.aU]
 .rwa[e,qj,<-h.aU]
 rw[e];refine h.Ab.append ?_;rwa[<-h.aU]
def kY{c:Z}(h:r.A<r.s.length)(g:Lk k m)(i:Rt r m)(d:r.s.getD r.A 0≠13)(hd:Does k (nb (r.s.getD r.A 0)) X c)(j:Pc X):
 ∃e,dF r m {r with A:=r.A+1,y:=r.y++X} e/\Lk c e/\e.O=false:=by
 have l:¬(r.s.getD r.A 0=10/\m.O=true):=λ⟨a,b⟩=>i b a;obtain⟨p,n,f,o⟩:=wI hd j g l;refine⟨_,⟨rfl,⟨rfl,rfl,rfl,rfl,rfl⟩,id,by simp,h,rfl,?_,?_⟩,?_,?_⟩
 .show _++X=_;rw[iS r h];simp only[tE,f,aj1]
 .show Un m (seg r r.A (r.A+1));rw[iS r h];exact Un.one f o
 .show Lk c (aQ m (seg r r.A (r.A+1)));rwa[iS r h]
 show(aQ m (seg r r.A (r.A+1))).O=false;rw[iS r h];show(aS m _).O=false;rw[n];simpa using d
def Rt.of(h:m.O=false):Rt r m:=λg=>by rw[h]at g;cases g
def ahx{d:Z}(h:r.A<r.s.length)(g:Lk k m)(c:r.s.getD r.A 0=13)(i:r.s.getD (r.A+1) 0≠10)(hd:Does k 10 X d)(j:Pc X):
 ∃e,dF r m {r with A:=r.A+1,y:=r.y++X} e/\Lk d e/\Rt {r with A:=r.A+1,y:=r.y++X} e:=by
 have l:¬(r.s.getD r.A 0=10/\m.O=true):=λ⟨a,b⟩=>by rw[c]at a;cases a
 obtain⟨o,p,f,n⟩:=wI (b:=r.s.getD r.A 0) (by rwa[c]) j g l;refine⟨_,⟨rfl,⟨rfl,rfl,rfl,rfl,rfl⟩,id,by simp,h,rfl,?_,?_⟩,?_,?_⟩
 .show _++X=_;rw[iS r h];simp only[tE,f,aj1]
 .show Un m (seg r r.A (r.A+1));rw[iS r h];exact Un.one f n
 .show Lk d (aQ m (seg r r.A (r.A+1)));rwa[iS r h]
 intro _;exact i
def ahy{d:Z}(h:r.A+1<r.s.length)(l:Lk k m)(c:r.s.getD r.A 0=13)(n:r.s.getD (r.A+1) 0=10)(hd:Does k 10 X d)(o:Pc X):
 ∃f,dF r m {r with A:=r.A+2,y:=r.y++X} f/\Lk d f/\f.O=false:=by
 have p:¬(r.s.getD r.A 0=10/\m.O=true):=λ⟨a,b⟩=>by rw[c]at a;cases a
 obtain⟨q,t,i,u⟩:=wI (b:=r.s.getD r.A 0) (by rwa[c]) o l p;have g:(aS m (r.s.getD r.A 0)).O=true:=by rw[t,c];rfl
 obtain⟨w,x,j,v⟩:=TD q g;have e:seg r r.A (r.A+2)=[r.s.getD r.A 0,10]:=by
  rw[rU r (b:=r.A+1)<|by omega,iS r<|by omega,iS r (a:=r.A+1) h,n];rfl
 refine⟨_,⟨rfl,⟨rfl,rfl,rfl,rfl,rfl⟩,id,by simp,h,rfl,?_,?_⟩,?_,?_⟩
 .show _++X=_;rw[e];simp only[tE,i,j,aj1]
 .show Un m (seg r r.A (r.A+2));rw[e];exact Un.append (a:=[_]) (Un.one i u) (Un.one j v)
 .show Lk d (aQ m (seg r r.A (r.A+2)));rwa[e]
 show(aQ m (seg r r.A (r.A+2))).O=false;rwa[e]
def f_{e:Int}(h:r.A<r.s.length)(c:Lk k m)(d:Rt r m)(hd:fQ k (nb (r.s.getD r.A 0)) e)(f:e≠0:=by decide):Fin r m (eZ r e):=by
 have g:¬(r.s.getD r.A 0=10/\m.O=true):=λ⟨a,b⟩=>d b a;refine .inr ⟨rfl,a_ _,h,⟨k,?_⟩,?_,f,id,?_⟩
 .show Lk k (aQ m (seg r r.A r.A));rwa[uk]
 .show ∀L T,(aS {aQ m (seg r r.A r.A)with C:=L,F:=T} (r.s.getD r.A 0)).j=e;rw[uk];exact ahw hd c g
 show Un m (seg r r.A r.A);rw[uk];exact Un.nil _
def jS(h:r.A=r.s.length)(c:Lk k m)(a:r.I=k.I)(b:r.whole=fO k):Fin r m {r with stop:=1}:=by
 have e:r.s.drop r.A=[]:=by rw[h];simp
 refine .inl ⟨rfl,rfl,k,?_,?_,a,b,?_⟩
 .rwa[e]
 .show r.y=_;rw[e];simp[tE]
 rw[e];exact Un.nil _
def kO:Pc []:=λe a=>by cases a
def isSp:Rf.bJ (x.toNat:Int)=true↔x=32\/x=9\/x=10\/x=13:=by
 have h (k:UInt8):((x.toNat:Int)=(k.toNat:Int))↔x=k:=by
  constructor
  .intro g;exact UInt8.toNat_inj.1 (by omega)
  rintro rfl;rfl
 have a:=h 32;have b:=h 9;have c:=h 10;have d:=h 13;simp only[Rf.bJ,CW,ajP];rw[<-a,<-b,<-c,<-d];simp[or_assoc]
def oz{a:Nat}(h:a<l.length):iK p (l.drop a)=if p ((l.getD a 0).toNat:Int)then iK p (l.drop (a+1))+1 else 0:=by
 unfold iK;rw[gB h];have e:l[a]=l.getD a 0:=by simp[List.getD,h]
 rw[e,AA];split<;>simp
def run_end{a:Nat}(h:l.length<=a):iK p (l.drop a)=0:=by
 rw[oQ h];rfl
def qI(h:x≠13):nb x=(x.toNat:Int):=by rw[nb,M h]
def Ac{x j:Z}(K:∀b,b=32\/b=9\/b=10->Does x b [] j)(v:∀b,b=32\/b=9\/b=10->Does j b [] j):
 ∀(n:Nat) (r:R) (m:Z),r.s.length - r.A=n->r.A<=r.s.length->Lk x m->Rt r m->
  ∃o,dF r m (aV r) o/\Rt (aV r) o/\(((aV r).A=r.A/\o=m/\Lk x o)\/(r.A<(aV r).A/\Lk j o))/\(∀h:(aV r).A<r.s.length,Rf.bJ (r.E (aV r).A)=false):=by
 have N:∀(n:Nat) (r:R) (m:Z),r.s.length - r.A=n->r.A<=r.s.length->Lk j m->
  ∃o,dF r m (aV r) o/\Rt (aV r) o/\r.A<=(aV r).A/\Lk j o/\(∀h:(aV r).A<r.s.length,Rf.bJ (r.E (aV r).A)=false):=by
  intro n;induction n with
  |zero=>
   intro r m I t k;have e:aV r=r:=by unfold aV;rw[run_end<|by omega];rfl
   rw[e];refine⟨m,dF.refl t,λ_=>?_,a_ _,k,λh=>by omega⟩;rw[List.getD,CM<|by omega];decide
  |succ n ih=>
   intro r m I t k;have d:r.A<r.s.length:=by omega
   have f:=oz (p:=Rf.bJ) d;by_cases i:Rf.bJ ((r.s.getD r.A 0).toNat:Int)=true
   .rw[J i]at f;have e:aV r=aV {r with A:=r.A+1}:=by
     unfold aV;simp only[f];congr 1;omega
    have q:∃w,dF r m {r with A:=r.A+1} w/\Lk j w:=by
     obtain g|g|g|g:=isSp.1 i
     .by_cases u:r.s.getD r.A 0=10/\m.O=true
      .rw[g]at u;cases u.1
      obtain⟨a,b,c,l⟩:=wI (v 32 (.inl rfl)) kO k (b:=32) (by rintro⟨g,_⟩;cases g);refine⟨_,⟨rfl,⟨rfl,rfl,rfl,rfl,rfl⟩,id,by simp,d,rfl,?_,?_⟩,?_⟩
      .show r.y=_;rw[iS r d,g];simp[tE,c]
      .show Un m (seg r r.A (r.A+1));rw[iS r d,g];exact Un.one c l
      show Lk j (aQ m (seg r r.A (r.A+1)));rwa[iS r d,g]
     .obtain⟨a,b,c,l⟩:=wI (v 9 (.inr (.inl rfl))) kO k (b:=9) (by rintro⟨g,_⟩;cases g);refine⟨_,⟨rfl,⟨rfl,rfl,rfl,rfl,rfl⟩,id,by simp,d,rfl,?_,?_⟩,?_⟩
      .show r.y=_;rw[iS r d,g];simp[tE,c]
      .show Un m (seg r r.A (r.A+1));rw[iS r d,g];exact Un.one c l
      show Lk j (aQ m (seg r r.A (r.A+1)));rwa[iS r d,g]
     .have:Lk j (aS m 10)/\tb m 10=[]/\∀L T,aS {m with C:=L,F:=T} 10={aS m 10 with C:=(bM (L,T) []).1,F:=(bM (L,T) []).2}:=by
       by_cases u:m.O=true
       .obtain⟨a,b,c,l⟩:=TD k u;exact⟨a,c,l⟩
       obtain⟨a,b,c,l⟩:=wI (v 10 (.inr (.inr rfl))) kO k (b:=10) (by rintro⟨_,g⟩;exact u g);exact⟨a,c,l⟩
      refine⟨_,⟨rfl,⟨rfl,rfl,rfl,rfl,rfl⟩,id,by simp,d,rfl,?_,?_⟩,?_⟩
      .show r.y=_;rw[iS r d,g];simp[tE,this.2.1]
      .show Un m (seg r r.A (r.A+1));rw[iS r d,g];exact Un.one this.2.1 this.2.2
      show Lk j (aQ m (seg r r.A (r.A+1)));rw[iS r d,g];exact this.1
     obtain⟨a,b,c,l⟩:=wI (v 10 (.inr (.inr rfl))) kO k (b:=13) (by rintro⟨g,_⟩;cases g);refine⟨_,⟨rfl,⟨rfl,rfl,rfl,rfl,rfl⟩,id,by simp,d,rfl,?_,?_⟩,?_⟩
     .show r.y=_;rw[iS r d,g];simp[tE,c]
     .show Un m (seg r r.A (r.A+1));rw[iS r d,g];exact Un.one c l
     show Lk j (aQ m (seg r r.A (r.A+1)));rwa[iS r d,g]
    obtain⟨w,y,z⟩:=q;obtain⟨A,B,C,D,E,F⟩:=ih {r with A:=r.A+1} w (by simp;omega) (by simp;omega) z;rw[e];exact⟨A,y.trans B,C,by simp at D;omega,E,F⟩
   rw[M i]at f;have e:aV r=r:=by unfold aV;simp only[f];rfl
   rw[e];refine⟨m,dF.refl t,λ_ g=>?_,a_ _,k,λ_=>by simpa[R.E]using i⟩;rw[g]at i;exact i rfl
 intro n r m I t k G;by_cases d:r.A<r.s.length
 .have f:=oz (p:=Rf.bJ) d;by_cases i:Rf.bJ ((r.s.getD r.A 0).toNat:Int)=true
  .rw[J i]at f;have e:aV r=aV {r with A:=r.A+1}:=by
    unfold aV;simp only[f];congr 1;omega
   have H:nb (r.s.getD r.A 0)=32\/nb (r.s.getD r.A 0)=9\/nb (r.s.getD r.A 0)=10:=by
    obtain g|g|g|g:=isSp.1 i<;>rw[g]<;>decide
   obtain⟨a,b,c,l⟩:=wI (K _ H) kO k (b:=r.s.getD r.A 0) λg=>G g.2 g.1;have y:dF r m {r with A:=r.A+1} (aS m (r.s.getD r.A 0)):=by
    refine⟨rfl,⟨rfl,rfl,rfl,rfl,rfl⟩,id,by simp,d,?_,?_,?_⟩
    .show _=aQ m (seg r r.A (r.A+1));rw[iS r d];rfl
    .show r.y=_;rw[iS r d];simp only[tE,c,aj1]
    show Un m (seg r r.A (r.A+1));rw[iS r d];exact Un.one c l
   obtain⟨A,B,C,D,E,F⟩:=N _ {r with A:=r.A+1} _ rfl (by simp;omega) a;rw[e];exact⟨A,y.trans B,C,.inr ⟨by simp at D;omega,E⟩,F⟩
  rw[M i]at f;have e:aV r=r:=by unfold aV;simp only[f];rfl
  rw[e];exact⟨m,dF.refl t,G,.inl ⟨rfl,rfl,k⟩,λ_=>by simpa[R.E]using i⟩
 have e:aV r=r:=by unfold aV;rw[run_end<|by omega];rfl
 rw[e];exact⟨m,dF.refl t,G,.inl ⟨rfl,rfl,k⟩,λh=>aj6 h d⟩
def u8n(x:UInt8):Mk.u8 (x.toNat:Int)=x:=rT x
def TF(N:Int)(E:p 10=false)(o:p 13=false)
 (hd:∀(t:U) (n b:Int),0<n->p b=true->n+1<=N->Does {k with i:=t,G:=n} b [] {k with i:=t++[Mk.u8 b],G:=n+1}):
 ∀(q:Nat) (r:R) (m:Z) (t:U) (c:Int),iK p (r.s.drop r.A)=q->r.A<=r.s.length->Lk {k with i:=t,G:=c} m->Rt r m->c<=N->0<c->
  (c+q<=N/\∃f,dF r m {r with A:=r.A+q} f/\Lk {k with i:=t++seg r r.A (r.A+q),G:=c+q} f/\Rt {r with A:=r.A+q} f)\/
  (N<c+q/\∃f,dF r m {r with A:=r.A+(N - c).toNat} f/\Lk {k with i:=t++seg r r.A (r.A+(N - c).toNat),G:=N} f/\Rt {r with A:=r.A+(N - c).toNat} f/\r.A+(N - c).toNat<r.s.length/\p ((r.s.getD (r.A+(N - c).toNat) 0).toNat:Int)=true):=by
 intro q;induction q with
 |zero=>
  intro r m t c d A y B F u;refine .inl ⟨by simpa using F,m,dF.refl A,?_,B⟩;simpa[uk]using y
 |succ q ih=>
  intro r m t c d A y B F u;have i:r.A<r.s.length:=by
   by_cases h:r.A<r.s.length
   .exact h
   rw[run_end<|by omega]at d;cases d
  rw[oz i]at d;have a:p ((r.s.getD r.A 0).toNat:Int)=true:=by
   by_cases h:p ((r.s.getD r.A 0).toNat:Int)=true
   .exact h
   rw[M h]at d;cases d
  rw[J a]at d;by_cases l:c=N
  .refine .inr ⟨by omega,m,?_,?_,?_,?_,?_⟩
   .rw[show r.A+(N - c).toNat=r.A by omega];exact dF.refl A
   .rw[show r.A+(N - c).toNat=r.A by omega,uk,aj1];exact Eq.mp (congrArg (λz=>Lk {k with i:=t,G:=z} m) l) y
   .rwa[show r.A+(N - c).toNat=r.A by omega]
   .omega
   rwa[show r.A+(N - c).toNat=r.A by omega]
  have v:r.s.getD r.A 0≠13:=by
   intro g;rw[g]at a;rw[show((13:UInt8).toNat:Int)=13 from rfl,o]at a;cases a
  obtain⟨G,C,w,D⟩:=kY i y B v (by rw[qI v];exact hd t c _ u a (by omega)) kO;rw[aj1]at C;rw[u8n]at w;have e:∀j,seg r r.A (r.A+1+j)=r.s.getD r.A 0::seg r (r.A+1) (r.A+1+j):=λj=>by
   rw[rU r (b:=r.A+1)<|by omega,iS r i];rfl
  rcases ih {r with A:=r.A+1} G _ _ (by simpa using d) (by simp;omega) w (Rt.of D) (by omega) (by omega)with⟨g1,m2,g2,g3,g4⟩|⟨g1,m2,g2,g3,g4,g5,g6⟩
  .refine .inl ⟨by omega,m2,?_,?_,?_⟩
   .have:=C.trans g2;rwa[show r.A+(q+1)=r.A+1+q by omega]
   .rw[show r.A+(q+1)=r.A+1+q by omega,e q];have:t++[r.s.getD r.A 0]++seg r (r.A+1) (r.A+1+q)=t++r.s.getD r.A 0::seg r (r.A+1) (r.A+1+q):=by simp
    rw[<-this,show c+((q+1:Nat):Int)=c+1+q by omega];exact g3
   rw[show r.A+(q+1)=r.A+1+q by omega];exact g4
  have x:r.A+(N - c).toNat=r.A+1+(N - (c+1)).toNat:=by omega
  refine .inr ⟨by omega,m2,?_,?_,?_,?_,?_⟩
  .rw[x];exact C.trans g2
  .rw[x,e];have:t++[r.s.getD r.A 0]++seg r (r.A+1) (r.A+1+(N - (c+1)).toNat)=t++r.s.getD r.A 0::seg r (r.A+1) (r.A+1+(N - (c+1)).toNat):=by simp
   rw[<-this];exact g3
  .rw[x];exact g4
  .rw[x];exact g5
  rw[x];exact g6
structure Cx(k:Z)(X0:List Ev)(X1:Int->List Ev)(F:Int->Z)(G:Int->Int->Z)(b b' :Int):Prop where
 one:∀c,eF b' =some (c,0)->Does k b (X0++X1 c) (F c)
 more:∀c n,0<n->eF b' =some (c,n)->Does k b X0 (G c n)
 non:eF b' =none->fQ k b 2
 on:∀c n x c' n', 0<n->eO c n x=some (c', n')->0<n' ->Does (G c n) x [] (G c' n')
 last:∀c n x c', 0<n->eO c n x=some (c', 0)->Does (G c n) x (X1 c') (F c')
 bad:∀c n x,0<n->eO c n x=none->fQ (G c n) x 2
 Cr:Pc X0
 pc1:∀c,eX c=true->0<=c->Pc (X1 c)
 I:∀c n,(G c n).I=k.I
 doc:∀c n,fO (G c n)=false
def Fg{a:List Ev}(h:Pc X)(g:Pc a):Pc (X++a):=λe d c=>by
 obtain b|b:=mem_append.1 d
 .exact h e b c
 exact g e b c
def ahz{d:List Ev}{D:Int->List Ev}{F:Int->Z}{G:Int->Int->Z}{b W:Int}(o:Cx k d D F G b W)(ho:r.I=k.I)(hw:r.whole=false):
 ∀(f j:Nat) (m:Z) (c n:Int),Cp (seg r r.A (r.A+j)) c n->r.A+j<=r.s.length->Lk (G c n) m->Rt {r with A:=r.A+j,y:=r.y++d} m->r.s.length<r.A+j+f->0<n->0<j->
  (∃i E H,iH r f (j+1)=({r with A:=r.A+H},dB i,true)/\j<=H/\dF {r with A:=r.A+j,y:=r.y++d} m {r with A:=r.A+H,y:=r.y++(d++D i)} E/\Lk (F i) E/\E.O=false/\eX i=true/\0<=i)
  \/(∃I,iH r f (j+1)=(I,[],false)/\I.y=r.y/\Fin {r with A:=r.A+j,y:=r.y++d} m {I with y:=r.y++d}):=by
 intro f;induction f with
 |zero=>
  intro j m c n O hl v z hf w hj;omega
 |succ f ih=>
  intro j m c n O hl v z hf w hj;unfold iH;by_cases p:r.A+(j+1)<=r.s.length
  .rw[J p];have h:r.A+j<r.s.length:=by omega
   have e:(r.s.drop r.A).take (j+1)=seg r r.A (r.A+j)++[r.s.getD (r.A+j) 0]:=by
    have:=rU r (a:=r.A) (b:=r.A+j) (c:=r.A+(j+1)) (by omega) (by omega);rw[show r.A+(j+1)=r.A+j+1 by omega,iS r h]at this;rw[<-this];rw[seg,show r.A+j+1 - r.A=j+1 by omega]
   rw[e];have K:r.s.getD (r.A+j) 0=13->eO c n (r.s.getD (r.A+j) 0).toNat=none:=by
    intro g;rw[g];rw[eO,J]
   obtain⟨u,A⟩|⟨i,P,u,A,B⟩:=ahr O (r.s.getD (r.A+j) 0)
   .dsimp only;rw[A,J];refine .inr ⟨_,rfl,rfl,?_⟩;have hx:fQ (G c n) (nb (r.s.getD (r.A+j) 0)) 2:=by
     by_cases g:r.s.getD (r.A+j) 0=13
     .rw[g];exact o.bad c n 10 w (by rw[eO,J])
     rw[qI g];exact o.bad c n _ w u
    have:=f_ (r:={r with A:=r.A+j,y:=r.y++d}) h v z hx (by decide);exact this
   have l:r.s.getD (r.A+j) 0≠13:=λg=>by rw[K g]at u;cases u
   obtain⟨B,Q⟩|⟨rfl,Q,S,h6⟩:=B
   .obtain⟨C,L,q,t⟩:=kY (r:={r with A:=r.A+j,y:=r.y++d}) (X:=[]) h v z l (by show Does _ (nb (r.s.getD (r.A+j) 0)) _ _;rw[qI l];exact o.on c n _ i P w u B) kO;dsimp only;rw[A,M,M];have e2:seg r r.A (r.A+(j+1))=seg r r.A (r.A+j)++[r.s.getD (r.A+j) 0]:=by rw[<-e];rw[seg,show r.A+(j+1) - r.A=j+1 by omega]
    simp only[aj1]at L;have x:dF {r with A:=r.A+j,y:=r.y++d} m {r with A:=r.A+(j+1),y:=r.y++d} C:=L;obtain⟨c2,m2,j2,N,T,q3,q4⟩|⟨r2,N,q0,T⟩:=ih (j+1) C i P (by rwa[e2]) p q (Rt.of t) (by omega) B (by omega)
    .exact .inl ⟨c2,m2,j2,N,by omega,x.trans q3,q4⟩
    exact .inr ⟨r2,N,q0,Fin.of x T⟩
   obtain⟨C,L,q,t⟩:=kY (r:={r with A:=r.A+j,y:=r.y++d}) (X:=D i) h v z l (by show Does _ (nb (r.s.getD (r.A+j) 0)) _ _;rw[qI l];exact o.last c n _ i w u) (o.pc1 i S<|by omega);dsimp only;rw[A,M,J rfl,Q];refine .inl ⟨i,C,j+1,rfl,by omega,?_,q,t,S,by omega⟩;rwa[<-jB]
  rw[M p];refine .inr ⟨_,rfl,rfl,?_⟩;have y:r.A+j=r.s.length:=by omega
  have:=jS (r:={r with A:=r.A+j,y:=r.y++d}) y v (by rwa[o.I]) (by rwa[o.doc]);have e:({r with A:=r.s.length,stop:=1,y:=r.y++d}:R)={r with A:=r.A+j,stop:=1,y:=r.y++d}:=by rw[y]
  rwa[e]
def yg{j:Nat}:(r.s.drop r.A).take j=seg r r.A (r.A+j):=by rw[seg,show r.A+j - r.A=j by omega]
def Cs{W:List Ev}{X1:Int->List Ev}{F:Int->Z}{G:Int->Int->Z}{b' :Int}(u:Cx k W X1 F G (nb (r.s.getD r.A 0)) b')
 (H:b' =nb (r.s.getD r.A 0)\/(b' =32/\(nb (r.s.getD r.A 0)=10\/nb (r.s.getD r.A 0)=9)))
 (ho:r.I=k.I) (hw:r.whole=false) (I:r.A<r.s.length) (K:Lk k m) (L:Rt r m):
  (∃c v j t,bF r=({r with A:=r.A+j},t,true)/\0<j/\dF r m {r with A:=r.A+j,y:=r.y++(W++X1 c)} v/\Lk (F c) v/\Rt {r with A:=r.A+j,y:=r.y++(W++X1 c)} v/\eX c=true/\0<=c/\((b' =nb (r.s.getD r.A 0)/\dB c=t)\/(b' =32/\(nb (r.s.getD r.A 0)=10\/nb (r.s.getD r.A 0)=9)/\c=32/\(t=[10]\/t=[9]))))
  \/(∃r', bF r=(r', [],false)/\r'.y=r.y/\Fin r m {r' with y:=r.y++W}):=by
 have w:∀i,r.E i=((r.s.getD i 0).toNat:Int):=λi=>rfl;have N:∀(x:UInt8) (y:Nat),y<256->((x.toNat:Int)=y↔x=UInt8.ofNat y):=by
  intro x y hy;constructor
  .intro g;rw[<-(show x.toNat=y by omega)];simp
  rintro rfl;simp;omega
 by_cases a:nb (r.s.getD r.A 0)=10
 ·
  have a0:∃c,eF b' =some (c,0)/\eX c=true/\0<=c/\((b' =nb (r.s.getD r.A 0)/\dB c=[10])\/(b' =32/\c=32)):=by
   obtain g|⟨g,_⟩:=H
   .rw[g,a];exact⟨10,rfl,rfl,by decide,.inl ⟨rfl,rfl⟩⟩
   rw[g];exact⟨32,rfl,rfl,by decide,.inr ⟨rfl,rfl⟩⟩
  obtain⟨c,hc,D,E,a1⟩:=a0;have hd:=u.one c hc;have hX:=Fg u.Cr (u.pc1 c D E);have B:(b' =nb (r.s.getD r.A 0)/\dB c=[10])\/(b' =32/\(nb (r.s.getD r.A 0)=10\/nb (r.s.getD r.A 0)=9)/\c=32/\(([10]:U)=[10]\/([10]:U)=[9])):=by
   obtain g|g:=a1
   .exact .inl g
   exact .inr ⟨g.1,.inl a,g.2,.inl rfl⟩
  have C:r.s.getD r.A 0=10\/r.s.getD r.A 0=13:=by
   unfold nb at a;split at a
   .rename_i g;exact .inr g
   exact .inl ((N _ 10<|by decide).1 a)
  have f:(r.E r.A==10||r.E r.A==13)=true:=by
   rw[w];obtain g|g:=C<;>rw[g]<;>decide
  unfold bF;rw[J f];obtain g|g:=C
  .have e1:(r.E r.A==13)=false:=by rw[w,g];decide
   obtain⟨v,A,b,d⟩:=kY I K L (by rw[g];decide) hd hX;refine .inl ⟨c,v,1,[10],?_,by omega,A,b,Rt.of d,D,E,B⟩;rw[e1];rfl
  have e1:(r.E r.A==13)=true:=by rw[w,g];decide
  rw[a]at hd;by_cases O:r.A+1<r.s.length/\r.s.getD (r.A+1) 0=10
  .have e2:(r.E (r.A+1)==10)=true:=by rw[w,O.2];decide
   obtain⟨v,A,b,d⟩:=ahy O.1 K g O.2 hd hX;refine .inl ⟨c,v,2,[10],?_,by omega,A,b,Rt.of d,D,E,B⟩;rw[e1,e2,nR O.1];rfl
  have P:r.s.getD (r.A+1) 0≠10:=by
   intro q;by_cases h3:r.A+1<r.s.length
   .exact O ⟨h3,q⟩
   rw[List.getD,CM<|by omega]at q;cases q
  obtain⟨v,A,b,d⟩:=ahx I K g P hd hX;refine .inl ⟨c,v,1,[10],?_,by omega,A,b,d,D,E,B⟩;have e2:(r.E (r.A+1)==10)=false:=by
   rw[w,d_];intro q;exact P ((N _ 10<|by decide).1 q)
  rw[e1,e2,kx];rfl
 have l:r.s.getD r.A 0≠13:=by intro g;apply a;rw[g];rfl
 have a2:r.s.getD r.A 0≠10:=by intro g;apply a;rw[g];rfl
 have f:(r.E r.A==10||r.E r.A==13)=false:=by
  rw[w,uq,d_,d_];exact⟨λq=>a2 ((N _ 10<|by decide).1 q),λq=>l ((N _ 13<|by decide).1 q)⟩
 unfold bF;dsimp only;rw[f,M,iH,J,yg,iS r I];dsimp only;rw[zu];rw[qI l]at u H a⊢;have o:∀{X:List Ev} {k' :Z},Does k ((r.s.getD r.A 0).toNat:Int) X k' ->Does k (nb (r.s.getD r.A 0)) X k' :=by intro X k' h;rwa[qI l]
 obtain H|⟨H,Q⟩:=H
 .subst H;cases z:eF ((r.s.getD r.A 0).toNat:Int)with
  |none=>
   rw[J];refine .inr ⟨_,rfl,rfl,?_⟩;have:=f_ I K L (e:=2) (by rw[qI l];exact u.non z) (by decide);obtain⟨q,_⟩|⟨_,S,q2,q3,q4,q5⟩:=this
   .cases q
   .exact .inr ⟨rfl,S,q2,q3,q4,q5⟩
  |some p=>
   obtain⟨c,n⟩:=p;dsimp only;obtain⟨rfl,hc,a3,T⟩|⟨P,a6⟩:=Ty z
   .rw[M,J rfl];obtain⟨v,A,b,d⟩:=kY I K L l (o (u.one c z)) (Fg u.Cr (u.pc1 c T<|by omega));refine .inl ⟨c,v,1,_,rfl,by omega,A,b,Rt.of d,T,by omega,.inl ⟨rfl,?_⟩⟩;rw[uZ (by omega) a3,hc,rT]
   rw[M,M];obtain⟨m1,A,a4,a5⟩:=kY I K L l (o (u.more c n P z)) u.Cr;obtain⟨c2,m2,j2,S,q2,q3,q4,q5,q6,q7⟩|⟨r2,S,q0,q2⟩:=ahz u ho hw r.s.length 1 m1 c n (by rwa[iS r I]) (by omega) a4 (Rt.of a5) (by omega) P (by decide)
   .exact .inl ⟨c2,m2,j2,_,S,by omega,A.trans q3,q4,Rt.of q5,q6,q7,.inl ⟨rfl,rfl⟩⟩
   exact .inr ⟨r2,S,q0,Fin.of A q2⟩
 have h9:((r.s.getD r.A 0).toNat:Int)=9:=by
  obtain q|q:=Q
  .exact aj6 q a
  exact q
 have z:eF ((r.s.getD r.A 0).toNat:Int)=some (9,0):=by rw[h9];rfl
 rw[z];dsimp only;rw[M,J rfl];obtain⟨v,A,b,d⟩:=kY I K L l (o (u.one 32<|by rw[H];rfl)) (Fg u.Cr (u.pc1 32 rfl<|by omega));refine .inl ⟨32,v,1,_,rfl,by omega,A,b,Rt.of d,rfl,by omega,.inr ⟨H,Q,rfl,.inr ?_⟩⟩;rw[(N _ 9<|by decide).1 h9];rfl
def Rc(k:Z)(b d:Int):Prop:=
 ∀L T a r l c e,aP {k with C:=L,F:=T,A:=a,K:=l,aN:=c,O:=r,j:=e} b=cV {k with C:=L,F:=T,A:=a,K:=l,aN:=c,O:=r,j:=e} d
def TG(h:x.toNat<128):dB (x.toNat:Int)=[x]:=by rw[uZ (by omega) (by omega),rT]
def TH:∀(l:U) (s:Z),bI s=false->(∀x∈l,x.toNat<128)->dW s l={s with i:=s.i++l,G:=s.G+l.length}
 |[],s,_,_=>by simp[dW]
 |x::l,s,h,a=>by
  unfold dW bV;rw[M<|by rw[h];decide,TH l {s with i:=s.i++dB x.toNat,G:=s.G+1} h λy b=>a y<|by simp[b],TG (a x<|by simp)];simp;omega
def TI:∀(l:U) (s:Z),bI s=true->(∀x∈l,x.toNat<128)->dW s l={s with F:=s.F++l}
 |[],s,_,_=>by simp[dW]
 |x::l,s,h,a=>by
  unfold dW bV;rw[J h,TI l {s with F:=s.F++dB x.toNat} h λy b=>a y<|by simp[b],TG (a x<|by simp)];simp
def KB:∀(l:U) (L:List Ev) (T:U),bM (L,T) (l.map λx=>gu [x])=(L,T++l)
 |[],L,T=>by simp[bM]
 |x::l,L,T=>by
  simp only[lf,bM];rw[J (show(gu [x]).kind=3 from rfl),KB l];simp[gu]
def Fh(p:List Ev×U)(t:U):bM p [gu t]=(p.1,p.2++t):=by simp[bM,gu]
def KC(h:eX c=true)(f:0<=c):Ch (dB c):=by
 have i:=(Ks c).1 h;have b:∀k:Int,0<=k->k<256->cont (Mk.u8 k)=(decide (128<=k)&&decide (k<192)):=by
  intro k d e;have:=iQ d e;rw[cont,kF];simp;omega
 by_cases d:c<128
 .rw[uZ f d];exact⟨by rw[b _ f<|by omega];simp;omega,λy a=>by cases a⟩
 by_cases e:c<2048
 .rw[enc2 (by omega) e];refine⟨by rw[b _ (by omega) (by omega)];simp;omega,λy a=>?_⟩;simp only[oN,qm,uD]at a;subst a;rw[b _ (by omega) (by omega)];simp;omega
 by_cases g:c<65536
 .rw[enc3 (by omega) g];refine⟨by rw[b _ (by omega) (by omega)];simp;omega,λy a=>?_⟩;simp only[oN,qm,uD]at a;obtain rfl|rfl:=a<;>(rw[b _ (by omega) (by omega)];simp;omega)
 rw[enc4<|by omega];refine⟨by rw[b _ (by omega) (by omega)];simp;omega,λy a=>?_⟩;simp only[oN,qm,uD]at a;obtain rfl|rfl|rfl:=a<;>(rw[b _ (by omega) (by omega)];simp;omega)
def KD{t:U}(h:Ch t):Pc [gu t]:=λe a _=>by
 simp only[oN,qm,uD]at a;subst a;exact⟨h,rfl⟩
def ahA(h:∀x∈l,x.toNat<128):Pc (l.map λx=>gu [x]):=λe a _=>by
 obtain⟨x,hx,rfl⟩:=mem_map.1 a;exact⟨⟨by unfold cont;have:=h x hx;simp;omega,λy b=>by cases b⟩,rfl⟩
def yh(h:0<k.t)(b:Int):aP k b=fT k b:=by rw[aP,J h]
def KE{b o:Int}(d:Rc k b o)(p:bI k=false)(i:k.G+(k.D.length+1)<=k.S)(t:∀x∈k.D,x.toNat<128)(m:k.H≠0):
 Cx k [] (λ_=>[]) (λc=>{k with i:=k.i++k.D++dB c,G:=k.G+k.D.length+1,D:=[],pc:=c,t:=0})
  (λc n=>{k with i:=k.i++k.D,G:=k.G+k.D.length,D:=[],pc:=c,t:=n}) b o:=by
 have f:=p;unfold bI at f;have q:∀L T a r l c e,gb {k with C:=L,F:=T,A:=a,K:=l,aN:=c,O:=r,j:=e} (k.D.length+1)=true:=λL T a r l c e=>by
  unfold gb;simp;exact .inr i
 have s:∀L T a r l c e,dW {k with C:=L,F:=T,A:=a,K:=l,aN:=c,O:=r,j:=e} k.D={k with C:=L,F:=T,A:=a,K:=l,aN:=c,O:=r,j:=e,i:=k.i++k.D,G:=k.G+k.D.length}:=λL T a r l c e=>TH _ _ p t;refine⟨λc j=>?_,λc n h j=>?_,λj=>?_,λc n x u v h hx w=>?_,λc n x u h hx=>?_,λc n x h hx=>?_,kO,λ_ _ _=>kO,λ_ _=>rfl,λc n=>?_⟩
 .intro L T a r l g e;rw[d];rw[cV,j];dsimp only;rw[J (q L T a r l g e),s];simp[gD,bV,bI,f,bM]
 .intro L T a r l g e;rw[d];rw[cV,j];dsimp only;rw[J (q L T a r l g e),s];simp[gD,show n≠0 by omega,bM]
 .intro L T a r l g e;rw[d];rw[cV,j]
 .intro L T a r l g e;rw[yh h];rw[fT,hx];simp[gD,show v≠0 by omega,bM]
 .intro L T a r l g e;rw[yh h];rw[fT,hx];simp[gD,bV,bI,f,bM]
 .intro L T a r l g e;rw[yh h];rw[fT,hx]
 unfold fO;simp[m]
def Ct{b f:Int}(g:Rc k b f)(h:bI k=false)(d:k.S<k.G+(k.D.length+1)):fQ k b (if eF f=none then 2 else 7):=by
 intro L T a r l c e;rw[g];unfold cV;cases i:eF f with
 |none=>simp
 |some p=>
  have:gb {k with C:=L,F:=T,A:=a,K:=l,aN:=c,O:=r,j:=e} (k.D.length+1)=false:=by
   unfold bI at h;rw[gb,bI,h];simp;exact d
  simp[this]
def lT(r:R)(i:Nat)(y:Nat)(a:y<256:=by decide):r.E i=(y:Int)↔r.s.getD i 0=UInt8.ofNat y:=by
 unfold R.E;constructor
 .intro g;rw[<-(show(r.s.getD i 0).toNat=y by omega)];simp
 intro g;rw[g];simp;omega
def fo{i:Nat}(h:r.E i≠13):nb (r.s.getD i 0)=r.E i:=by
 rw[qI λg=>h<|by rw[(lT r i 13).2<|by rw[g];rfl];rfl];rfl
def lF{i:Nat}(h:r.E i=13):nb (r.s.getD i 0)=10:=by
 rw[(lT r i 13).1 h];rfl
structure Sa(k k' :Z):Prop where
 od:k'.od=k.od
 oa:k'.oa=k.oa
 S:k'.S=k.S
 on:k'.on=k.on
 I:k'.I=k.I
 over:k'.over=k.over
 m:k'.m=k.m
 T:k'.T=k.T
 f:k'.f=k.f
def Sa.refl(k:Z):Sa k k:=⟨rfl,rfl,rfl,rfl,rfl,rfl,rfl,rfl,rfl⟩
def Sa.trans{a b c:Z}(h:Sa a b)(g:Sa b c):Sa a c:=
 ⟨g.od.trans h.od,g.oa.trans h.oa,g.S.trans h.S,g.on.trans h.on,g.I.trans h.I,g.over.trans h.over,g.m.trans h.m,g.T.trans h.T,g.f.trans h.f⟩
structure Cl(k:Z):Prop where
 t:k.t=0
 rp:aZ k.rp=false
 tk:k.i=[]
 ct:k.G=0
 hd:k.D=[]
def TJ{o:Z}(i:c≠10)(e:c≠13)(hd:Does k c [] o)(p:∀b,b≠c->fQ k b 3)(y:r.A<=r.s.length)(j:Lk k m)(t:Rt r m)(w:r.I=k.I)(x:r.whole=false)(f:fO k=false):
 (∃h,bW r c=({r with A:=r.A+1},true)/\dF r m {r with A:=r.A+1} h/\Lk o h/\h.O=false)\/(∃u,bW r c=(u,false)/\Fin r m u):=by
 unfold bW;by_cases a:r.A<r.s.length
 .rw[J a];by_cases d:r.E r.A=c
  .rw[J<|by simpa using d];obtain⟨h,v,l,n⟩:=kY (X:=[]) a j t (λg=>e<|by rw[<-d];rw[R.E,g];rfl) (by rwa[fo<|by rw[d];exact e,d]) kO;rw[aj1]at v;exact .inl ⟨h,rfl,v,l,n⟩
  rw[M<|by simpa using d];refine .inr ⟨_,rfl,f_ a j t ?_⟩;by_cases g:r.E r.A=13
  .rw[lF g];exact p 10 λq=>i q.symm
  rw[fo g];exact p _ d
 rw[M a];exact .inr ⟨_,rfl,jS (by omega) j w (by rw[f,x])⟩
def TK(g:k.H=7)(d:k.t=0)(f:aZ k.rp=false)(h:k.D≠[45,45]){b:Int}(i:b≠45):Rc k b b:=by
 intro L T a r l c e;unfold aP;simp only[g,d,f];unfold fu;simp[h,i]
def TL(f:k.H=7)(b:k.t=0)(d:aZ k.rp=false)(g:k.D≠[45,45]):Does k 45 [] {k with D:=k.D++[45]}:=by
 intro L T a r l c e;unfold aP;simp only[f,b,d];unfold fu;simp[g,bM,f]
def TM(g:k.H=7)(d:k.t=0)(f:aZ k.rp=false)(h:k.D=[45,45]){b:Int}(i:b≠62):fQ k b 3:=by
 intro L T a r l c e;unfold aP;simp only[g,d,f];unfold fu;simp[h,i]
def ahB(L:List Ev)(T:U)(e:Ev)(h:e.kind≠3):bM (L,T) [e]=((if T.length=0 then L else L++[gu T])++[e],[]):=by simp[bM,h]
def Fj(s:Z)(e:Ev)(h:e.kind≠3):aX s e={s with C:=(bM (s.C,s.F) [e]).1,F:=(bM (s.C,s.F) [e]).2}:=by
 rw[ahB _ _ _ h];unfold aX Mk.bK;split
 .rename_i g;simp[g,length_eq_zero_iff.1 g]
 rename_i g;simp[g,gu]
def ahC(f:k.H=7)(b:k.t=0)(d:aZ k.rp=false)(g:k.D=[45,45]):
 Does k 62 [⟨4,[],[],k.i,[]⟩] {k with D:=[],i:=[],G:=0,H:=if k.I.length=0 then 0 else 1}:=by
 intro L T a r l c e;unfold aP;simp only[f,b,d];unfold fu;simp only[g];simp[Mk.mS,Fj,Mk.iy,Mk.bH]
def ahD(r:R)(i:Nat):yB r i= !(eF (nb (r.s.getD i 0))).isNone:=by
 rw[yB,zu];by_cases g:r.s.getD i 0=13
 .rw[g];decide+kernel
 rw[qI g];cases h:eF ((r.s.getD i 0).toNat:Int)with
 |none=>rfl
 |some p=>
  have:0<=p.2:=by
   obtain g|g:=Ty (c:=p.1) (n:=p.2) h<;>omega
  simpa using this
def Ad(r:R)(i:Nat):mO r i=eZ {r with A:=i} (if eF (nb (r.s.getD i 0))=none then 2 else 7):=by
 rw[mO,ahD];cases h:eF (nb (r.s.getD i 0))<;>simp
def ahE:∀(f:Nat) (r:R) (k m:Z),k.H=7->k.t=0->aZ k.rp=false->(k.D=[]\/(k.D=[45]/\r.A<r.s.length/\r.E r.A≠45))->k.G+k.D.length<=k.S->k.S=r.S->
 r.I=k.I->r.whole=false->r.A<=r.s.length->r.s.length<r.A+f->Lk k m->Rt r m->
  (∃i D A,jE f r (k.i++k.D) (k.G+k.D.length)=(i,true)/\dF r m i D/\i.I=r.I/\i.P=r.P/\D.O=false/\Lk A D/\Sa k A/\Cl A/\A.H=(if k.I.length=0 then 0 else 1)/\A.bG=k.bG)
  \/(∃i,jE f r (k.i++k.D) (k.G+k.D.length)=(i,false)/\Fin r m i):=by
 intro f;induction f with
 |zero=>intro r k m _ _ _ _ _ _ _ _ _ hf;omega
 |succ f ih=>
  intro r k m u d b hh hc N L O hl hf hm hr;have P:k.D≠[45,45]:=by obtain g|g:=hh<;>simp_all
  have Q:∀x∈k.D,x.toNat<128:=by
   obtain g|g:=hh
   .rw[g];intro x hx;cases hx
   rw[g.1];intro x hx;simp only[oN,qm,uD]at hx;subst hx;decide
  have E:bI k=false:=by rw[bI,u];rfl
  have v:fO k=false:=by rw[fO,u];simp
  unfold jE;by_cases w:r.A<r.s.length
  .rw[J w];by_cases n:r.E r.A=45
   ·
    have o:k.D=[]:=by
     obtain g|g:=hh
     .exact g
     exact aj6 n g.2.2
    rw[M<|by simp[n]];have a2:r.s.getD r.A 0≠13:=by rw[(lT r r.A 45).1 n];decide
    obtain⟨m1,p,y,F⟩:=kY (X:=[]) w hm hr a2 (by rw[fo<|by rw[n];decide,n];exact TL u d b P) kO;rw[aj1]at p;have a3:({k with D:=k.D++[45]}:Z)={k with D:=[45]}:=by rw[o];rfl
    rw[a3]at y;have S:bI {k with D:=[45]}=false:=E;have G:fO {k with D:=[45]}=false:=v;by_cases B:r.A+1=r.s.length
    .rw[J (.inl B)];refine .inr ⟨_,rfl,Fin.of p ?_⟩;have:=jS (r:={r with A:=r.A+1}) B y L (by rwa[G]);unfold qQ;rwa[<-B]
    have l:r.A+1<r.s.length:=by omega
    by_cases a:r.E (r.A+1)=45
    .have T:({r with A:=r.A+1}:R).s.getD ({r with A:=r.A+1}:R).A 0≠13:=by
      rw[(lT r (r.A+1) 45).1 a];decide
     obtain⟨m2,W,H,a0⟩:=kY (r:={r with A:=r.A+1}) (X:=[]) l y (Rt.of F) T (by show Does _ (nb (r.s.getD (r.A+1) 0)) _ _;rw[fo<|by rw[a];decide,a];exact TL (k:={k with D:=[45]}) u d b (by intro g;cases g)) kO;rw[aj1]at W;have z:=p.trans W;by_cases I:r.A+2=r.s.length
     .rw[J (.inr ⟨I,a⟩)];refine .inr ⟨_,rfl,Fin.of z ?_⟩;have:=jS (r:={r with A:=r.A+2}) I H L (by rw[O];exact v.symm);unfold qQ;rwa[<-I]
     rw[M,J<|by simp[a]];have C:r.A+2<r.s.length:=by omega
     by_cases q:r.E (r.A+2)=62
     .rw[M<|by simp[q]];have K:r.s.getD (r.A+2) 0≠13:=by rw[(lT r (r.A+2) 62).1 q];decide
      obtain⟨m3,a4,a5,a6⟩:=kY (r:={r with A:=r.A+2}) (X:=[⟨4,[],[],k.i,[]⟩]) C H (Rt.of a0) K (by show Does _ (nb (r.s.getD (r.A+2) 0)) _ _;rw[fo<|by rw[q];decide,q];exact ahC (k:={k with D:=[45]++[45]}) u d b rfl) (λe he hk=>by simp only[oN,qm,uD]at he;subst he;cases hk);refine .inl ⟨_,m3,_,rfl,?_,rfl,rfl,a6,a5,⟨rfl,rfl,rfl,rfl,rfl,rfl,rfl,rfl,rfl⟩,⟨d,b,rfl,rfl,rfl⟩,rfl,rfl⟩;have:=z.trans a4;rwa[o,aj1]
     rw[J<|by simp[q]];refine .inr ⟨_,rfl,Fin.of z ?_⟩;have:fQ {k with D:=[45]++[45]} (nb (r.s.getD (r.A+2) 0)) 3:=by
      by_cases g:r.E (r.A+2)=13
      .rw[lF g];exact TM (k:={k with D:=[45]++[45]}) u d b rfl (by decide)
      rw[fo g];exact TM (k:={k with D:=[45]++[45]}) u d b rfl q
     exact f_ (r:={r with A:=r.A+2}) C H (Rt.of a0) this (by decide)
    rw[M (by intro g;obtain g|g:=g;exact B g;exact a g.2),M<|by simpa using a];have a7:nb (r.s.getD (r.A+1) 0)≠45:=by
     by_cases g:r.E (r.A+1)=13
     .rw[lF g];decide
     rwa[fo g]
    by_cases h:k.G+k.D.length=r.S
    .rw[J<|by simpa using h,Ad];refine .inr ⟨_,rfl,Fin.of p ?_⟩;exact f_ (r:={r with A:=r.A+1}) l y (Rt.of F) (Ct (TK (k:={k with D:=[45]}) u d b (by intro g;cases g) a7) S (by rw[o]at h;simp at h⊢;omega)) (by split<;>decide)
    rw[M<|by simpa using h];have e1:k.i++k.D++[45]=({k with D:=[45]}:Z).i++({k with D:=[45]}:Z).D:=by rw[o];simp
    have e2:k.G+k.D.length+1=({k with D:=[45]}:Z).G+({k with D:=[45]}:Z).D.length:=by rw[o];simp
    rw[e1,e2];rcases ih {r with A:=r.A+1} {k with D:=[45]} m1 u d b (.inr ⟨rfl,l,a⟩) (by rw[o]at h hc;simp at h hc⊢;omega) N L O (LC l) (by simp;omega) y (Rt.of F)with⟨i,D,A,q1,q2,q3,q4,q5,q6,q7,q8⟩|⟨i,q1,q2⟩
    .exact .inl ⟨i,D,A,q1,p.trans q2,q3,q4,q5,q6,⟨q7.od,q7.oa,q7.S,q7.on,q7.I,q7.over,q7.m,q7.T,q7.f⟩,q8⟩
    exact .inr ⟨i,q1,Fin.of p q2⟩
   ·
    rw[J<|by simpa using n];have a8:nb (r.s.getD r.A 0)≠45:=by
     by_cases g:r.E r.A=13
     .rw[lF g];decide
     rwa[fo g]
    have a1:=TK u d b P a8;by_cases h:k.G+k.D.length=r.S
    .rw[J<|by simpa using h,Ad];exact .inr ⟨_,rfl,f_ w hm hr (Ct a1 E<|by omega) (by split<;>decide)⟩
    rw[M<|by simpa using h];obtain⟨c,m1,j,t,g1,g2,g3,g4,g5,g6,g7,g8⟩|⟨r1,g1,g0,g2⟩:=Cs (KE a1 E (by omega) Q (by rw[u];decide)) (.inl rfl) L O w hm hr
    .have ht:dB c=t:=by
      obtain g|g:=g8
      .exact g.2
      exfalso;omega
     rw[g1];rw[J rfl];simp only[ul,aj1]at g3 g5;rcases ih {r with A:=r.A+j} {k with i:=k.i++k.D++dB c,G:=k.G+k.D.length+1,D:=[],pc:=c,t:=0} m1 u rfl b (.inl rfl) (by simp;omega) N L O g3.lt (by simp;omega) g4 g5 with⟨i,D,A,q1,q2,q3,q4,q5,q6,q7,q8⟩|⟨i,q1,q2⟩
     .refine .inl ⟨i,D,A,?_,g3.trans q2,q3,q4,q5,q6,⟨q7.od,q7.oa,q7.S,q7.on,q7.I,q7.over,q7.m,q7.T,q7.f⟩,q8⟩;rw[<-ht];simpa using q1
     refine .inr ⟨i,?_,Fin.of g3 q2⟩;rw[<-ht];simpa using q1
    rw[g1];dsimp only;rw[M];rw[aj1]at g2;exact .inr ⟨r1,rfl,by rw[<-g0]at g2;exact g2⟩
  rw[M w];exact .inr ⟨_,rfl,jS (by omega) hm L (by rw[v,O])⟩
def letter_eq(b:Int):Rf.fq b=dP b:=by unfold Rf.fq dP Mk.fq;rfl
def qJ(b:Int):dL b=eD b:=by
 rw[dL,eD,letter_eq];unfold Mk.tj;rfl
theorem Ae(b:Int):Rf.bJ b=Mk.bJ b:=rfl
def KF{b:Int}(h:Rf.fq b=true):dL b=true:=by rw[dL,h];rfl
def TN:∀(n a:Nat),iK p (r.s.drop a)=n->a+n<r.s.length->p (r.E (a+n))=false:=by
 intro n;induction n with
 |zero=>
  intro a b c;rw[oz<|by omega]at b;by_cases g:p (((r.s.getD a 0)).toNat:Int)=true
  .rw[J g]at b;cases b
  .simpa[R.E]using g
 |succ n ih=>
  intro a b c;rw[oz<|by omega]at b;split at b
  .have:=ih (a+1) (by omega) (by omega);rwa[show a+(n+1)=a+1+n by omega]
  cases b
def TP{k0:Z}(y:r.A<r.s.length)(d:Rf.fq (r.E r.A)=true)(O:k.S=r.S)(L:1<=r.S)
 (h0:Does k0 (r.E r.A) [] {k with i:=[Mk.u8 (r.E r.A)],G:=1})
 (hd:∀(t:U) (n b:Int),0<n->dL b=true->n+1<=k.S->Does {k with i:=t,G:=n} b [] {k with i:=t++[Mk.u8 b],G:=n+1})
 (hx:∀(t:U) (b:Int),dL b=true->fQ {k with i:=t,G:=k.S} b 7) (P:Lk k0 m) (Q:Rt r m) (S:r.I=k.I) (T:r.whole=false) (A:k.H≠0):
 (∃B q,cF r=({r with A:=r.A+q},seg r r.A (r.A+q),true)/\dF r m {r with A:=r.A+q} B/\Rt {r with A:=r.A+q} B/\Lk {k with i:=seg r r.A (r.A+q),G:=(q:Int)} B/\0<q/\r.A+q<r.s.length/\dL (r.E (r.A+q))=false/\(q:Int)<=r.S/\iK dL (r.s.drop r.A)=q)
 \/(∃N t,cF r=(N,t,false)/\Fin r m N):=by
 have o:r.s.getD r.A 0≠13:=by intro g;rw[R.E,g]at d;exact aj6 d
 have u:r.E r.A≠13:=λg=>o ((lT r r.A 13).1 g);obtain⟨W,i,C,D⟩:=kY (X:=[]) y P Q o (by rwa[fo u]) kO;rw[aj1]at i;have h:=oz (p:=dL) y;rw[J (show dL ((r.s.getD r.A 0).toNat:Int)=true from KF d)]at h;have hu:Mk.u8 (r.E r.A)=r.s.getD r.A 0:=by unfold R.E;exact rT _
 have e:∀j,seg r r.A (r.A+(j+1))=[Mk.u8 (r.E r.A)]++seg r (r.A+1) (r.A+1+j):=λj=>by
  rw[show r.A+(j+1)=r.A+1+j by omega,rU r (b:=r.A+1)<|by omega,iS r y,hu]
 unfold cF;rw[h];rcases TF k.S (p:=dL) (k:=k) rfl rfl hd _ {r with A:=r.A+1} W _ 1 rfl y C (Rt.of D) (by omega) (by omega)with⟨E,F,z,G,v⟩|⟨E,F,z,G,v,g5,H⟩
 .obtain⟨q,w⟩:=akb (iK dL (List.drop (r.A+1) r.s));simp only[w]at E z G v⊢;rw[M];have f:=i.trans z;have I:r.A+(q+1)=r.A+1+q:=by omega
  have x:Lk {k with i:=seg r r.A (r.A+(q+1)),G:=((q+1:Nat):Int)} F:=by
   rwa[e q,show(((q+1:Nat)):Int)=1+(q:Int) by omega]
  rw[<-I]at f v;rw[Rf.b_,yg];by_cases c:r.A+(q+1)<r.s.length
  .rw[J c];refine .inl ⟨F,q+1,rfl,f,v,x,by omega,c,?_,by omega,rfl⟩;have hh:=oz (p:=dL) (l:=r.s) (a:=r.A+(q+1)) c;by_cases K:dL (r.E (r.A+(q+1)))=true
   .exfalso;have:iK dL (List.drop (r.A+1) r.s)=q:=w;have:=TN _ _ this (by omega);rw[show r.A+1+q=r.A+(q+1) by omega]at this;rw[this]at K;cases K
   simpa using K
  rw[M c];have:=jS (r:={r with A:=r.A+(q+1)}) (by show r.A+(q+1)=r.s.length;have:=f.lt;simp at this;omega) x S (by rw[T];unfold fO;simp[A]);exact .inr ⟨_,_,rfl,Fin.of f this⟩
 have I:r.A+1+(k.S - 1).toNat=r.A+r.S.toNat:=by omega
 obtain⟨q,w⟩:=akb (iK dL (List.drop (r.A+1) r.s));simp only[w]at E;rw[w,J];refine .inr ⟨_,_,rfl,Fin.of (i.trans z) ?_⟩
 have hF:=f_ (r:={r with A:=r.A+1+(k.S - 1).toNat}) g5 G v (e:=7) (by
  have:r.s.getD (r.A+1+(k.S - 1).toNat) 0≠13:=by
   intro g;simp only[g]at H;exact aj6 H
  rw[qI this];exact hx _ _ H) (by decide)
 have e9:({r with A:=r.A+r.S.toNat}:R)={r with A:=r.A+1+(k.S - 1).toNat}:=by rw[I]
 rwa[e9]
