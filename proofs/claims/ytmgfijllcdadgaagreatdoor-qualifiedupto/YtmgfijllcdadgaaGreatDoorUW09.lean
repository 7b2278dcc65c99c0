import Derived.Test.YtmgfijllcdadgaaGreatDoorUW04
import Derived.Laws.BitsLemmas
import Derived.Test.YtmgfijllcdadgaaGreatDoorUW06
set_option linter.all false
set_option maxHeartbeats 8000000
set_option maxRecDepth 100000
namespace Go.Proofs.YtmgfijllcdadgaaGreatDoor
namespace V
open Go.RowKit
open Go.Proofs.Tryz
open Rf (uK ni)
open Mk
def Bl(b:Int)(c:0<=b)(d:b<=255)(g:Nat)(W:World)(h:W.cell? ⟨g,0,none⟩=some (.int .u8 b)):
 (convert 74 9 (.slice (some ⟨g,0,none⟩) 1 1)).run prog W=.ok (.string ⟨[Mk.u8 b].toArray⟩) W:=by
 refine tJ W _ _ _ _ _ [Mk.u8 b] underlying74 underlying5 underlying9 λj a=>?_;have:j=0:=by simpa using a
 subst this;have e:((Mk.u8 b).toNat:Int)=b:=by
  rw[Mk.u8,CZ];omega
 simpa[Addr.add,e]using h
def Zv(n:Int)(c:0<=n)(f:n<=1114111):bits .and .i64 n 63=n % 64:=by
 have h:=bits_mask .i64 63 (by decide) (λn a b=>by rw[uy];omega) 6 (by decide) n c (by omega);have e:((2:Int) ^ 6 - 1)=63:=by decide
 have d:((2:Int) ^ 6)=64:=by decide
 rwa[e,d]at h
def Zw(l:U):(ByteArray.mk l.toArray).size=l.length:=by simp[ByteArray.size]
def zf(b:UInt8)(l:U):(⟨#[b]⟩:ByteArray)++(⟨l.toArray⟩:ByteArray)=⟨(b::l).toArray⟩:=by
 apply rF;simp
def DN(n:Int)(h0:0<=n)(h1:n<=1114111)(K:Nat)(d:Nat->Int×U×Int)(h:d 0=(n,[],128))
 (t:∀j,j<=K->0<=(d j).1/\(d j).1<=1114111/\1<=(d j).2.2/\(d j).2.2<=128/\(d j).2.1.length=j) (hK:K<=3)
 (p:∀j,j<K->(d j).2.2<=(d j).1/\d (j+1)=((d j).1 / 64,Mk.u8 (128+(d j).1 % 64)::(d j).2.1,if(d j).2.2==128 then 32 else(d j).2.2 / 2)) (i:(d K).1<(d K).2.2) (c:(d K).1+(if K=0 then 0 else if K=1 then 192 else if K=2 then 224 else 240)<=255) (w:World):
 Calls prog 228 #[.int .i64 n] w λe w' =>e=.returned (.string ⟨(Mk.u8 ((d K).1+(if K=0 then 0 else if K=1 then 192 else if K=2 then 224 else 240))::(d K).2.1).toArray⟩)/\Below w.heap.size w w' :=by
 go_enter func228,ntmps228;go_wp2;go_loopw [0,3,4] (λO y P w' =>Below w.heap.size w w' /\∃j,j<=K/\O=.int .i64 (d j).1/\y=.string ⟨(d j).2.1.toArray⟩/\P=.int .i64 (d j).2.2) (λ_ y _ _=>K - (match y with|.string b=>b.size|_=>0))
 case atStart=>exact⟨Below.refl _ _,0,by omega,by rw[h],by rw[h],by rw[h]⟩
 case round=>
  obtain⟨f,j,Q,rfl,rfl,rfl⟩:=hrel;obtain⟨R,S,b2,b3,g⟩:=t j Q;have k:=f.size;by_cases z:j<K
  .obtain⟨T,A⟩:=p j z;have q:=Y A;have B:=Y g;have r:=(t (j+1)<|by omega).2.2.2.2;rw[A]at r;have C:=Y r;have D:(d j).2.1.length<=3:=by omega
   clear p t i c h A g r;generalize d j=x at *;obtain⟨m,a,l⟩:=x;simp only at *;have W:=nR T;have a1:=Zv m R S;have a2:wrap64 (128+m % 64)=128+m % 64:=by unfold wrap64;omega
   have v:(128+m % 64) % 256=128+m % 64:=by omega
   have o:=Bl (128+m % 64) (by omega) (by omega) wr.heap.size (wr.alloc (.cells #[.int .u8 (128+m % 64)] 5)) (by simp[go_sem]);have E:K - (j+1)<K - j:=by omega
   cases X:(l==128);all_goals
    go_wp2;have h5:=C.u;have h4:=B.u;simp only[cT]at h5;refine⟨⟨f.alloc k _,j+1,by omega,by rw[q.u],by rw[q.u,zf],by rw[q.u];simp[X]⟩,?_⟩;rw[zf];simp only[Zw,cT,h4];exact E
  have F:j=K:=by omega
  subst F;have N:=Y i;have D:(d j).2.1.length<=3:=by omega
  clear p t h i;generalize s:d j=x at *;obtain⟨m,a,l⟩:=x;have HST:=Y s;clear s;simp only at *;have W:decide (l<=m)=false:=by have:=N.u;simp;omega
  have hm:m<128:=by have:=N.u;omega
  have hc:j=0\/j=1\/j=2\/j=3:=by omega
  obtain rfl|rfl|rfl|rfl:=hc
  .have G:m<=255:=by simpa using c
   have H:(((a.length:Nat):Int)==1)=false:=by rw[g];rfl
   have I:(((a.length:Nat):Int)==2)=false:=by rw[g];rfl
   have L:(((a.length:Nat):Int)==3)=false:=by rw[g];rfl
   have v:m % 256=m:=by omega
   have o:=Bl m (by omega) (by omega) wr.heap.size (wr.alloc (.cells #[.int .u8 m] 5)) (by simp[go_sem]);clear c g;go_wp2;go_ret;exact⟨by rw[zf,HST.u];simp,f.alloc k _⟩
  .have G:m+192<=255:=by simpa using c
   have H:(((a.length:Nat):Int)==1)=true:=by rw[g];rfl
   have I:(((a.length:Nat):Int)==2)=false:=by rw[g];rfl
   have L:(((a.length:Nat):Int)==3)=false:=by rw[g];rfl
   have v:(m+192) % 256=m+192:=by omega
   have o:=Bl (m+192) (by omega) (by omega) wr.heap.size (wr.alloc (.cells #[.int .u8 (m+192)] 5)) (by simp[go_sem]);clear c g;go_wp2;go_ret;exact⟨by rw[zf,HST.u];simp,f.alloc k _⟩
  .have G:m+224<=255:=by simpa using c
   have H:(((a.length:Nat):Int)==1)=false:=by rw[g];rfl
   have I:(((a.length:Nat):Int)==2)=true:=by rw[g];rfl
   have L:(((a.length:Nat):Int)==3)=false:=by rw[g];rfl
   have v:(m+224) % 256=m+224:=by omega
   have o:=Bl (m+224) (by omega) (by omega) wr.heap.size (wr.alloc (.cells #[.int .u8 (m+224)] 5)) (by simp[go_sem]);clear c g;go_wp2;go_ret;exact⟨by rw[zf,HST.u];simp,f.alloc k _⟩
  have G:m+240<=255:=by simpa using c
  have H:(((a.length:Nat):Int)==1)=false:=by rw[g];rfl
  have I:(((a.length:Nat):Int)==2)=false:=by rw[g];rfl
  have L:(((a.length:Nat):Int)==3)=true:=by rw[g];rfl
  have v:(m+240) % 256=m+240:=by omega
  have o:=Bl (m+240) (by omega) (by omega) wr.heap.size (wr.alloc (.cells #[.int .u8 (m+240)] 5)) (by simp[go_sem]);clear c g;go_wp2;go_ret;exact⟨by rw[zf,HST.u];simp,f.alloc k _⟩
def Hp(n:Int)(f:0<=n)(g:n<=1114111)(w:World):
 Calls prog 228 #[.int .i64 n] w λe w' =>e=.returned (.string ⟨(uK n).toArray⟩)/\Below w.heap.size w w' :=by
 have p:n / 64 / 64=n / 4096:=by omega
 have q:n / 4096 / 64=n / 262144:=by omega
 let a:Nat->Int×U×Int:=λj=>match j with
  |0=>(n,[],128)
  |1=>(n / 64,[Mk.u8 (128+n % 64)],32)
  |2=>(n / 4096,[Mk.u8 (128+n / 64 % 64),Mk.u8 (128+n % 64)],16)
  |_=>(n / 262144,[Mk.u8 (128+n / 4096 % 64),Mk.u8 (128+n / 64 % 64),Mk.u8 (128+n % 64)],8)
 have b:∀j,j<=3->0<=(a j).1/\(a j).1<=1114111/\1<=(a j).2.2/\(a j).2.2<=128/\(a j).2.1.length=j:=by
  intro j c;obtain rfl|rfl|rfl|rfl:j=0\/j=1\/j=2\/j=3:=by omega
  .exact⟨f,g,by show(1:Int)<=128;decide,by show(128:Int)<=128;decide,rfl⟩
  .exact⟨by show 0<=n / 64;omega,by show n / 64<=_;omega,by show(1:Int)<=32;decide,by show(32:Int)<=128;decide,rfl⟩
  .exact⟨by show 0<=n / 4096;omega,by show n / 4096<=_;omega,by show(1:Int)<=16;decide,by show(16:Int)<=128;decide,rfl⟩
  exact⟨by show 0<=n / 262144;omega,by show n / 262144<=_;omega,by show(1:Int)<=8;decide,by show(8:Int)<=128;decide,rfl⟩
 have i:a 1=((a 0).1 / 64,Mk.u8 (128+(a 0).1 % 64)::(a 0).2.1,if(a 0).2.2==128 then 32 else(a 0).2.2 / 2):=rfl;have l:a 2=((a 1).1 / 64,Mk.u8 (128+(a 1).1 % 64)::(a 1).2.1,if(a 1).2.2==128 then 32 else(a 1).2.2 / 2):=by
  show _=(n / 64 / 64,_,_);rw[p];rfl
 have r:a 3=((a 2).1 / 64,Mk.u8 (128+(a 2).1 % 64)::(a 2).2.1,if(a 2).2.2==128 then 32 else(a 2).2.2 / 2):=by
  show _=(n / 4096 / 64,_,_);rw[q];rfl
 unfold uK;by_cases k:n<128
 .rw[J k];have h:=DN n f g 0 a rfl (λj c=>b j<|by omega) (by decide) (λj c=>by omega) (by show n<128;exact k) (by show n+0<=255;omega) w;go_call h as e w' ⟨rfl,d⟩;exact⟨by show Ending.returned (.string ⟨([Mk.u8 (n+0)]:U).toArray⟩)=_;rw[ajV];rfl,d⟩
 rw[M k];by_cases m:n<2048
 .rw[J m];have h:=DN n f g 1 a rfl (λj c=>b j<|by omega) (by decide) (λj c=>by obtain rfl:j=0:=(by omega);exact⟨by show 128<=n;omega,i⟩) (by show n / 64<32;omega) (by show n / 64+192<=255;omega) w;go_call h as e w' ⟨rfl,d⟩;exact⟨rfl,d⟩
 rw[M m];by_cases o:n<65536
 .rw[J o]
  have h:=DN n f g 2 a rfl (λj c=>b j<|by omega) (by decide) (λj c=>by
   obtain rfl|rfl:j=0\/j=1:=by omega
   .exact⟨by show 128<=n;omega,i⟩
   exact⟨by show 32<=n / 64;omega,l⟩) (by show n / 4096<16;omega) (by show n / 4096+224<=255;omega) w
  go_call h as e w' ⟨rfl,d⟩;exact⟨rfl,d⟩
 rw[M o]
 have h:=DN n f g 3 a rfl (λj c=>b j<|by omega) (by decide) (λj c=>by
  obtain rfl|rfl|rfl:j=0\/j=1\/j=2:=by omega
  .exact⟨by show 128<=n;omega,i⟩
  .exact⟨by show 32<=n / 64;omega,l⟩
  exact⟨by show 16<=n / 4096;omega,r⟩) (by show n / 262144<8;omega) (by show n / 262144+240<=255;omega) w
 go_call h as e w' ⟨rfl,d⟩;exact⟨rfl,d⟩
def sj(j:Nat):Int:=if j<10 then 48+j else 87+j
def su(j:Nat):Int:=if j<10 then 48+j else 55+j
def Zx(c a:Int)(e:a=10\/a=16)(j:Nat)(f:(j:Int)<a)(h:sj j=c\/su j=c):ni c a=j:=by
 unfold ni;unfold sj su at h;obtain rfl|rfl:=e
 .have:j<10:=by omega
  simp only[this,bY]at h;have d:c=48+j:=by omega
  subst d;simp;omega
 by_cases b:j<10
 .simp only[b,bY]at h;have d:c=48+j:=by omega
  subst d;simp;omega
 simp only[b,cE]at h;obtain h|h:=h
 .subst h;simp;repeat' split
  all_goals omega
 subst h;simp;repeat' split
 all_goals omega
def Zy(c a:Int)(g:a=10\/a=16)(h:∀j:Nat,(j:Int)<a->sj j≠c/\su j≠c):ni c a= -1:=by
 unfold ni;split
 .rename_i d;simp at d;have b:=h (c - 48).toNat;unfold sj su at b;have i:(c - 48).toNat<10:=by omega
  simp only[i,bY]at b;obtain rfl|rfl:=g
  .have:=(b<|by omega).1;omega
  have:=(b<|by omega).1;omega
 split
 .rename_i d;simp at d;obtain⟨rfl,e,f⟩:=d;have b:=(h (c - 87).toNat<|by omega).1;rw[sj,M]at b;omega
 split
 .rename_i d;simp at d;obtain⟨rfl,e,f⟩:=d;have b:=(h (c - 55).toNat<|by omega).2;rw[su,M]at b;omega
 rfl
def NQ(k:Nat)(h:k<16):k=0\/k=1\/k=2\/k=3\/k=4\/k=5\/k=6\/k=7\/k=8\/k=9\/k=10\/k=11\/k=12\/k=13\/k=14\/k=15:=by omega
def Zz(k:Nat)(h:k<16):((((⟨#[48,49,50,51,52,53,54,55,56,57,97,98,99,100,101,102]⟩:ByteArray)[k]'h).toNat:Nat):Int)=sj k:=by
 obtain rfl|rfl|rfl|rfl|rfl|rfl|rfl|rfl|rfl|rfl|rfl|rfl|rfl|rfl|rfl|rfl:=NQ k h<;>rfl
def ZA(k:Nat)(h:k<16):((((⟨#[48,49,50,51,52,53,54,55,56,57,65,66,67,68,69,70]⟩:ByteArray)[k]'h).toNat:Nat):Int)=su k:=by
 obtain rfl|rfl|rfl|rfl|rfl|rfl|rfl|rfl|rfl|rfl|rfl|rfl|rfl|rfl|rfl|rfl:=NQ k h<;>rfl
def ZB(c:Int)(z:0<=c)(A:c<=255)(a:Int)(n:a=10\/a=16)(w:World):
 Calls prog 227 #[.int .u8 c,.int .i64 a] w λe w' =>e=.returned (.int .i64 (ni c a))/\w' =w:=by
 obtain⟨g,b⟩:=aj8 (ni c a);rw[<-b];have l:Hid (∀j:Nat,(j:Int)<a->(sj j=c\/su j=c)->g=j):=λj m h=>by rw[b];exact Zx c a n j m h
 have o:Hid ((∀j:Nat,(j:Int)<a->sj j≠c/\su j≠c)->g= -1):=λh=>by rw[b];exact Zy c a n h
 have r:a<=16:=by omega
 have p:0<=a:=by omega
 clear b n;go_enter func227,ntmps227;go_wp2;go_loop [5] (λx=>∃k:Nat,(k:Int)<=a/\x=.int .i64 k/\Hid (∀j:Nat,j<k->sj j≠c/\su j≠c)) λi=>16 - (intOf i).toNat
 case atStart=>exact⟨0,p,rfl,λj m=>by omega⟩
 case round=>
  obtain⟨k,B,rfl,s⟩:=hrel;by_cases d:(k:Int)<a
  .have e0:=nR d;have f:k<16:=by omega
   have C:=Zz k f;have D:=ZA k f;cases t:(sj k==c)
   .cases v:(su k==c)
    .have y:Hid (∀j:Nat,j<k+1->sj j≠c/\su j≠c):=λj m=>by
      by_cases q:j<k
      .exact s.u j q
      obtain rfl:j=k:=by omega
      exact⟨by simpa using t,by simpa using v⟩
     go_wp2;go_round
     case rel=>exact⟨k+1,by omega,by go_num,y.u⟩
     case measure=>simp[intOf];omega
    have hfin:=Y (l.u k d (.inr<|by simpa using v));go_wp2;go_ret;exact⟨by rw[hfin.u];rfl,rfl⟩
   have hfin:=Y (l.u k d (.inl<|by simpa using t));go_wp2;go_ret;exact⟨by rw[hfin.u];rfl,rfl⟩
  have e0:=pV d;have hfin:=Y (o.u λj m=>s.u j<|by omega);go_wp2;go_ret;exact⟨by rw[hfin.u];rfl,rfl⟩
end V
namespace Q
open List
open Rf
open Mk hiding Rf oJ rest
variable {k m:Z}{b:Int}{r:R}{aC:List aI}{a:List (List aI)}{aJ:List (U×U)}{c:List Nat}
def yt(c:k.t=0)(a:aZ k.rp=false)(f:12<=k.H)(g:k.H<=19)(d:k.H≠17)(b:Int):aP k b=dV k b:=by
 unfold aP;rw[M,a];have e:∀n:Int,n<12\/n=17\/n=20\/n=21->(k.H==n)=false:=λn h=>by rw[d_];omega
 simp[e 0,e 1,e 2,e 7,e 11,e 17,Mk.bU,e 3,e 4,e 5,e 6,e 8,e 9,e 10,e 20,e 21]
def has_eq(k:Z)(a:List aI)(h:k.f=a)(b:U):gM k b=kQ a b:=by unfold gM kQ;rw[h]
def Ai(d:k.H=14)(a:k.t=0)(c:aZ k.rp=false)(b:Int):aP k b=fU k b:=by
 rw[yt a c (by omega) (by omega) (by omega)];unfold dV;simp[d]
def KT(d:k.H=15)(a:k.t=0)(c:aZ k.rp=false)(b:Int):aP k b=fI k b:=by
 rw[yt a c (by omega) (by omega) (by omega)];unfold dV;simp[d]
def KU(d:k.H=13)(a:k.t=0)(c:aZ k.rp=false)(b:Int):aP k b=gV k b:=by
 rw[yt a c (by omega) (by omega) (by omega)];unfold dV;simp[d]
def Uf(f:k.H=14)(i:k.t=0)(j:aZ k.rp=false)(m:eD b=true)(n:k.G+1<=k.S)(h:k.G+2<=k.S\/gM k (k.i++[Mk.u8 b])=false):
 Does k b [] {k with i:=k.i++[Mk.u8 b],G:=k.G+1}:=by
 intro L T a r l c e;rw[Ai (k:={k with C:=L,F:=T,A:=a,K:=l,aN:=c,O:=r,j:=e}) f i j];have d:bI {k with C:=L,F:=T,A:=a,K:=l,aN:=c,O:=r,j:=e}=false:=by unfold bI;simp[f]
 unfold fU;rw[J m];unfold mh;rw[J (Ag d 1 n)];have o:bV {k with C:=L,F:=T,A:=a,K:=l,aN:=c,O:=r,j:=e} b={k with C:=L,F:=T,A:=a,K:=l,aN:=c,O:=r,j:=e,i:=k.i++[Mk.u8 b],G:=k.G+1}:=by
  unfold bV;rw[d,uZ (wJ m).1 (wJ m).2];rfl
 rw[o,M ?_]
 .simp[bM]
 obtain g|g:=h
 .rw[Ag (by unfold bI;simp[f]) 1 (by show k.G+1+1<=k.S;omega)];simp
 have:gM {k with C:=L,F:=T,A:=a,K:=l,aN:=c,O:=r,j:=e,i:=k.i++[Mk.u8 b],G:=k.G+1} (k.i++[Mk.u8 b])=false:=g;rw[this];simp
def Ug(f:k.H=14)(i:k.t=0)(j:aZ k.rp=false)(m:eD b=true)(h:k.S<k.G+1\/(k.G+1=k.S/\gM k (k.i++[Mk.u8 b])=true)):fQ k b 7:=by
 intro L T a r l c e;rw[Ai (k:={k with C:=L,F:=T,A:=a,K:=l,aN:=c,O:=r,j:=e}) f i j];have d:bI {k with C:=L,F:=T,A:=a,K:=l,aN:=c,O:=r,j:=e}=false:=by unfold bI;simp[f]
 unfold fU;rw[J m];unfold mh;obtain g|⟨p,n⟩:=h
 .rw[Cv d 1 g];rfl
 rw[J (Ag d 1<|by show k.G+1<=k.S;omega)];have o:bV {k with C:=L,F:=T,A:=a,K:=l,aN:=c,O:=r,j:=e} b={k with C:=L,F:=T,A:=a,K:=l,aN:=c,O:=r,j:=e,i:=k.i++[Mk.u8 b],G:=k.G+1}:=by
  unfold bV;rw[d,uZ (wJ m).1 (wJ m).2];rfl
 rw[o,Cv (by unfold bI;simp[f]) 1 (by show k.S<k.G+1+1;omega)];have:gM {k with C:=L,F:=T,A:=a,K:=l,aN:=c,O:=r,j:=e,i:=k.i++[Mk.u8 b],G:=k.G+1} (k.i++[Mk.u8 b])=true:=n;rw[this];rfl
def Uh(m:k.H=14)(d:k.t=0)(f:aZ k.rp=false)(n:eD b=false):
 ((b≠61/\Mk.bJ b=false)->fQ k b 3)/\((b=61\/Mk.bJ b=true)->gM k k.i=true->fQ k b 6)/\
 (gM k k.i=false->Mk.bJ b=true->Does k b [] {k with i:=[],G:=0,attr:=k.i,H:=15})/\
 (gM k k.i=false->b=61->Does k b [] {k with i:=[],G:=0,attr:=k.i,H:=16}):=by
 have o:∀L T a r l c e,gM {k with C:=L,F:=T,A:=a,K:=l,aN:=c,O:=r,j:=e} k.i=gM k k.i:=λ_ _ _ _ _ _ _=>rfl;refine⟨λh L T a r l c e=>?_,λj i L T a r l c e=>?_,λj i L T a r l c e=>?_,λj i L T a r l c e=>?_⟩
 .rw[Ai (k:={k with C:=L,F:=T,A:=a,K:=l,aN:=c,O:=r,j:=e}) m d f];unfold fU;rw[M<|by simp[n],J<|by simp[h]]
 .rw[Ai (k:={k with C:=L,F:=T,A:=a,K:=l,aN:=c,O:=r,j:=e}) m d f];unfold fU;rw[M<|by simp[n],M (by obtain g|g:=j<;>simp[g]),J<|by rw[<-i];exact o L T a r l c e]
 .rw[Ai (k:={k with C:=L,F:=T,A:=a,K:=l,aN:=c,O:=r,j:=e}) m d f];unfold fU;rw[M<|by simp[n],M<|by simp[i],M<|by show ¬(gM {k with C:=L,F:=T,A:=a,K:=l,aN:=c,O:=r,j:=e} k.i=true);rw[o,j];decide];simp[fI,i,bH,bM]
 rw[Ai (k:={k with C:=L,F:=T,A:=a,K:=l,aN:=c,O:=r,j:=e}) m d f];unfold fU;rw[M<|by simp[n],M<|by simp[i],M<|by show ¬(gM {k with C:=L,F:=T,A:=a,K:=l,aN:=c,O:=r,j:=e} k.i=true);rw[o,j];decide];subst i;simp[fI,Mk.bJ,bH,bM]
def ah6(g:k.H=15)(d:k.t=0)(f:aZ k.rp=false):(∀b,Mk.bJ b=true->Does k b [] k)/\Does k 61 [] {k with H:=16}/\(∀b,Mk.bJ b=false->b≠61->fQ k b 3):=by
 refine⟨λb h L T a r l c e=>?_,λL T a r l c e=>?_,λb i j L T a r l c e=>?_⟩
 .rw[KT (k:={k with C:=L,F:=T,A:=a,K:=l,aN:=c,O:=r,j:=e}) g d f];simp[fI,h,bM,g]
 .rw[KT (k:={k with C:=L,F:=T,A:=a,K:=l,aN:=c,O:=r,j:=e}) g d f];simp[fI,Mk.bJ,bM]
 rw[KT (k:={k with C:=L,F:=T,A:=a,K:=l,aN:=c,O:=r,j:=e}) g d f];simp[fI,i,j]
def ah7(g:k.H=16)(d:k.t=0)(f:aZ k.rp=false)(h:Mk.bJ b=true):Does k b [] k:=by
 intro L T a r l c e;rw[KS (k:={k with C:=L,F:=T,A:=a,K:=l,aN:=c,O:=r,j:=e}) g d f];simp[Mk.gW,h,bM]
def ah8(g:k.H=13)(d:Cl k)(f:dP b=true)(h:(k.f.length:Int)<k.oa):Does k b [] {k with H:=14,i:=[Mk.u8 b],G:=1}:=by
 intro L T a r l c e;rw[KU (k:={k with C:=L,F:=T,A:=a,K:=l,aN:=c,O:=r,j:=e}) g d.t d.rp];unfold gV;rw[M<|by simp[f],M<|by show ¬(k.oa<=(k.f.length:Int));omega];unfold bV bI;simp[uZ (Fp f).1 (Fp f).2,d.tk,d.ct,bM]
def ah9{j:Z}(c:Nat)(o:c<256)(f:c≠13)(hd:Does k (c:Int) [] j)(p:r.A<r.s.length->r.E r.A≠(c:Int)->fQ k (nb (r.s.getD r.A 0)) 3)(v:r.A<=r.s.length)(g:Lk k m)(l:Rt r m)(q:r.I=k.I)(t:r.whole=false)(b:fO k=false):
 (∃d,bW r (c:Int)=({r with A:=r.A+1},true)/\dF r m {r with A:=r.A+1} d/\Lk j d/\d.O=false)\/(∃n,bW r (c:Int)=(n,false)/\Fin r m n):=by
 unfold bW;by_cases a:r.A<r.s.length
 .rw[J a];by_cases e:r.E r.A=(c:Int)
  .rw[J<|by simpa using e];obtain⟨d,u,h,i⟩:=nM c a g l o f e hd;exact .inl ⟨d,rfl,u,h,i⟩
  rw[M<|by simpa using e];exact .inr ⟨_,rfl,f_ a g l (p a e)⟩
 rw[M a];exact .inr ⟨_,rfl,jS (by omega) g q (by rw[b,t])⟩
def pO{i:Nat}{c:Int}(a:c≠10)(h:r.E i≠c):nb (r.s.getD i 0)≠c:=by
 by_cases g:r.E i=13
 .rw[lF g];exact λq=>a q.symm
 rwa[fo g]
def An(r:R)(k m:Z)(x:R×U×Bool):Prop:=
 (∃a c d b,x=({r with A:=a},c,true)/\r.A<a/\dF r m {r with A:=a} d/\Rt {r with A:=a} d/\Lk b d/\Sv k b/\Cl b/\b.H=16/\b.f=k.f/\b.attr=c/\a<r.s.length/\Rf.bJ (r.E a)=false/\kQ k.f c=false)\/(∃e,x=(e,[],false)/\Fin r m e)
def oJ(r:R)(a:List aI)(b:U):R×U×Bool:=
 if r.E r.A !=61&& !Rf.bJ (r.E r.A)then(eZ r 3,[],false)
 else if kQ a b then(eZ r 6,[],false)
 else
  let m:=bW (aV r) 61
  if !m.2 then(m.1,[],false)
  else
   let e:=b_ (aV m.1)
   if e.2 then(e.1,[],false)else(e.1,b,true)
theorem KV(r:R)(a:List aI):fM r a=if decide (r.S<=(iK dL (r.s.drop r.A):Int))&&kQ a ((r.s.drop r.A).take r.S.toNat)then(eZ {r with A:=r.A+r.S.toNat - 1} 7,[],false)
 else if !(cF r).2.2 then((cF r).1,[],false)else oJ (cF r).1 a (cF r).2.1:=rfl
def ah_{a:List aI}{G:U}(hs:k.H=14)(j:k.t=0)(l:aZ k.rp=false)(a2:k.D=[])(H:k.i=G)(I:k.f=a)(ho:r.I=k.I)(hw:r.whole=false)
 (i:r.A<r.s.length) (a6:dL (r.E r.A)=false) (hm:Lk k m) (hr:Rt r m):An r k m (oJ r a G):=by
 unfold oJ;have K:eD (nb (r.s.getD r.A 0))=false:=by rwa[<-qJ,Fq]
 have L:Mk.bJ (nb (r.s.getD r.A 0))=Rf.bJ (r.E r.A):=wK;have p:nb (r.s.getD r.A 0)=61↔r.E r.A=61:=by
  by_cases g:r.E r.A=13
  .rw[lF g,g];decide
  rw[fo g]
 obtain⟨E1,E2,E3,E4⟩:=Uh hs j l K;have N:gM k k.i=kQ a G:=by rw[has_eq k a I,H]
 by_cases hc:r.E r.A=61\/Rf.bJ (r.E r.A)=true
 .rw[M<|by obtain g|g:=hc<;>simp[g]];by_cases hx:kQ a G=true
  .rw[J hx];exact .inr ⟨_,rfl,f_ i hm hr (E2 (by rwa[p,L]) (by rwa[N]))⟩
  rw[M hx];have O:gM k k.i=false:=by rw[N];simpa using hx
  have d0:∀b,b=32\/b=9\/b=10->Does k b [] {k with i:=[],G:=0,attr:=k.i,H:=15}:=by
   intro b hb;have a3:eD b=false:=by obtain rfl|rfl|rfl:=hb<;>decide
   exact(Uh hs j l a3).2.2.1 O (sW.2<|by omega)
  obtain⟨F1,F2,F3⟩:=ah6 (k:={k with i:=[],G:=0,attr:=k.i,H:=15}) rfl j l;obtain⟨m1,t,P,a4,z⟩:=Ac d0 (λb hb=>F1 b (sW.2<|by omega)) _ r m rfl (LC i) hm hr;have u:fO {k with i:=[],G:=0,attr:=k.i,H:=15}=false:=lU (by intro g;cases g);have A:(∃B,bW (aV r) 61=({aV r with A:=(aV r).A+1},true)/\dF (aV r) m1 {aV r with A:=(aV r).A+1} B/\Lk {k with i:=[],G:=0,attr:=k.i,H:=16} B/\B.O=false)\/(∃r', bW (aV r) 61=(r', false)/\Fin (aV r) m1 r'):=by
   obtain⟨g1,g2,g3⟩|⟨g1,g3⟩:=a4
   .have Q:aV r=r:=by
     have:iK Rf.bJ (r.s.drop r.A)=0:=by have:r.A+iK Rf.bJ (r.s.drop r.A)=r.A:=g1;omega
     unfold aV;rw[this];rfl
    rw[Q]at z⊢;have w:Rf.bJ (r.E r.A)=false:=z i;have f:r.E r.A=61:=by obtain g|g:=hc;exact g;rw[g]at w;cases w
    left;obtain⟨B,n,C,D⟩:=nM 61 i g3 (by rwa[Q]at P) (by decide) (by decide) f (by have:=E4 O (p.2 f);rwa[p.2 f]at this);refine⟨B,?_,n,C,D⟩;unfold bW;rw[J i,J<|by simpa using f]
   exact ah9 (r:=aV r) 61 (by decide) (by decide) F2 (λh q=>F3 _ (by rw[<-Ae,wK];exact z h) (pO (by decide) q)) (by have:=t.lt;exact this) g3 P ho hw u
  obtain⟨B,e2,n,C,D⟩|⟨r', e2,hF⟩:=A
  .rw[e2];dsimp only;rw[M];have dS:∀b,b=32\/b=9\/b=10->Does {k with i:=[],G:=0,attr:=k.i,H:=16} b [] {k with i:=[],G:=0,attr:=k.i,H:=16}:=λb hb=>ah7 (k:={k with i:=[],G:=0,attr:=k.i,H:=16}) rfl j l (sW.2<|by omega);obtain⟨d,o⟩:=akb (({aV r with A:=(aV r).A+1}:R));have E:d={r with A:=d.A}:=by rw[<-o];rfl
   rw[o]at n⊢;have a5:d.A<=d.s.length:=by rw[<-o];have:=n.lt;rwa[<-o]at this
   obtain⟨m3,S,a7,T,W⟩:=Ac dS dS _ d B rfl a5 C (Rt.of D);have X:Lk {k with i:=[],G:=0,attr:=k.i,H:=16} m3:=by
    obtain⟨_,_,g⟩|⟨_,g⟩:=T
    .exact g
    exact g
   have a0:∀x,({d with A:=x}:R)={r with A:=x}:=λx=>by rw[E]
   have c:aV d={r with A:=(aV d).A}:=a0 _;have F:(aV d).s=r.s:=by rw[c]
   have ha:=(t.trans n).trans S;have a1:r.A<(aV d).A:=by
    have q1:=t.le;have q3:=S.le;have q2:d.A=(aV r).A+1:=by rw[<-o]
    omega
   unfold b_;by_cases y:(aV d).A<(aV d).s.length
   .rw[J y];refine .inl ⟨(aV d).A,G,m3,_,by rw[<-c];rfl,a1,by rwa[<-c],by rwa[<-c],X,⟨rfl,rfl,rfl,rfl,rfl,rfl,rfl,rfl,rfl,rfl⟩,⟨j,l,rfl,rfl,a2⟩,rfl,rfl,H,by rwa[<-F],?_,by rw[I];simpa using hx⟩;have:=W (by have e:d.s=r.s:=(by rw[E]);rwa[e,<-F]);have e:d.E (aV d).A=r.E (aV d).A:=by unfold R.E;rw[show d.s=r.s by rw[E]]
    rwa[<-e]
   rw[M y];refine .inr ⟨_,rfl,Fin.of ha (jS (by have:=ha.lt;rw[<-F]at this;omega) X (by rwa[c]) (by rwa[lU (by intro g;cases g),c]))⟩
  rw[e2];exact .inr ⟨r', rfl,Fin.of t hF⟩
 have v:r.E r.A≠61/\Rf.bJ (r.E r.A)=false:=⟨λg=>hc (.inl g),by simpa using λg=>hc (.inr g)⟩;rw[J<|by simp[v.1,v.2]];exact .inr ⟨_,rfl,f_ i hm hr (E1 ⟨λg=>v.1 (p.1 g),by rw[L];exact v.2⟩)⟩
def An.of{r d:R}{k k1 m l:Z}{x:R×U×Bool}(e:dF r m d l)(b:d={r with A:=d.A})(h:An d k1 l x)(o:Sv k k1)(c:k1.f=k.f):An r k m x:=by
 obtain⟨a,v,p,q,f,n,s,t,u,w,y,z,A,g,i,j,B⟩|⟨C,f,n⟩:=h
 .have:=e.le;refine .inl ⟨a,v,p,q,by rw[f,b],by omega,?_,by rwa[b]at t,u,o.trans w,y,z,by rw[A,c],g,by rwa[b]at i,by rwa[b]at j,by rwa[<-c]⟩;have D:=e.trans s;rwa[b]at D
 exact .inr ⟨C,f,Fin.of e n⟩
def run_in{p:Int->Bool}:∀(j a:Nat),j<iK p (r.s.drop a)->p (r.E (a+j))=true:=by
 intro j;induction j with
 |zero=>
  intro a h;have b:a<r.s.length:=by
   by_cases g:a<r.s.length
   .exact g
   rw[run_end<|by omega]at h;omega
  rw[oz b]at h;split at h
  .rename_i g;exact g
  .omega
 |succ j ih=>
  intro a h;have b:a<r.s.length:=by
   by_cases g:a<r.s.length
   .exact g
   rw[run_end<|by omega]at h;omega
  rw[oz b]at h;split at h
  .have:=ih (a+1) (by omega);rwa[show a+(j+1)=a+1+j by omega]
  omega
def Ui{q:Nat}(a:iK dL (r.s.drop r.A)=q):cF r=if r.S<(q:Int)then(eZ {r with A:=r.A+r.S.toNat} 7,[],false)else((b_ {r with A:=r.A+q}).1,seg r r.A (r.A+q), !(b_ {r with A:=r.A+q}).2):=by
 unfold cF;rw[a];dsimp only;rw[yg]
def aia(hs:k.H=13)(f:Cl k)(B:k.f=aC)(a8:k.S=r.S)(h2:2<=r.S)(W:(k.f.length:Int)<k.oa)(ho:r.I=k.I)(hw:r.whole=false)
 (x:r.A<r.s.length) (h:Rf.fq (r.E r.A)=true) (hm:Lk k m) (hr:Rt r m):An r k m (fM r aC):=by
 have I:r.s.getD r.A 0≠13:=by intro g;unfold R.E at h;rw[g]at h;exact aj6 h
 have K:r.E r.A≠13:=λg=>I ((lT r r.A 13).1 g);obtain⟨m1,C,a0,a1⟩:=kY (X:=[]) x hm hr I (by rw[fo K];exact ah8 hs f (by rwa[<-letter_eq]) W) kO;rw[aj1]at C;have d:=oz (p:=dL) x;rw[J (show dL ((r.s.getD r.A 0).toNat:Int)=true from KF h)]at d;obtain⟨q,hq⟩:=akb (iK dL (List.drop (r.A+1) r.s));rw[hq]at d;have hu:Mk.u8 (r.E r.A)=r.s.getD r.A 0:=by unfold R.E;exact rT _
 have e:∀j,seg r r.A (r.A+(j+1))=[Mk.u8 (r.E r.A)]++seg r (r.A+1) (r.A+1+j):=λj=>by
  rw[show r.A+(j+1)=r.A+1+j by omega,rU r (b:=r.A+1)<|by omega,iS r x,hu]
 have a2:r.A+1+q<=r.s.length:=by
  have:q<=(r.s.drop (r.A+1)).length:=by rw[<-hq];unfold iK;exact List.Sublist.length_le (takeWhile_sublist _)
  simp at this;omega
 have a7:k.S=({k with H:=14}:Z).S:=rfl;have o:∀D,dF r m {r with A:=r.A+(q+1)} D->Rt {r with A:=r.A+(q+1)} D->Lk {k with H:=14,i:=seg r r.A (r.A+(q+1)),G:=((q+1:Nat):Int)} D->((q+1:Nat):Int)<=r.S->(r.S=((q+1:Nat):Int)->kQ aC (seg r r.A (r.A+(q+1)))=false)->An r k m (fM r aC):=by
  intro D L a3 O a9 i;rw[KV,d];have E:(decide (r.S<=((q+1:Nat):Int))&&kQ aC ((r.s.drop r.A).take r.S.toNat))=false:=by
   by_cases g:r.S<=((q+1:Nat):Int)
   .have g' :r.S=((q+1:Nat):Int):=by omega
    rw[yg,show r.S.toNat=q+1 by omega,i g', kx]
   rw[pV g,iL]
  rw[E,M,Ui d,M (c:=r.S<((q+1:Nat):Int))<|by omega];unfold b_;dsimp only;by_cases l:r.A+(q+1)<r.s.length
  .rw[J l];dsimp only;rw[M];exact An.of L rfl (ah_ (k:={k with H:=14,i:=seg r r.A (r.A+(q+1)),G:=((q+1:Nat):Int)}) rfl f.t f.rp f.hd rfl B ho hw l (TN (p:=dL) (r:=r) (q+1) r.A d l) O a3) ⟨rfl,rfl,rfl,rfl,rfl,rfl,rfl,rfl,rfl,rfl⟩ rfl
  rw[M l];dsimp only;rw[J];exact .inr ⟨_,rfl,Fin.of L (jS (r:={r with A:=r.A+(q+1)}) (by show r.A+(q+1)=r.s.length;omega) O ho (by rwa[lU<|by intro g;cases g]))⟩
 rcases TF (r.S - 1) (p:=dL) (k:={k with H:=14}) rfl rfl (λt n b hn hb hc=>Uf (k:={k with H:=14,i:=t,G:=n}) rfl f.t f.rp (by rwa[<-qJ]) (by show n+1<=k.S;omega) (.inl<|by show n+2<=k.S;omega)) _ {r with A:=r.A+1} m1 _ 1 hq x a0 (Rt.of a1) (by omega) (by omega)with⟨g1,D,g2,g3,g4⟩|⟨g1,D,g2,g3,g4,g5,g6⟩
 .have ee:r.A+(q+1)=r.A+1+q:=by omega
  refine o D ?_ ?_ ?_ (by omega) (λg=>by omega)
  .rw[ee];exact C.trans g2
  .rw[ee];exact g4
  rw[e q,show(((q+1:Nat)):Int)=1+(q:Int) by omega];exact g3
 ·
  obtain⟨N,hN⟩:∃N:Nat,r.S=(N:Int)+2:=⟨(r.S - 2).toNat,by omega⟩;have eN:(r.S - 1 - 1).toNat=N:=by omega
  rw[eN]at g2 g3 g4 g5 g6;have hb:dL (r.E (r.A+1+N))=true:=g6;have y:r.s.getD (r.A+1+N) 0≠13:=by intro g;simp only[g]at g6;exact aj6 g6
  have u:r.E (r.A+1+N)≠13:=λg=>y ((lT r (r.A+1+N) 13).1 g);have z:=C.trans g2;have v:[Mk.u8 (r.E r.A)]++seg r (r.A+1) (r.A+1+N)++[Mk.u8 (r.E (r.A+1+N))]=seg r r.A (r.A+(N+1+1)):=by
   rw[e (N+1),rU r (a:=r.A+1) (b:=r.A+1+N) (c:=r.A+1+(N+1)) (by omega) (by omega),show r.A+1+(N+1)=r.A+1+N+1 by omega,iS r g5];unfold R.E;rw[rT,rT];simp
  have w:(r.s.drop r.A).take r.S.toNat=seg r r.A (r.A+(N+1+1)):=by rw[yg,show r.S.toNat=N+1+1 by omega]
  by_cases i:kQ aC (seg r r.A (r.A+(N+1+1)))=true
  .rw[KV,d,w,i,J<|by simp;omega];refine .inr ⟨_,rfl,Fin.of z ?_⟩
   have hF:=f_ (r:={r with A:=r.A+1+N}) g5 g3 g4 (e:=7) (by
    show fQ _ (nb (r.s.getD (r.A+1+N) 0)) 7
    rw[fo u]
    exact Ug (k:={k with H:=14,i:=[Mk.u8 (r.E r.A)]++seg r (r.A+1) (r.A+1+N),G:=r.S - 1}) rfl f.t f.rp (by rwa[<-qJ]) (.inr ⟨by show r.S - 1+1=k.S;omega,by refine(has_eq _ aC B _).trans ?_;show kQ aC ([Mk.u8 (r.E r.A)]++seg r (r.A+1) (r.A+1+N)++[Mk.u8 (r.E (r.A+1+N))])=true;rwa[v]⟩)) (by decide)
   have e9:r.A+r.S.toNat - 1=r.A+1+N:=by omega
   rwa[e9]
  have F:kQ aC (seg r r.A (r.A+(N+1+1)))=false:=by simpa using i
  obtain⟨m3,P,G,Q⟩:=kY (r:={r with A:=r.A+1+N}) (X:=[]) g5 g3 g4 y (by
   show Does _ (nb (r.s.getD (r.A+1+N) 0)) _ _
   rw[fo u]
   exact Uf (k:={k with H:=14,i:=[Mk.u8 (r.E r.A)]++seg r (r.A+1) (r.A+1+N),G:=r.S - 1}) rfl f.t f.rp (by rwa[<-qJ]) (by show r.S - 1+1<=k.S;omega) (.inr<|by refine(has_eq _ aC B _).trans ?_;show kQ aC ([Mk.u8 (r.E r.A)]++seg r (r.A+1) (r.A+1+N)++[Mk.u8 (r.E (r.A+1+N))])=false;rwa[v])) kO
  rw[aj1]at P;have A:=z.trans P;simp only[v]at G;have a4:r.A+1+N+1=r.A+(N+1+1):=by omega
  simp only[a4]at A;rw[show r.S - 1+1=((N+1+1:Nat):Int) by omega]at G;by_cases H:q+1=N+1+1
  .exact o m3 (by rwa[H]) (Rt.of Q) (by rwa[H]) (by omega) (λ_=>by rwa[H])
  have a5:N+1+1<q+1:=by omega
  have E:(decide (r.S<=((q+1:Nat):Int))&&kQ aC ((r.s.drop r.A).take r.S.toNat))=false:=by rw[w,F,kx]
  rw[KV,d,E,M,Ui d,J (c:=r.S<((q+1:Nat):Int))<|by omega];dsimp only;rw[J];refine .inr ⟨_,rfl,Fin.of A ?_⟩;have S:r.A+(N+1+1)<r.s.length:=by omega
  have T:dL (r.E (r.A+(N+1+1)))=true:=run_in (p:=dL) (r:=r) (N+1+1) r.A (by rwa[d]);have a6:r.E (r.A+(N+1+1))≠13:=by intro g;rw[g]at T;exact aj6 T
  have hF:=f_ (r:={r with A:=r.A+(N+1+1)}) S G (Rt.of Q) (e:=7) (by
   show fQ _ (nb (r.s.getD (r.A+(N+1+1)) 0)) 7
   rw[fo a6]
   exact Ug (k:={k with H:=14,i:=seg r r.A (r.A+(N+1+1)),G:=((N+1+1:Nat):Int)}) rfl f.t f.rp (by rwa[<-qJ]) (.inl<|by show k.S<((N+1+1:Nat):Int)+1;omega)) (by decide)
  rwa[show r.A+r.S.toNat=r.A+(N+1+1) by omega]
structure Sw(k k' :Z):Prop where
 od:k'.od=k.od
 oa:k'.oa=k.oa
 S:k'.S=k.S
 on:k'.on=k.on
 I:k'.I=k.I
 over:k'.over=k.over
 m:k'.m=k.m
 T:k'.T=k.T
 br:k'.bG=k.bG
def Sw.refl(k:Z):Sw k k:=⟨rfl,rfl,rfl,rfl,rfl,rfl,rfl,rfl,rfl⟩
def Sw.trans{a b c:Z}(h:Sw a b)(g:Sw b c):Sw a c:=
 ⟨g.od.trans h.od,g.oa.trans h.oa,g.S.trans h.S,g.on.trans h.on,g.I.trans h.I,g.over.trans h.over,g.m.trans h.m,g.T.trans h.T,g.br.trans h.br⟩
def Sv.sw{a b:Z}(h:Sv a b):Sw a b:=⟨h.od,h.oa,h.S,h.on,h.I,h.over,h.m,h.T,h.br⟩
def gk(k:Z)(a:U):Z:={k with i:=[],G:=0,B:=a}
def Gx(k:Z)(d:U)(b:Int):Prop:=
 ∀L T a r l c e,aP {k with C:=L,F:=T,A:=a,K:=l,aN:=c,O:=r,j:=e} b=dR {gk k d with C:=L,F:=T,A:=a,K:=l,aN:=c,O:=r,j:=e} b
def aib{g:U}(h:k.H=12)(d:k.t=0)(f:aZ k.rp=false)(i:k.i=g)(j:eD b=false):Gx k g b:=by
 intro L T a r l c e;rw[yt (k:={k with C:=L,F:=T,A:=a,K:=l,aN:=c,O:=r,j:=e}) d f (by show 12<=k.H;omega) (by show k.H<=19;omega) (by show k.H≠17;omega),dV,J<|by simp[h],Mk.iP,M<|by simp[j]];subst i;rfl
def Uj{a:U}(b:k.i=[])(c:k.G=0)(d:k.B=a):gk k a=k:=by
 unfold gk;rw[<-b,<-c,<-d]
def aic{g:U}(h:k.H=18)(d:k.t=0)(f:aZ k.rp=false)(i:k.i=[])(j:k.G=0)(m:k.B=g)(b:Int):Gx k g b:=by
 intro L T a r l c e;rw[yt (k:={k with C:=L,F:=T,A:=a,K:=l,aN:=c,O:=r,j:=e}) d f (by show 12<=k.H;omega) (by show k.H<=19;omega) (by show k.H≠17;omega),Uj i j m];unfold dV;simp[h]
def KW{f:U}(g:k.H=13)(d:Cl k)(h:k.B=f)(i:dP b=false):Gx k f b:=by
 intro L T a r l c e;rw[KU (k:={k with C:=L,F:=T,A:=a,K:=l,aN:=c,O:=r,j:=e}) g d.t d.rp,Uj d.tk d.ct h,gV,J<|by simp[i]]
def Uk{d:U}(h:Gx k d b)(f:Mk.bJ b=true):Does k b [] {gk k d with H:=13}:=by
 intro L T a r l c e;rw[h];unfold dR;simp[f,bM]
def Ul{d:U}(h:Gx k d b)(f:Mk.bJ b=false)(g:b≠47)(i:b≠62):fQ k b 3:=by
 intro L T a r l c e;rw[h];unfold dR;simp[f,g,i]
def aid(f:k.H=13)(d:Cl k)(g:dP b=true)(h:k.oa<=(k.f.length:Int)):fQ k b 7:=by
 intro L T a r l c e;rw[KU (k:={k with C:=L,F:=T,A:=a,K:=l,aN:=c,O:=r,j:=e}) f d.t d.rp,gV,M<|by simp[g],J<|by show k.oa<=(k.f.length:Int);exact h]
def Raw(l:List aI):Prop:=(l.map aI.B).Nodup/\∀a∈l,a.space=[]
def Raw.add{l:List aI}(h:Raw l){e v:U}(f:kQ l e=false):Raw (l++[⟨e,[],v⟩]):=by
 constructor
 .rw[mP,nodup_append];refine⟨h.1,by simp,?_⟩;intro a c b i;simp only[lf,qO,oN,qm,uD]at i;subst i;rintro rfl;obtain⟨x,hx,d⟩:=mem_map.1 c;rw[kQ,ajT]at f;exact f x hx (by simpa using d)
 intro a c;obtain g|g:=mem_append.1 c
 .exact h.2 a g
 simp only[oN,qm,uD]at g;subst g;rfl
def Aj(r:R)(k m:Z)(e:U)(x:R×List aI×Bool):Prop:=
 (∃a l c b,x=({r with A:=a},l,true)/\r.A<=a/\dF r m {r with A:=a} c/\Rt {r with A:=a} c/\Lk b c/\Sw k b/\b.t=0/\aZ b.rp=false/\b.D=[]/\b.f=l/\a<r.s.length/\(r.E a=47\/r.E a=62)/\Gx b e (r.E a)/\b.H≠0/\Raw l/\(l.length:Int)<=r.oa)\/(∃d,x=(d,[],false)/\Fin r m d)
def Aj.of{r c:R}{k k1 m l:Z}{n:U}{x:R×List aI×Bool}(d:dF r m c l)(b:c={r with A:=c.A})(h:Aj c k1 l n x)(p:Sw k k1):Aj r k m n x:=by
 obtain⟨a,v,q,s,e,o,t,u,w,y,z,A,B,f,g,i,j⟩|⟨C,e,o⟩:=h
 .have:=d.le;refine .inl ⟨a,v,q,s,by rw[e,b],by omega,?_,by rwa[b]at u,w,p.trans y,z,A,B,f,by rwa[b]at g,by rwa[b]at i,by rwa[b]at j⟩;have D:=d.trans t;rwa[b]at D
 exact .inr ⟨C,e,Fin.of d o⟩
def Um(f b:Nat)(r:R)(a:List aI):R×List aI×Bool:=
 if r.A<r.s.length then
  if r.E r.A==47||r.E r.A==62 then(r,a,true)
  else if decide (r.A=b)|| !Rf.fq (r.E r.A)then(eZ r 3,[],false)
  else if(a.length:Int)==r.oa then(eZ r 7,[],false)
  else if !(fM r a).2.2 then((fM r a).1,[],false)
  else if !(iA (fM r a).1).2.2 then((iA (fM r a).1).1,[],false)
  else kT f (iA (fM r a).1).1 (a++[⟨(fM r a).2.1,[],(iA (fM r a).1).2.1⟩])
 else({r with stop:=1},[],false)
theorem at_eq(f:Nat)(r:R)(a:List aI):kT (f+1) r a=Um f r.A (aV r) a:=rfl
def aie(n:U):∀(f:Nat) (r:R) (k m:Z) (aC:List aI),((k.H=12/\k.i=n/\(r.A<r.s.length->dL (r.E r.A)=false))\/(k.H=18/\k.B=n/\k.i=[]/\k.G=0))->k.t=0->aZ k.rp=false->k.D=[]->k.f=aC->(aC.length:Int)<=r.oa->k.oa=r.oa->k.S=r.S->2<=r.S->r.I=k.I->r.whole=false->r.A<=r.s.length->r.s.length<r.A+f->Lk k m->Rt r m->Raw aC->
 Aj r k m n (kT f r aC):=by
 intro f;induction f with
 |zero=>intro r k m aC _ _ _ _ _ _ _ _ _ _ _ _ hf;omega
 |succ f ih=>
  intro r k m aC hs y z L o aa N O h2 ho hw hl hf hm hr A;have F:k.H≠0:=by obtain g|g:=hs<;>(rw[g.1];decide)
  have hG:∀b,(k.H=12->eD b=false)->Gx k n b:=by
   intro b X;obtain g|g:=hs
   .exact aib g.1 y z g.2.1 (X g.1)
   exact aic g.1 y z g.2.2.1 g.2.2.2 g.2.1 b
  have l:Cl {gk k n with H:=13}:=⟨y,z,rfl,rfl,L⟩;have d0:∀b,b=32\/b=9\/b=10->Does k b [] {gk k n with H:=13}:=λb X=>Uk (hG b λ_=>by obtain rfl|rfl|rfl:=X<;>decide) (sW.2<|by omega);have d1:∀b,b=32\/b=9\/b=10->Does {gk k n with H:=13} b [] {gk k n with H:=13}:=by
   intro b X;have:=Uk (KW (k:={gk k n with H:=13}) rfl l rfl (b:=b) (by obtain rfl|rfl|rfl:=X<;>decide)) (sW.2<|by omega);exact this
  obtain⟨m1,D,w,P,a0⟩:=Ac d0 d1 _ r m rfl hl hm hr;rw[at_eq];have a1:aV r={r with A:=(aV r).A}:=rfl;have a3:(aV r).s=r.s:=rfl;have a4:∀i,(aV r).E i=r.E i:=λ_=>rfl;have h:(aV r).oa=r.oa:=rfl;have j:(aV r).S=r.S:=rfl;have B:(aV r).I=r.I:=rfl;have C:(aV r).whole=r.whole:=rfl;have a5:(aV r).A<(aV r).s.length->Rf.bJ ((aV r).E (aV r).A)=false:=a0;clear a0;refine Aj.of D a1 ?_ (Sw.refl k);have a9:=D.le;have G:(aV r).A<=(aV r).s.length:=D.lt;have ab:(aV r).s.length<(aV r).A+(f+1):=by rw[a3];omega
  have Q:k.H=12->(aV r).A=r.A->(aV r).A<(aV r).s.length->dL ((aV r).E (aV r).A)=false:=by
   intro H g2 p;obtain g|g:=hs
   .rw[a4,g2];exact g.2.2 (by rwa[a3,g2]at p)
   omega
  clear D a1 a4;generalize aV r=d at *;unfold Um;by_cases e:d.A<d.s.length
  .rw[J e];have t:=a5 e;have a8:∀c:Int,c≠10->(nb (d.s.getD d.A 0)=c↔d.E d.A=c)\/d.E d.A=13:=by
    intro c _;by_cases g:d.E d.A=13
    .exact .inr g
    left;rw[fo g]
   have S:d.E d.A≠13:=by intro g;rw[g]at t;exact aj6 t
   have T:nb (d.s.getD d.A 0)=d.E d.A:=fo S;by_cases W:d.E d.A=47\/d.E d.A=62
   .rw[J<|by obtain g|g:=W<;>simp[g]];obtain⟨H,g2,p⟩|⟨H,p⟩:=P
    .refine .inl ⟨d.A,aC,m1,k,rfl,a_ _,dF.refl G,w,p,Sw.refl k,y,z,L,o,e,W,hG _ (λ_=>by obtain g|g:=W<;>(rw[g];decide)),F,A,by rwa[h]⟩
    refine .inl ⟨d.A,aC,m1,{gk k n with H:=13},rfl,a_ _,dF.refl G,w,p,⟨rfl,rfl,rfl,rfl,rfl,rfl,rfl,rfl,rfl⟩,y,z,L,o,e,W,KW rfl l rfl (by obtain g|g:=W<;>(rw[g];decide)),(by intro g;cases g),A,by rwa[h]⟩
   have x:d.E d.A≠47/\d.E d.A≠62:=⟨λg=>W (.inl g),λg=>W (.inr g)⟩;rw[M<|by simp[x.1,x.2]];obtain⟨H,g2,p⟩|⟨H,p⟩:=P
   .rw[J<|by simp[H]];refine .inr ⟨_,rfl,f_ e p w ?_⟩;rw[T];exact Ul (hG _ λg=>by rw[<-qJ];exact Q g H e) t x.1 x.2
   by_cases u:Rf.fq (d.E d.A)=true
   .rw[M<|by simp[u];omega];by_cases q:(aC.length:Int)=d.oa
    .rw[J<|by simpa using q];refine .inr ⟨_,rfl,f_ e p w ?_⟩;rw[T];exact aid (k:={gk k n with H:=13}) rfl l (by rwa[<-letter_eq]) (by show k.oa<=(k.f.length:Int);rw[o,N,<-h];omega)
    rw[M<|by simpa using q];obtain⟨a,an,m2,k2,q1,q2,q3,q4,q5,q6,q7,q8,q9,Cu,q11,KX,KY⟩|⟨r', q1,q2⟩:=aia (k:={gk k n with H:=13}) (aC:=aC) rfl l o (by show k.S=d.S;rw[j,O]) (by rwa[j]) (by show(k.f.length:Int)<k.oa;rw[o,N,<-h];omega) (by rwa[B]) (by rwa[C]) e u p w
    .simp only[q1];rw[M];have I:k2.S=d.S:=by rw[q6.S];show k.S=d.S;rw[j,O]
     obtain⟨a2,v,m3,k3,p1,p2,p3,p4,p5,p6,p7,p8,p9⟩|⟨r', p1,p2⟩:=ah5 (r:={d with A:=a}) q8 q7 (by rw[I,j];omega) I (by rwa[q6.I,B]) (by rwa[C]) q11 KX q5 q4
     .simp only[p1];rw[M];have E:Sw k k3:=(⟨rfl,rfl,rfl,rfl,rfl,rfl,rfl,rfl,rfl⟩:Sw k {gk k n with H:=13}).trans (q6.sw.trans p6.sw);have a6:k3.f=aC++[⟨an,[],v⟩]:=by rw[p9,q9,Cu];show k.f++_=_;rw[o]
      have K:dF d m1 {d with A:=a2} m3:=q3.trans p3;have a7:k3.B=n:=by rw[p6.B,q6.B];rfl
      refine Aj.of K rfl (ih {d with A:=a2} k3 m3 (aC++[⟨an,[],v⟩]) (.inr ⟨p8,a7,p7.tk,p7.ct⟩) p7.t p7.rp p7.hd a6 (by show((aC++[_]).length:Int)<=d.oa;rw[h]at q⊢;simp;omega) (by rw[E.oa,N];exact h.symm) (by rw[E.S,O];exact j.symm) (by show 2<=d.S;rwa[j]) (by rw[E.I];show d.I=k.I;rwa[B]) (by show d.whole=false;rwa[C]) K.lt (by show d.s.length<a2+f;simp at p2;omega) p5 (Rt.of p4) (A.add<|by have:=KY;rwa[show({gk k n with H:=13}:Z).f=aC from o]at this)) E
     simp only[p1];rw[J];exact .inr ⟨r', rfl,Fin.of q3 p2⟩
    simp only[q1];rw[J];exact .inr ⟨r', rfl,q2⟩
   rw[J<|by simp[u]];refine .inr ⟨_,rfl,f_ e p w ?_⟩;rw[T];exact Ul (KW (k:={gk k n with H:=13}) rfl l rfl (by rw[<-letter_eq];simpa using u)) t x.1 x.2
  rw[M e];obtain⟨H,g2,p⟩|⟨H,p⟩:=P
  .exact .inr ⟨_,rfl,jS (by omega) p (by rwa[B]) (by rw[C,hw,lU F])⟩
  exact .inr ⟨_,rfl,jS (by omega) p (by rwa[B]) (by rw[C,hw,lU<|by intro g;cases g])⟩
def KZ(x:UInt8)(l:U):kS (x::l)=(if x=58 then 1 else 0)+kS l:=by
 unfold kS;rw[filter_cons];by_cases h:x=58
 .simp[h];omega
 simp[h]
def Ak:∀(l:U),kS l=0↔Mk.cW l=false
 |[]=>by simp[kS,Mk.cW,aj4]
 |x::l=>by
  have ih:=Ak l;rw[KZ,<-vA];rw[<-vA]at ih;unfold Rf.cW at ih⊢;rw[yD];by_cases h:x=58
  .simp[h]
  simp only[h,cE,jV,ih];simp[h]
def Fu(x:UInt8)(l:U):aj4 (x::l)=if x=58 then 0 else aj4 l+1:=by
 unfold aj4;rw[AA];by_cases h:x=58<;>simp[h]
def K_(x:UInt8)(l:U):Mk.cW (x::l)=(decide (x=58)||Mk.cW l):=by
 rw[<-vA,<-vA];rw[Rf.cW,yD];congr 1
def Uo:∀(l:U) (i a:Nat),Mk.cW l=false->pZ l i a=a
 |[],i,a,_=>rfl
 |x::l,i,a,h=>by
  rw[K_]at h;simp only[uq,decide_eq_false_iff_not]at h;unfold pZ;rw[M<|by simpa using h.1];exact Uo l _ _ h.2
def last_one:∀(l:U) (i a:Nat),kS l=1->pZ l i a=i+aj4 l
 |[],i,a,h=>by simp[kS]at h
 |x::l,i,a,h=>by
  rw[KZ]at h;unfold pZ;rw[Fu];by_cases hx:x=58
  .rw[J<|by simpa using hx,J hx];rw[J hx]at h;exact Uo l _ _ ((Ak l).1<|by omega)
  rw[M<|by simpa using hx,M hx];rw[M hx]at h;rw[last_one l _ _<|by omega];omega
def Up:∀(l:U),Mk.cW l=true->kS l=1+kS (l.drop (aj4 l+1))
 |[],h=>by simp[Mk.cW,aj4]at h
 |x::l,h=>by
  rw[KZ,Fu];by_cases hx:x=58
  .simp[hx]
  rw[K_]at h;simp only[hx,decide_false,ku]at h;rw[M hx,M hx,ajS,<-Up l h];omega
def parts_eq(n:U):(iz n).2.2=fC n/\(fC n=true->(iz n).1=dH n/\(iz n).2.1=gI n):=by
 unfold iz fC;by_cases d:Mk.cW n=false
 .rw[J ((Ak n).2 d)];simp[d,dH,gI]
 have c:Mk.cW n=true:=by simpa using d
 have e:kS n≠0:=λg=>d ((Ak n).1 g);have f:=Up n c;have h:aj4 n<n.length:=by unfold Mk.cW at c;simpa using c
 rw[M e];simp only[c,gz];have m:dH n=n.take (aj4 n):=by rw[dH,J c]
 have o:gI n=n.drop (aj4 n+1):=by rw[gI,J c]
 rw[m,o];by_cases k:kS n=1
 .have a:pZ n 0 0=aj4 n:=by rw[last_one n 0 0 k];omega
  have b:Mk.cW (n.drop (aj4 n+1))=false:=(Ak _).1 (by omega);rw[a,k,b];have p:(n.take (aj4 n) !=[])= !decide (aj4 n=0):=by
   cases n with
   |nil=>simp at h
   |cons x l=>
    cases r:aj4 (x::l)with
    |zero=>simp
    |succ q=>simp
  have s:(n.drop (aj4 n+1) !=[])= !decide (aj4 n+1=n.length):=by
   by_cases g:aj4 n+1=n.length
   .rw[g];simp
   have:n.drop (aj4 n+1)≠[]:=by intro q;have:=congrArg List.length q;simp at this;omega
   simp[this,g]
  have t:(((n.drop (aj4 n+1)).headD 0).toNat:Int)=((n.getD (aj4 n+1) 0).toNat:Int):=by
   by_cases g:aj4 n+1<n.length
   .rw[gB g];simp[List.getD,g]
   rw[oQ<|by omega,List.getD,CM<|by omega];rfl
  rw[p,s,t,letter_eq];by_cases i:aj4 n=0
  .simp[i]
  by_cases j:aj4 n+1=n.length
  .simp[j]
  cases u:dP ((n.getD (aj4 n+1) 0).toNat:Int)
  .simp[i,j]
  simp[i,j]
 have b:Mk.cW (n.drop (aj4 n+1))=true:=by
  cases g:Mk.cW (n.drop (aj4 n+1))
  .have:=(Ak _).2 g;omega
  rfl
 rw[b,nR (show 1<kS n by omega)];simp
def Fv(p v:U):uL p v=oV p v:=by
 have f:∀(A B S D:U),S≠D->B≠[]->A≠[]->B≠A->
  (if p=A then false else if p=B then decide (v=S)else if p=[]then decide (v≠S)&&decide (v≠D)else decide (v≠[])&&decide (v≠S)&&decide (v≠D))=(if(p==A||v==D)=true then false else if(p==B||v==S)=true then(p==B&&v==S)else(p==[]||v !=[])):=by
  intro A B S D k o q r;by_cases e:p=A
  .simp[e]
  by_cases a:v=D
  .have:v≠S:=λg=>k (g.symm.trans a);by_cases c:p=B
   .rw[M e,J c,J<|by simp[a],pV this]
   by_cases b:p=[]
   .rw[M e,M c,J b,J<|by simp[a]];simp[a]
   rw[M e,M c,M b,J<|by simp[a]];simp[a]
  have l:(p==A||v==D)=false:=by rw[uq,d_,d_];exact⟨e,a⟩
  rw[l,M e];by_cases c:p=B
  .have h:=aka c;rw[J c,h];by_cases d:v=S<;>simp[d]
  have h:=aj7 c;rw[M c,h];by_cases d:v=S
  .have i:=aka d;rw[i];by_cases b:p=[]<;>simp[b,d]
  have i:=aj7 d;rw[i];by_cases b:p=[]
  .rw[J b];simp[b,d,a]
  rw[M b];have m:=aj7 b;rw[m];by_cases j:v=[]
  .simp[j]
  have n:(v !=[])=true:=by simpa using j
  rw[n];simp[j,d,a]
 exact f fR qP Mk.lu Mk.tK (by decide) (by decide) (by decide) (by decide)
def Uq(n:U)(h:Mk.cW n=true):(dH n).length=aj4 n/\n=dH n++58::gI n:=by
 have a:aj4 n<n.length:=by unfold Mk.cW at h;simpa using h
 have c:dH n=n.take (aj4 n):=by unfold dH;rw[J h]
 have d:gI n=n.drop (aj4 n+1):=by rw[gI,J h]
 rw[c,d];refine⟨by simp;omega,?_⟩;have f:n[aj4 n]=58:=by
  have b:∀(l:U) (g:aj4 l<l.length),l[aj4 l]=58:=by
   intro l;induction l with
   |nil=>intro g;simp at g
   |cons x l ih=>
    intro g;have e:=Fu x l;by_cases hx:x=58
    .rw[J hx]at e;simp only[e];simpa using hx
    rw[M hx]at e;simp only[e];rw[e]at g;simp at g;simpa using ih g
  exact b n a
 have:=ol (aj4 n) n;rw[gB a,f]at this;exact this.symm
def decl_eq{n:U}(i:fC n=true):(k_ n).2=jJ n/\(jJ n=true->(k_ n).1=kP n):=by
 unfold k_ jJ kP;have o:nU=fR:=rfl;rw[o];by_cases j:n=fR
 .simp[j]
 rw[M j];have p:=aj7 j;rw[p];have q:Mk.cW fR=false:=by decide
 by_cases f:Mk.cW n=true
 .obtain⟨t,c⟩:=Uq n f;have k:gI n≠[]:=by
   rw[fC,f]at i;simp at i;exact i.2.1
  by_cases d:dH n=fR
  .have a:6<n.length/\n.take 6=fR++[58]:=by
    rw[d]at c;constructor
    .have:=congrArg List.length c;simp[fR]at this;have:0<(gI n).length:=length_pos_iff.2 k;omega
    rw[c];rfl
   rw[J a];have e:=aka d;rw[e];refine⟨rfl,λ_=>?_⟩;rw[d]at c;have:n.drop 6=(fR++58::gI n).drop 6:=by rw[<-c]
   rw[this];rfl
  have a:¬(6<n.length/\n.take 6=fR++[58]):=by
   rintro⟨r,l⟩;apply d;have h:n=fR++58::n.drop 6:=by
    have:=ol 6 n;rw[l]at this;rw[<-this];simp[fR]
   rw[dH,J f];have m:aj4 n=5:=by rw[h];simp[Fu,fR]
   rw[m];conv=>lhs;rw[h]
   rfl
  rw[M a];have e:=aj7 d;rw[e];exact⟨rfl,λg=>by cases g⟩
 have b:Mk.cW n=false:=by simpa using f
 have s:dH n=[]:=by rw[dH,b];rfl
 have e:(dH n==fR)=false:=by rw[s];decide
 rw[e];have a:¬(6<n.length/\n.take 6=fR++[58]):=by
  rintro⟨r,l⟩;have h:n=fR++58::n.drop 6:=by
   have:=ol 6 n;rw[l]at this;rw[<-this];simp[fR]
  rw[h]at b;simp[K_,fR]at b
 rw[M a];exact⟨rfl,λg=>by cases g⟩
def aif{a b:U}(p:fC a=true)(r:fC b=true)(s:jJ a=true)(t:jJ b=true)(h:kP a=kP b):a=b:=by
 have c:∀n,fC n=true->jJ n=true->(n=fR/\kP n=[])\/(n=fR++58::kP n/\kP n≠[]):=by
  intro n f hd;unfold jJ at hd;by_cases g:n=fR
  .left;exact⟨g,by unfold kP;simp[g]⟩
  right;have m:=aj7 g;rw[m,ku]at hd;have i:dH n=fR:=by simpa using hd
  have o:Mk.cW n=true:=by
   cases q:Mk.cW n
   .rw[dH,q]at i;simp[fR]at i
   rfl
  obtain⟨u,v⟩:=Uq n o;have j:kP n=gI n:=by unfold kP;rw[m];rfl
  rw[j];refine⟨by rwa[<-i],?_⟩;rw[fC,o]at f;simp at f;exact f.2.1
 obtain⟨k,d⟩|⟨k,d⟩:=c a p s<;>obtain⟨l,e⟩|⟨l,e⟩:=c b r t
 .rw[k,l]
 .rw[<-h,d]at e;exact aj6 rfl e
 .rw[h,e]at d;exact aj6 rfl d
 rw[k,l,h]
def dA(b:List aI):List (U×U):=b.filterMap λa=>if jJ a.B then some (kP a.B,a.val)else none
def Al(a:aI)(l:List aI):dA (a::l)=if jJ a.B then(kP a.B,a.val)::dA l else dA l:=by
 unfold dA;rw[fF];split<;>rename_i h<;>split at h<;>simp_all
def vF(D:List (U×U))(p v:U):U:=D.foldl (λa x=>if x.1==p then x.2 else a) v
def aii(D E:List (U×U))(p v:U):vF (D++E) p v=vF E p (vF D p v):=by unfold vF;rw[foldl_append]
def CB{D:List (U×U)}{p:U}(h:∀x∈D,x.1≠p)(v:U):vF D p v=v:=by
 induction D generalizing v with
 |nil=>rfl
 |cons x D ih=>
  rw[vF,foldl_cons,M<|by simpa using h x (by simp)];exact ih (λy a=>h y<|by simp[a]) v
theorem Fw(x:U×U)(D:List (U×U))(p v:U):vF (x::D) p v=vF D p (if x.1==p then x.2 else v):=rfl
theorem aij(l:List (U×U))(p:U):lW l p=vF l p []:=rfl
def La:∀(D:List (U×U)) (p v:U),D.any (λx=>x.1==p)=true->(p,vF D p v)∈D
 |[],p,v,h=>by simp at h
 |x::D,p,v,h=>by
  rw[Fw];by_cases g:D.any (λx=>x.1==p)=true
  .exact iU _ (La D p _ g)
  have hx:x.1=p:=by rw[yD,CW]at h;obtain q|q:=h;simpa using q;exact aj6 q g
  have a:∀y∈D,y.1≠p:=by
   intro y b q;apply g;rw[any_eq_true];exact⟨y,b,by simpa using q⟩
  rw[CB a,J<|by simpa using hx,<-hx];simp
structure Tg(t:List aI):Prop where
 Lb:∀a∈t,fC a.B=true
 nod:(t.map aI.B).Nodup
 good:∀x∈dA t,oV x.1 x.2=true
def Ur(p:U):∀(t:List aI),(∀a∈t,fC a.B=true)->(t.map aI.B).Nodup->(pR t p).2=(dA t).any (λx=>x.1==p)/\((pR t p).2=true->∀v,vF (dA t) p v=(pR t p).1)
 |[],_,_=>by simp[pR,dA]
 |a::l,m,i=>by
  have e:=m a (by simp);have f:∀b∈l,fC b.B=true:=λb h=>m b (by simp[h]);rw[lf,nodup_cons]at i;have ih:=Ur p l f i.2;obtain⟨n,o⟩:=decl_eq e;unfold pR;rw[Al,n];cases hd:jJ a.B with
  |false=>simp only[iL];exact ih
  |true=>
   rw[o hd];by_cases d:kP a.B=p
   .have j:∀x∈dA l,x.1≠p:=by
     intro x hx q;unfold dA at hx;obtain⟨b,h,c⟩:=mem_filterMap.1 hx;split at c
     .rename_i k;simp only[Option.some.injEq]at c;subst c;have:a.B=b.B:=aif e (f b h) hd k (by rw[d];exact q.symm);exact i.1 (mem_map.2 ⟨b,h,this.symm⟩)
     cases c
    rw[J<|by simp[d]];refine⟨by simp[d],λ_ v=>?_⟩;rw[J rfl,Fw,CB j,J<|by simpa using d]
   rw[M<|by simp[d]];refine⟨by rw[ih.1];simp[d],λg v=>?_⟩;rw[J rfl,Fw,M<|by simpa using d];exact ih.2 g v
def Fx(p:U):∀(a:List (List aI)) (v:U) (b:Bool),(∀t∈a,Tg t)->tV p a v b=(vF (a.flatMap dA) p v,b||(a.flatMap dA).any λx=>x.1==p)
 |[],v,b,_=>by simp[tV,vF]
 |t::l,v,b,h=>by
  have d:=h t (by simp);have c:=Ur p t d.Lb d.nod;have ih:=λv b=>Fx p l v b λx hx=>h x (by simp[hx]);unfold tV;rw[mQ,aii,any_append];by_cases g:(pR t p).2=true
  .rw[J g,ih,c.2 g,<-c.1,g];simp
  have e:(pR t p).2=false:=by simpa using g
  rw[M g,ih,<-c.1,e,ku,CB (D:=dA t)];rw[e]at c;intro x hx q;have:=c.1.symm;rw[ajT]at this;exact this x hx (by simpa using q)
structure Nm(tags:List (List aI))(aJ:List (U×U))(cnt:List Nat):Prop where
 m:aJ=(qP,Mk.lu)::tags.flatMap dA
 T:cnt=tags.map λt=>(dA t).length
 tg:∀t∈tags,Tg t
def Nm.val(h:Nm a aJ c)(p:U):lW aJ p=(rC a p).1:=by
 rw[aij,h.m,Fw];unfold rC;have e:si=qP:=rfl;rw[e];by_cases b:p=qP
 .rw[J b,J<|by simp[b]];show _=Mk.lu;by_cases g:(a.flatMap dA).any (λx=>x.1==p)=true
  .have f:=La _ p Mk.lu g;obtain⟨t,i,hx⟩:=mem_flatMap.1 f;have:=(h.tg t i).good _ hx;rw[<-Fv]at this;unfold uL at this;have j:nU=fR:=rfl;have d:¬p=fR:=by rw[b];decide
   rw[j,e,M d,J b]at this;have k:Rf.lu=Mk.lu:=rfl;rw[k]at this;simpa using this
  rw[CB];intro x hx q;apply g;rw[any_eq_true];exact⟨x,hx,by simpa using q⟩
 rw[M b,Fx p a _ _ h.tg,M<|by simpa using λq=>b q.symm]
def Nm.Lc{d:List Nat}(h:Nm a aJ d)(p:U):pX aJ p=(rC a p).2:=by
 rw[pX,h.val];unfold rC;have f:si=qP:=rfl;rw[f];by_cases c:p=qP
 .rw[J c,c];decide
 rw[M c,Fx p a _ _ h.tg];by_cases e:p=[]
 .simp[e]
 have i:(p==[])=false:=by rwa[d_]
 rw[i,pV e,ku,ku];by_cases g:(a.flatMap dA).any (λx=>x.1==p)=true
 .have j:=La _ p [] g;obtain⟨t,k,hx⟩:=mem_flatMap.1 j;have b:=(h.tg t k).good _ hx;have:vF (a.flatMap dA) p []≠[]:=by
   intro q;rw[q,<-Fv]at b;unfold uL at b;split at b
   .cases b
   split at b
   .rename_i l;exact c l
   simp[e]at b
  rw[g];simpa using this
 have m:(a.flatMap dA).any (λx=>x.1==p)=false:=by simpa using g
 rw[m,CB]
 .simp
 intro x hx q;apply g;rw[any_eq_true];exact⟨x,hx,by simpa using q⟩
def Nm.push{b:List Nat}(h:Nm a aJ b){t:List aI}(c:Tg t):Nm (a++[t]) (aJ++dA t) (b++[(dA t).length]):=by
 refine⟨by rw[h.m];simp,by rw[h.T];simp,λx hx=>?_⟩;obtain g|g:=mem_append.1 hx
 .exact h.tg x g
 simp only[oN,qm,uD]at g;subst g;exact c
def Fy:∀(d:List aI) (b:List (U×U)) (c:Nat),((∀x∈dA d,oV x.1 x.2=true)->iG d b c=(b++dA d,c+(dA d).length,true))/\((¬ ∀x∈dA d,oV x.1 x.2=true)->(iG d b c).2.2=false)
 |[],b,c=>by simp[iG,dA]
 |a::l,b,c=>by
  unfold iG;rw[Al];cases hd:jJ a.B with
  |false=>simp only[jC,bY,cK,cE];exact Fy l b c
  |true=>
   simp only[gz,bY];rw[M];by_cases e:oV (kP a.B) a.val=true
   .rw[M<|by simp[e]];obtain⟨f,i⟩:=Fy l (b++[(kP a.B,a.val)]) (c+1);refine⟨λh=>?_,λh=>?_⟩
    .rw[f λx hx=>h x<|by simp[hx]];simp;omega
    apply i;intro q;apply h;intro x hx;obtain g|g:=mem_cons.1 hx
    .subst g;exact e
    exact q x g
   rw[J<|by simp[e]];refine⟨λh=>aj6 (h (kP a.B,a.val)<|by simp) e,λ_=>rfl⟩
def tw(aJ:List (U×U))(l:List aI):List aI:=(l.filter λa=> !jJ a.B).map (kz aJ)
def cA(aJ:List (U×U))(b:List aI)(a:aI):Bool:=jJ a.B||(pX aJ (dH a.B)&& !vw (tw aJ b) (kz aJ a))
def allA(aJ:List (U×U)):List aI->List aI->Bool
 |_,[]=>true
 |b,a::l=>cA aJ b a&&allA aJ (b++[a]) l
def aik(aJ:List (U×U))(l:List aI)(a:aI):tw aJ (l++[a])=if jJ a.B then tw aJ l else tw aJ l++[kz aJ a]:=by
 unfold tw;rw[filter_append];cases h:jJ a.B<;>simp[h]
def Us(aJ:List (U×U)):∀(rest b:List aI),mR aJ rest (tw aJ b)=if allA aJ b rest then some (tw aJ (b++rest))else none
 |[],b=>by simp[mR,allA]
 |a::l,b=>by
  have ih:=Us aJ l (b++[a]);rw[jB,wQ,ul,aik]at ih;unfold mR allA cA;cases hd:jJ a.B with
  |true=>rw[hd,J rfl]at ih;simp[ih]
  |false=>
   rw[hd,M]at ih;cases c:pX aJ (dH a.B)with
   |false=>simp
   |true=>
    cases d:vw (tw aJ b) (kz aJ a)with
    |true=>simp
    |false=>simp[ih]
def Ld(aJ:List (U×U))(a:aI):(kz aJ a).B=a.B/\(kz aJ a).val=a.val:=by unfold kz;split<;>exact⟨rfl,rfl⟩
def Lf{b:List (List aI)}(h:Nm b aJ c){a:aI}(d:a.space=[])(e:fC a.B=true):(kz aJ a).space=Rf.bQ b (iz a.B).1:=by
 obtain⟨_,f⟩:=parts_eq a.B;rw[(f e).1];unfold kz Rf.bQ;by_cases g:dH a.B=[]
 .rw[M<|by simp[g],J g,d]
 rw[J<|by simpa using g,M g];exact h.val _
def ail(a b:U):(a==b)=decide (a=b):=by by_cases h:a=b<;>simp[h]
def aim{c:List (List aI)}{j:List Nat}(h:Nm c aJ j)(e:List aI)(a:aI)(l:List aI)(q:∀b∈e++a::l,fC b.B=true)(r:∀b∈e++a::l,b.space=[])
 (t:jJ a.B=true->oV (kP a.B) a.val=true):lM c (e++a::l) e.length=cA aJ e a:=by
 have d:=q a (by simp);obtain⟨u,k⟩:=parts_eq a.B;obtain⟨v,w⟩:=decl_eq d;unfold lM cA;have y:(e++a::l)[e.length]?=some a:=by simp
 rw[y,(take_left ..)];dsimp only;rw[u,d];simp only[gz,cK,cE];rw[v];cases hd:jJ a.B with
 |true=>rw[J rfl,w hd,Fv,t hd];rfl
 |false=>
  rw[M,(k d).1,(k d).2,<-h.Lc];cases n:pX aJ (dH a.B)with
  |false=>simp
  |true=>
   rw[M];simp only[ja,ku];rw[vw,tw,any_map,any_filter,<-not_any_eq_all_not];congr 1
   have g:=Lf h (r a<|by simp) d;rw[(k d).1]at g;have o:∀(m:List aI),(∀b∈m,fC b.B=true/\b.space=[])->
    (m.any λb=> !(k_ b.B).2&&decide ((iz b.B).2.1=gI a.B)&&decide (Rf.bQ c (iz b.B).1=Rf.bQ c (dH a.B)))=(m.any λb=>(!jJ b.B)&&((λi=>i.space==(kz aJ a).space&&gI i.B==gI (kz aJ a).B) ∘ kz aJ) b):=by
    intro m s;induction m with
    |nil=>rfl
    |cons b m ih=>
     rw[yD,yD,ih λx hx=>s x<|by simp[hx]];congr 1
     obtain⟨f,p⟩:=s b (by simp);simp only[Function.comp,(Lf h p f),g,(Ld aJ b).1,(Ld aJ a).1,(decl_eq f).1,((parts_eq b.B).2 f).2,ail];rw[Bool.and_assoc];congr 1;rw[Bool.and_comm]
   exact o e λb n=>⟨q b<|by simp[n],r b<|by simp[n]⟩
def Ut{d:List (List aI)}{aJ:List (U×U)}{f:List Nat}(h:Nm d aJ f):∀(rest c:List aI),(∀b∈c++rest,fC b.B=true)->(∀b∈c++rest,b.space=[])->(∀x∈dA rest,oV x.1 x.2=true)->
 ((List.range' c.length rest.length).all λi=>lM d (c++rest) i)=allA aJ c rest
 |[],c,_,_,_=>by simp[allA]
 |a::l,c,j,k,g=>by
  rw[cT,List.range'_succ,AR];have e:c++a::l=(c++[a])++l:=by simp
  have ih:=Ut h l (c++[a]) (by rwa[<-e]) (by rwa[<-e]) λx hx=>g x (by rw[Al];split;exact iU _ hx;exact hx);rw[bT,cT,fB,jV,<-e]at ih;rw[ih,aim h c a l j k λhd=>g (kP a.B,a.val)<|by rw[Al,J hd];simp];rfl
def ain{nm:U}(h:Nm r.P k.m k.T)(l:Raw aC)(o:k.B=nm)(j:k.f=aC):
 (pU r nm aC=false/\(dY k).2=none)\/
 (pU r nm aC=true/\fC nm=true/\dY k=({k with m:=k.m++dA aC,T:=k.T++[(dA aC).length]},some (tw (k.m++dA aC) aC))/\Tg aC):=by
 obtain⟨D,F⟩:=parts_eq nm;unfold dY Mk.yM;rw[o,j];by_cases c:(∀a∈aC,fC a.B=true)/\fC nm=true
 .have m:((aC.all λa=>fC a.B)&&fC nm)=true:=by
   rw[nQ,all_eq_true];exact⟨c.1,c.2⟩
  rw[m];simp only[gz,cK,cE];by_cases p:∀x∈dA aC,oV x.1 x.2=true
  .have s:Tg aC:=⟨c.1,l.1,p⟩;have u:=h.push s;have d:cG k=({k with m:=k.m++dA aC,T:=k.T++[(dA aC).length]},true):=by
    rw[cG,j,(Fy aC k.m 0).1 p];simp
   rw[d];dsimp only;rw[M];have b:=Ut u aC [] (by simpa using c.1) (by simpa using l.2) p;rw[ul,fB,<-range_eq_range']at b;have hres:=Us (k.m++dA aC) aC [];rw[ul,show tw (k.m++dA aC) []=[]from rfl]at hres;unfold pU;dsimp only;rw[D,c.2,(F c.2).1,<-u.Lc,b,hres];by_cases hx:dH nm=nU
   ·
    have z:pX (k.m++dA aC) (dH nm)=false:=by
     rw[u.Lc,hx,rC,M,Fx _ _ _ _ u.tg,pV<|by decide,ku,ajT];intro x A B;obtain⟨t,G,H⟩:=mem_flatMap.1 A;have:=(u.tg t G).good x H;have C:x.1=fR:=by show x.1=nU;simpa using B
     unfold oV at this;simp[C]at this
    rw[z];left;simp[hx]
   rw[pV hx];cases w:pX (k.m++dA aC) (dH nm)with
   |false=>left;simp
   |true=>
    cases e:allA (k.m++dA aC) [] aC with
    |false=>left;simp
    |true=>right;exact⟨rfl,rfl,by simp only[gz,cK,cE,bY];rw[o,j],s⟩
  left;have d:(cG k).2=false:=by
   unfold cG;dsimp only;rw[j,(Fy aC k.m 0).2 p];rfl
  rw[d];refine⟨?_,by simp⟩;have:∃a∈aC,jJ a.B=true/\oV (kP a.B) a.val=false:=by
   by_cases q:∃a∈aC,jJ a.B=true/\oV (kP a.B) a.val=false
   .exact q
   exfalso;apply p;intro x hx;unfold dA at hx;obtain⟨a,e,y⟩:=mem_filterMap.1 hx;split at y
   .rename_i hd;simp only[Option.some.injEq]at y;subst y;cases g:oV (kP a.B) a.val
    .exact aj6 ⟨a,e,hd,g⟩ q
    rfl
   cases y
  obtain⟨a,e,hd,w⟩:=this;obtain⟨i,v,n⟩:=getElem_of_mem e;have f:lM (r.P++[aC]) aC i=false:=by
   rw[lM,l_ v,n];dsimp only;rw[(parts_eq a.B).1,c.1 a e,(decl_eq (c.1 a e)).1,hd,(decl_eq (c.1 a e)).2 hd,Fv,w];rfl
  unfold pU;dsimp only;have b:((List.range aC.length).all λi=>lM (r.P++[aC]) aC i)=false:=by
   rw[all_eq_false];exact⟨i,mem_range.2 v,by simp[f]⟩
  rw[b];split
  .rfl
  split<;>rfl
 left;have m:((aC.all λa=>fC a.B)&&fC nm)=false:=by
  rw[wU];intro g;rw[nQ,all_eq_true]at g;exact c ⟨g.1,g.2⟩
 rw[m];refine⟨?_,by simp⟩;unfold pU;dsimp only;by_cases E:fC nm=true
 .have:∃a∈aC,fC a.B=false:=by
   by_cases q:∃a∈aC,fC a.B=false
   .exact q
   exfalso;apply c;refine⟨λa e=>?_,E⟩;cases g:fC a.B
   .exact aj6 ⟨a,e,g⟩ q
   rfl
  obtain⟨a,e,w⟩:=this;obtain⟨i,v,n⟩:=getElem_of_mem e;have f:lM (r.P++[aC]) aC i=false:=by
   rw[lM,l_ v,n];dsimp only;rw[(parts_eq a.B).1,w];rfl
  have b:((List.range aC.length).all λi=>lM (r.P++[aC]) aC i)=false:=by
   rw[all_eq_false];exact⟨i,mem_range.2 v,by simp[f]⟩
  rw[b];split
  .rfl
  split<;>rfl
 have:fC nm=false:=by simpa using E
 rw[D,this];rfl
