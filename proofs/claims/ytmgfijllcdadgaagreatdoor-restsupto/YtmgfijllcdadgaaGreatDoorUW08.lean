import Derived.Test.YtmgfijllcdadgaaGreatDoorUW04
set_option linter.all false
set_option maxHeartbeats 8000000
set_option maxRecDepth 100000
namespace Go.Proofs.YtmgfijllcdadgaaGreatDoor
open Go.RowKit
open Go.Proofs.Tryz
namespace V
open Rf
open Mk (U Ev aI)
variable {w:World}{e:TypeId}{a n b:Nat}{v:Value}{l:List aI}
structure iW(s:R):Prop where
 len:s.s.length<=1000000000000
 A:s.A<=s.s.length
 t0:0<=s.S
 t1:s.S<=1024
section
variable {w w' :World}{b:Nat}{s:R}{L:bA}
def kM(h:bD w b s L)(x:Int):Calls prog 83 #[.pointer (some ⟨b,0,none⟩),.int .i64 x] w (qR w b s L (eZ s x,false)):=by
 obtain⟨a,e,c⟩:=h.zzv;have d:=Y h;unfold aR at a;clear h;go_enter func83,ntmps83;go_wp2;go_ret;exact⟨rfl,L,(d.u.start.store 6 _ {s with stop:=2} rfl rfl rfl rfl).store 7 _ (eZ s x) rfl rfl rfl rfl⟩
def pu(h:bD w b s L)(c:iW s):Calls prog 105 #[.pointer (some ⟨b,0,none⟩)] w (qR w b s L (b_ s)):=by
 obtain⟨f,j,g⟩:=h.zzv;have e:=Y h;have k:=c.len;have l:=c.A;unfold aR at f;clear h c;by_cases a:s.A<s.s.length
 .have d:b_ s=(s,false):=by simp[b_,a]
  rw[d];have i:=nR a;go_enter func105,ntmps105;go_wp2;go_quiet(fail);go_wp2;go_ret;exact⟨rfl,L,e.u.start.drewN _⟩
 have d:b_ s=({s with stop:=1},true):=by simp[b_,a]
 rw[d];have i:=pV a;go_enter func105,ntmps105;go_wp2;go_quiet(fail);go_wp2;go_ret;exact⟨rfl,L,(e.u.start.drewN _).store 6 _ {s with stop:=1} rfl rfl rfl rfl⟩
def byte_at(s:R)(i:Nat)(h:i<s.s.length):s.E i=(s.s[i].toNat:Int):=by simp[R.E,h]
def gP(s:R)(i:Nat)(h:i<s.s.length):∃y:UInt8,s.E i=(y.toNat:Int)/\(∀h,(ByteArray.mk s.s.toArray)[i]'h=y)/\s.s[i]?=some y:=
 ⟨s.s[i],byte_at s i h,qT s.s i h,by simp[h]⟩
def vL(h:bD w b s L)(i:iW s)(x:Int)(q:0<=x)(r:x<=255):Calls prog 107 #[.pointer (some ⟨b,0,none⟩),.int .u8 x] w (qR w b s L (bW s x)):=by
 obtain⟨t,G,v⟩:=h.zzv;have H:=Y h;have I:=i.len;have K:=i.A;have j:=Y (pu h i);unfold aR at t;clear h i;by_cases f:s.A<s.s.length;focus
  have c:b_ s=(s,false):=by simp[b_,f]
  rw[c]at j;obtain⟨y,o,z,A⟩:=gP s s.A f;have N:(s.A:Int)<(s.s.length:Int):=by omega
  have B:wrap64 ((s.A:Int)+1)=((s.A+1:Nat):Int):=by unfold wrap64;omega
  clear A c;by_cases k:(y.toNat:Int)=x;focus
   have c:bW s x=({s with A:=s.A+1},true):=by simp[bW,f,o,k]
   rw[c];have C:((y.toNat:Int) !=x)=false:=by simpa using k
   clear c
  rotate_left;focus
   have c:bW s x=(eZ s 3,false):=by simp[bW,f,o,k]
   rw[c];have C:((y.toNat:Int) !=x)=true:=by simpa using k
   clear c
 rotate_left 2
 .have c:b_ s=({s with stop:=1},true):=by simp[b_,f]
  rw[c]at j;have g:bW s x=({s with stop:=1},false):=by simp[bW,f]
  rw[g];clear c g;go_enter func107,ntmps107;go_wp2_with(go_at_call 105;go_call j.u as e D ⟨rfl,l,a⟩;have d:=Y a;clear a);go_ret;exact⟨rfl,l,d.u⟩
 all_goals
  go_enter func107,ntmps107;go_wp2_with(go_at_call 105;go_call j.u as e D ⟨rfl,l,a⟩;obtain⟨m,E,p⟩:=a.X.zzv;have d:=Y a;clear a;unfold aR at m);go_quiet(fail);first
   |(go_wp2;go_ret;exact⟨rfl,l,(d.u.drewN _).store 5 _ {s with A:=s.A+1} rfl rfl rfl rfl⟩)
   |(go_wp2_with fail;go_call(kM (d.u.drewN _).X 3)as e w2 ⟨rfl,F,n⟩;go_wp2;go_ret;exact⟨rfl,F,(d.u.drewN _).call n⟩)
end
section
variable {w w' :World}{b:Nat}{s:R}{L:bA}
def zh(h:bD w b s L)(m:iW s):Calls prog 104 #[.pointer (some ⟨b,0,none⟩)] w λe w' =>e=.returned (.tuple #[])/\∃t,bL w b (cO s L) w' (aV s) t:=by
 have q:=Y h;have H:=m.len;have v:=m.A;have f:Hid (∀k,k+iK Rf.bJ (s.s.drop k)=s.A+iK Rf.bJ (s.s.drop s.A)->aV s={s with A:=k+iK Rf.bJ (s.s.drop k)}):=λk r=>by rw[r];rfl
 clear h m;go_enter func104,ntmps104;go_wp2_with fail;go_loopg [] (s.s.length - s.A) λg x=>∃k,k<=s.s.length/\g=s.s.length - k/\k+iK Rf.bJ (s.s.drop k)=s.A+iK Rf.bJ (s.s.drop s.A)/\∃i,bL w b (cO s L) x {s with A:=k} i;case atStart=>exact⟨s.A,v,rfl,rfl,L,q.u.start⟩
 case round=>
  obtain⟨k,r,rfl,a,i,n⟩:=hrel;obtain⟨z,I,A⟩:=n.X.zzv;have d:=Y n;unfold aR at z;clear n q;by_cases o:k<s.s.length
  .obtain⟨y,K,B,C⟩:=gP s k o;have D:(k:Int)<(s.s.length:Int):=by omega
   have E:=nR o;have F:wrap64 ((k:Int)+1)=((k+1:Nat):Int):=by unfold wrap64;omega
   have c:s.s.drop k=y::s.s.drop (k+1):=drop_at C;rw[c,oz]at a;cases l:Rf.bJ (y.toNat:Int)
   .have j:=Y λw=>DL (y.toNat:Int) w;rw[l]at j a;rw[M]at a;have p:=Y (f.u k<|by rwa[c,oz,l,M]);clear a f;go_wp2_with fail;go_quiet((go_at_call 149;refine Calls.quiet_of_same (j.u _)));go_wp2;go_end0
    refine⟨rfl,i,?_⟩;rw[p.u,c,oz,l,M];exact d.u.drewN _
   have j:=Y λw=>DL (y.toNat:Int) w;rw[l]at j a;rw[J rfl]at a;clear f c;go_wp2_with fail;go_quiet((go_at_call 149;refine Calls.quiet_of_same (j.u _)));go_wp2;go_roundg (s.s.length - (k+1));case measure=>omega
   case rel=>exact⟨k+1,by omega,rfl,by omega,i,(d.u.drewN _).store 5 _ {s with A:=k+1} rfl rfl rfl rfl⟩
  have G:k=s.s.length:=by omega
  have E:=pV o;have p:=Y (f.u k a);clear f a;go_wp2_with fail;go_quiet(fail);go_wp2;go_end0
  refine⟨rfl,i,?_⟩;rw[p.u,iF];exact d.u.drewN _
def xw(w:World)(b:Nat)(s:R)(L:bA)(r:R×U×Bool)(e:Ending)(w' :World):Prop:=
 e=.returned (.tuple #[.string ⟨r.2.1.toArray⟩,.bool r.2.2])/\∃a,bL w b (cO s L) w' r.1 a
def Ht(h:bD w b s L)(v:iW s):Calls prog 109 #[.pointer (some ⟨b,0,none⟩)] w (xw w b s L (cF s)):=by
 have S:=Y h;have T:=v.len;have h2:=v.A;have D:=v.t0;have E:=v.t1;obtain⟨K,F⟩:=aj8 (iK dL (s.s.drop s.A));have G:s.A+K<=s.s.length:=by
  have:=vM dL (s.s.drop s.A);rw[lm]at this;omega
 have W:cF s=if s.S<(K:Int)then(eZ {s with A:=s.A+s.S.toNat} 7,[],false)else((b_ {s with A:=s.A+K}).1,(s.s.drop s.A).take K, !(b_ {s with A:=s.A+K}).2):=by rw[F];rfl
 obtain⟨a1,i⟩:=aj8 (cF s);rw[<-i];have o:=Y (i.trans W);clear W i;have C:=h.cell;have A:=h.lt;unfold aR at C;clear h;have HL:=Y v;clear v;go_enter func109,ntmps109;go_wp2_with fail;go_loopg [] (s.s.length - s.A) λg wx=>∃k,s.A<=k/\k<=s.s.length/\g=s.s.length - k/\k+iK dL (s.s.drop k)=s.A+K/\(k:Int) - (s.A:Int)<=s.S/\∃H,bL w b (cO s L) wx {s with A:=k} H;case atStart=>exact⟨s.A,by omega,by omega,rfl,by rw[F],by omega,L,S.u.start⟩
 case round=>
  obtain⟨k,p,X,rfl,a,q,H,I⟩:=hrel;clear C A F;obtain⟨C,hf,A⟩:=I.X.zzv;have d:=Y I;unfold aR at C;clear I S;have N:(ByteArray.extract ⟨s.s.toArray⟩ s.A k)=⟨((s.s.drop s.A).take (k - s.A)).toArray⟩:=by
   have:=pE s.s s.A (k - s.A);rwa[show s.A+(k - s.A)=k by omega]at this
  have O:wrap64 ((k:Int) - (s.A:Int))=(k:Int) - (s.A:Int):=by unfold wrap64;omega
  by_cases r:k<s.s.length;focus
   obtain⟨y,hb,P,hy⟩:=gP s k r;have e1:=nR r;have a2:(k:Int)<(s.s.length:Int):=by omega
   have l:s.s.drop k=y::s.s.drop (k+1):=drop_at hy;rw[l,oz]at a;have x:=Y λw=>Hl (y.toNat:Int) w;cases h4:dL (y.toNat:Int);focus
    rw[h4]at x a;rw[M]at a;have j:k - s.A=K:=by omega
    have c:=o.u;rw[M,show s.A+K=k by omega,show b_ {s with A:=k}=({s with A:=k},false) by simp[b_,r],<-j]at c;have z:=Y λm=>pu (d.u.drewN m).X ⟨by simpa using T,by simpa using X,D,E⟩;rw[show b_ {s with A:=k}=({s with A:=k},false) by simp[b_,r]]at z;have n:=Y c;clear c o a l j;go_wp2_with fail;go_quiet((go_at_call 156;refine Calls.quiet_of_same (x.u _)))
   rotate_left
   .rw[h4]at x a;rw[J rfl]at a;by_cases B:(k:Int) - (s.A:Int)=s.S
    .have c:=o.u;rw[J,show s.A+s.S.toNat=k by omega]at c;have e2:=aka B;have z:=Y λm=>kM (d.u.drewN m).X 7;have n:=Y c;clear c o a l;go_wp2_with fail;go_quiet((go_at_call 156;refine Calls.quiet_of_same (x.u _)));go_wp2_with fail;go_quiet(fail);go_wp2_with(go_at_call 83;go_call(z.u _)as e w1 ⟨rfl,Q,f⟩;have t:=Y f;clear f);go_ret2;rw[n.u];exact⟨rfl,Q,(d.u.drewN _).call t.u⟩
    have e2:=aj7 B;have a3:wrap64 ((k:Int)+1)=((k+1:Nat):Int):=by unfold wrap64;omega
    clear o l;go_wp2_with fail;go_quiet((go_at_call 156;refine Calls.quiet_of_same (x.u _)));go_wp2_with fail;go_quiet(fail);have HJ:=Y (ajN p (ajN q (ajN B a)));clear O N P x e2 p q B a D E G h2;go_wp2;obtain⟨p,q,B,a⟩:=HJ.u;go_roundg (s.s.length - (k+1));case measure=>omega
    case rel=>exact⟨k+1,by omega,by omega,rfl,by omega,by omega,H,(d.u.drewN _).store 5 _ {s with A:=k+1} rfl rfl rfl rfl⟩
  rotate_left;focus
   have e1:=pV r;have j:k - s.A=K:=by
    rw[iF,NR]at a;omega
   have c:=o.u;rw[M,show s.A+K=k by omega,show b_ {s with A:=k}=({s with A:=k,stop:=1},true) by simp[b_,r],<-j]at c;have z:=Y λm=>pu (d.u.drewN m).X ⟨by simpa using T,by simpa using X,D,E⟩;rw[show b_ {s with A:=k}=({s with A:=k,stop:=1},true) by simp[b_,r]]at z;have n:=Y c;clear c o a j;go_wp2_with fail;go_quiet(fail)
  all_goals
   go_wp2_with(go_at_call 105;go_call(z.u _)as e w1 ⟨rfl,Q,f⟩;obtain⟨R,a4,a0⟩:=f.X.zzv;have t:=Y f;clear f;unfold aR at R);go_quiet(fail);go_wp2;go_ret2;rw[n.u];exact⟨rfl,Q,((d.u.drewN _).call t.u).drewN _⟩
end
section
variable {w w' :World}{b:Nat}{s:R}{L:bA}
def ZJ{l:U}{i:Nat}{y:UInt8}(h:l[i]?=some y):(ByteArray.extract ⟨l.toArray⟩ i (i+1))=⟨[y].toArray⟩:=by
 have:=pE l i 1;rw[this,drop_at h];rfl
def Dl(h:bD w b s L)(f:iW s)(i:Nat)(l:i<s.s.length):Calls prog 204 #[.pointer (some ⟨b,0,none⟩),.int .i64 i] w λe w' =>e=.returned (.bool (yB s i))/\w' =w:=by
 have m:=h.cell;have n:=h.lt;have x:=f.len;obtain⟨y,o,a,c⟩:=gP s i l;have p:=ZJ c;have g:yB s i=decide (0<=kr [y]):=by
  rw[yB,show s.s.getD i 0=y by simp[c]]
 rw[g];have j:=Y λw=>Hr [y] (by simp) w;have q:wrap64 ((i:Int)+1)=(i:Int)+1:=by unfold wrap64;omega
 have z:((i:Int)+1).toNat=i+1:=by omega
 have r:(i:Int)+1<=(s.s.length:Int):=by omega
 generalize kr [y]=gv at *;unfold aR at m;clear h f g c a o;cases k:decide (0<=gv)
 .have t:decide (0<=gv)=false:=k;go_enter func204,ntmps204;go_wp2_with(go_at_call 85;go_call(j.u _)as e v ⟨rfl,d⟩;obtain rfl:=d.symm);go_ret;exact⟨rfl,rfl⟩
 have t:decide (0<=gv)=true:=k;go_enter func204,ntmps204;go_wp2_with(go_at_call 85;go_call(j.u _)as e v ⟨rfl,d⟩;obtain rfl:=d.symm);go_ret;exact⟨rfl,rfl⟩
def Bm(h:bD w b s L)(f:iW s)(i:Nat)(n:i<s.s.length):Calls prog 154 #[.pointer (some ⟨b,0,none⟩),.int .i64 i] w (qR w b s L (mO s i,false)):=by
 obtain⟨p,v,q⟩:=h.zzv;have a:=h.start.store 5 (.int .i64 (i:Int)) {s with A:=i} rfl rfl rfl rfl;have c:iW {s with A:=i}:=⟨f.len,by simpa using LC n,f.t0,f.t1⟩;have j:=Y (Dl a.X c i n);have d:yB {s with A:=i} i=yB s i:=rfl;rw[d]at j;have l:=Y a;unfold aR at p;cases k:yB s i;focus
  have g:mO s i=eZ {s with A:=i} 2:=by simp[mO,k]
  rw[g];rw[k]at j;have o:=Y (kM a.X 2);clear h f a c g d
 rotate_left;focus
  have g:mO s i=eZ {s with A:=i} 7:=by simp[mO,k]
  rw[g];rw[k]at j;have o:=Y (kM a.X 7);clear h f a c g d
 all_goals
  go_enter func154,ntmps154
  go_wp2_with(first
   |(go_at_call 204;go_call j.u as e r ⟨rfl,rfl⟩)
   |(go_at_call 83;go_call o.u as e r ⟨rfl,t,m⟩))
  go_ret;exact⟨rfl,t,l.u.call m⟩
end
def DT{c g:Type}(f:c->List g)(m:Nat)(b:∀a,(f a).length=m):∀(l:List c) (k:Nat) (h:k<l.length) (j:Nat),j<m->(l.flatMap f)[k*m+j]?=(f l[k])[j]?
 |a::l,0,_,j,d=>by simp only[mQ,Nat.zero_mul,jV,wR];rw[CQ<|by rwa[b]]
 |a::l,k+1,h,j,d=>by
  simp only[mQ,CO];have e:(k+1)*m+j=(f a).length+(k*m+j):=by rw[b,yE];omega
  rw[e,Aw<|by omega,Nat.add_sub_cancel_left];exact DT f m b l k (by simpa using h) j d
def aaf{d:Nat}{g c:Nat}{i:List Value}(h:w.ownsRow d e a (.slice (some ⟨g,0,none⟩) n c) n i)(j:Nat)(k:j<n*a):w.cell? ⟨g,j,none⟩=i[j]?:=by
 obtain⟨l,_⟩|⟨s,m,f,o,t,p,q,_,r,b⟩:=h.2
 .cases l
 cases o;rw[C_ w g j f _ _ p,<-b,yI k];simp
def sD{m:Nat}{i:Type}(f:i->List Value)(p:∀a,(f a).length=m){l:List i}(t:0<m)(h:w.ownsRow b e m v n (l.flatMap f))(u:n=l.length)(k:Nat)(q:k<l.length):
 ∃g c,v=.slice (some ⟨g,0,none⟩) n c/\g<w.heap.size/\∀j,j<m->w.cell? ⟨g,k*m+j,none⟩=(f l[k])[j]?:=by
 obtain⟨g,c,o,_,d⟩:=World.ownsRow.form h (by omega);refine⟨g,c,o,d,λj r=>?_⟩;subst o;rw[aaf h (k*m+j) ?_]
 .exact DT f m p l k q j r
 have s:(k+1)*m<=n*m:=oO _ (by omega);rw[yE]at s;omega
def iE{d:Nat}{i:List Value}(h:w.ownsRow b e d v n i):∃a c,v=.slice a n c:=by
 obtain⟨f,j⟩|⟨g,k,l,f,_⟩:=h.2
 .exact⟨none,0,by rw[f,j]⟩
 exact⟨_,_,f⟩
def sF{c:List Value}(h:w.ownsRow a e b v n c):n<=9223372036854775807:=by
 obtain⟨_,j⟩|⟨g,d,f,_,_,_,k,i,_⟩:=h.2
 .omega
 unfold maxLen at i;omega
def aag(a:List aI)(b:U)(k:Nat)(h:k<a.length):kQ (a.drop k) b=(decide (a[k].B=b)||kQ (a.drop (k+1)) b):=by
 unfold kQ;rw[gB h,yD]
def Dk{h:Nat}{a:List aI}(l:w.ownsRow h 69 3 v a.length (cQ a))(b:U):
 Calls prog 205 #[v,.string ⟨b.toArray⟩] w λe w' =>e=.returned (.bool (kQ a b))/\w' =w:=by
 have A:=sF l;have g:=Y λk s=>sD gG (λ_=>rfl) (by decide) l rfl k s;obtain⟨B,C,rfl⟩:=iE l;obtain⟨d,c⟩:=aj8 (kQ a b);rw[<-c];have n:Hid (d=kQ (a.drop 0) b):=c;clear l c;go_enter func205,ntmps205;go_wp2;go_loop [5] (λi=>∃k:Nat,k<=a.length/\i=.int .i64 k/\Hid (d=kQ (a.drop k) b)) λi=>a.length - (intOf i).toNat
 case atStart=>exact⟨0,by omega,rfl,n⟩
 case round=>
  obtain⟨k,s,rfl,m⟩:=hrel;by_cases j:k<a.length
  .obtain⟨D,E,o,_,t⟩:=g.u k j;injection o with o _ p;subst o;subst p;have q:=t 0 (by decide);simp[gG]at q;have hd:=aag a b k j;have f:=Y (m.u.trans hd);clear t g n m hd;generalize a[k]=x at *;have z:decide ((k:Int)<(a.length:Int))=true:=aj_;cases y:(x.B==b)
   .have r:=akf y;rw[r,ku]at f;go_wp2;go_round
    case rel=>exact⟨k+1,by omega,by go_num,f⟩
    case measure=>simp[intOf];omega
   have r:=ake y;rw[r,nP]at f;go_wp2;go_ret;exact⟨by rw[f.u];rfl,rfl⟩
  have z:decide ((k:Int)<(a.length:Int))=false:=aj9;have hfin:Hid (d=false):=(show d=false by rw[m.u,iF];rfl);clear g n m;go_wp2;go_ret;exact⟨by rw[hfin.u];rfl,rfl⟩
def zu(y:UInt8): -1<=kr [y]/\kr [y]<=3:=by
 have h:=y.toNat_lt;unfold kr;split
 .rename_i e;cases e
 rename_i x l e;cases e;split
 .omega
 rename_i b c d a;unfold Rf.mq at a;have f:b<=4:=by
  split at a
  .cases a;omega
  split at a
  .cases a;omega
  split at a
  .cases a;omega
  split at a
  .cases a;omega
  cases a
 split
 .omega
 split
 .omega
 simp only[fB];split<;>omega
def getD_at{s:U}{y:UInt8}(h:s[a]?=some y):s.getD a 0=y:=by rw[ajU,h];rfl
section
variable {s:U}{n g a:Nat}{line col:Int}{y z:UInt8}
def abw(h:¬a<n):nk s n (g+1) a line col=(line,col):=by rw[nk,M h]
def abx(h:a<n)(b:s[a]?=some y)(c:((y.toNat:Int)==13)=true)(d:a+1<n)(e:s[a+1]?=some z)(f:((z.toNat:Int)==10)=true):nk s n (g+1) a line col=nk s n g (a+2) (line+1) 1:=by
 rw[nk,J h];simp only[getD_at b,getD_at e,c,f,d,ajO,AO,nP,bY]
def IA(h:a<n)(b:s[a]?=some y)(e0:((y.toNat:Int)==13||(y.toNat:Int)==10)=true)(c:((y.toNat:Int)==13&&decide (a+1<n)&&((s.getD (a+1) 0).toNat:Int)==10)=false):nk s n (g+1) a line col=nk s n g (a+1) (line+1) 1:=by
 rw[nk,J h];simp only[getD_at b];rw[J e0,M<|by rw[c];decide]
def aby(h:a<n)(b:s[a]?=some y)(e0:((y.toNat:Int)==13||(y.toNat:Int)==10)=false)(c:(decide (kr [y]<0)||decide ((n:Int)<=(a:Int)+kr [y]))=true):nk s n (g+1) a line col=(line,col):=by
 rw[nk,J h];simp only[getD_at b];rw[M<|by rw[e0];decide,J c]
def abz(h:a<n)(b:s[a]?=some y)(e0:((y.toNat:Int)==13||(y.toNat:Int)==10)=false)(c:(decide (kr [y]<0)||decide ((n:Int)<=(a:Int)+kr [y]))=false):nk s n (g+1) a line col=nk s n g (a+1+(kr [y]).toNat) line (col+1):=by
 rw[nk,J h];simp only[getD_at b];rw[M<|by rw[e0];decide,M<|by rw[c];decide]
end
def G_(s:U)(n:Nat)(hn:n<=s.length)(hs:s.length<=1000000000000)(w:World):
 Calls prog 63 #[.string ⟨s.toArray⟩,.int .i64 (n:Int)] w λe w' =>e=.returned (.tuple #[.int .i64 (Rf.place s n).1,.int .i64 (Rf.place s n).2])/\w' =w:=by
 obtain⟨t,i⟩:=aj8 (Rf.place s n);rw[<-i];have c:=Y (show t=nk s n (n+1) 0 1 1 from i);have B:=Y Hr;clear i;go_enter func63,ntmps63;go_wp2_with fail;go_loopg [6,7,8] (n+1) λg I K L N=>N=w/\∃(line col:Int) (a:Nat),I=.int .i64 line/\K=.int .i64 col/\L=.int .i64 (a:Int)/\Hid (t=nk s n g a line col)/\n<a+g/\a<=n/\0<=line/\line<=1+a/\0<=col/\col<=1+a;case atStart=>exact⟨rfl,1,1,0,rfl,rfl,rfl,c,by omega,by omega,by omega,by omega,by omega,by omega⟩
 case round=>
  obtain⟨rfl,line,col,a,rfl,rfl,rfl,v,hg,O,P,Q,R,S⟩:=hrel;obtain⟨g,C⟩:∃g,gk=g+1:=⟨gk - 1,by omega⟩;subst C;have hfin:=v.u;clear v c;by_cases l:a<n;focus
   have T:decide ((a:Int)<(n:Int))=true:=aj_;have D:=nR l;have has:a<s.length:=by omega
   have H:(a:Int)<(s.length:Int):=by omega
   obtain⟨y,d⟩:∃y,s[a]?=some y:=⟨s[a],by simp[has]⟩;have W:∀h,(ByteArray.mk s.toArray)[a]'h=y:=λh=>by
    rw[qT s a has h];exact(List.getElem?_eq_some_iff.1 d).2
   cases b:((y.toNat:Int)==13);focus
    cases f:((y.toNat:Int)==10)
    .have X:ByteArray.extract ⟨s.toArray⟩ a (a+1)=⟨[y].toArray⟩:=by
      rw[pE s a 1,drop_at d];rfl
     have q:=Y (B.u [y]<|by simp);have a0:=zu y;have j:=aby (g:=g) (line:=line) (col:=col) l d (by rw[b,f];rfl);have k:=abz (g:=g) (line:=line) (col:=col) l d (by rw[b,f];rfl);generalize kr [y]=o at *;clear d;cases e0:(decide (o<0)||decide ((n:Int)<=(a:Int)+o))with
     |true=>
      rw[j e0]at hfin;have c:=Y hfin;clear hfin j k;cases E:decide (o<0)with
      |true=>
       go_wp2_with(go_at_call 85;go_call(q.u _)as e w' ⟨rfl,x⟩;obtain rfl:=x.symm);go_ret2;rw[c.u];exact⟨rfl,rfl⟩
      |false=>
       rw[E,ku]at e0;go_wp2_with(go_at_call 85;go_call(q.u _)as e w' ⟨rfl,x⟩;obtain rfl:=x.symm);go_ret2;rw[c.u];exact⟨rfl,rfl⟩
     |false=>
      rw[k e0]at hfin;have c:=Y hfin;clear hfin j k;obtain⟨E,e2⟩:decide (o<0)=false/\decide ((n:Int)<=(a:Int)+o)=false:=by simpa[uq]using e0
      have a1:0<=o:=by simpa using E
      obtain⟨m,rfl⟩:∃m:Nat,o=m:=⟨o.toNat,by omega⟩;have a2:(a:Int)+m<n:=by simpa using e2
      simp only[CN]at c;clear e0;go_wp2_with(go_at_call 85;go_call(q.u _)as e w' ⟨rfl,x⟩;obtain rfl:=x.symm);go_roundg g;case measure=>omega
      case rel=>exact⟨rfl,line,col+1,a+1+m,rfl,by simp,by simp,c,by omega,by omega,by omega,by omega,by omega,by omega⟩
    rw[IA l d (by rw[b,f];rfl) (by rw[b];rfl)]at hfin;have c:=Y hfin;clear hfin d
   rotate_left;focus
    by_cases F:a+1<n;focus
     have d2:decide ((a:Int)+1<(n:Int))=true:=aj_;have r:=nR F;have p:a+1<s.length:=by omega
     have G:(a:Int)+1<(s.length:Int):=by omega
     obtain⟨z,A⟩:∃z,s[a+1]?=some z:=⟨s[a+1],by simp[p]⟩;have a3:∀h,(ByteArray.mk s.toArray)[a+1]'h=z:=λh=>by
      rw[qT s (a+1) p h];exact(List.getElem?_eq_some_iff.1 A).2
     cases f:((z.toNat:Int)==10);focus
      rw[IA l d (by rw[b];rfl) (by rw[b,r,getD_at A,f];rfl)]at hfin;have c:=Y hfin;clear hfin d A
     rotate_left
     .rw[abx l d b F A f]at hfin;have c:=Y hfin;clear hfin d A;go_wp2_with fail;go_roundg g;case measure=>omega
      case rel=>exact⟨rfl,line+1,1,a+2,by simp,rfl,by simp;omega,c,by omega,by omega,by omega,by omega,by omega,by omega⟩
    rotate_left;focus
     have d2:decide ((a:Int)+1<(n:Int))=false:=aj9;have r:=pV F;rw[IA l d (by rw[b];rfl) (by rw[b,r];rfl)]at hfin;have c:=Y hfin;clear hfin d
  rotate_left 3
  .have T:decide ((a:Int)<(n:Int))=false:=aj9;have D:=pV l;rw[abw l]at hfin;have c:=Y hfin;clear hfin;go_wp2_with fail;go_ret2;rw[c.u];exact⟨rfl,rfl⟩
  all_goals
   go_wp2_with fail;go_roundg g;case measure=>omega
   case rel=>exact⟨rfl,line+1,1,a+1,by simp,rfl,by simp,c,by omega,by omega,by omega,by omega,by omega,by omega⟩
structure ij(lo hi:Nat)(w:World)(v:Value)(l:List aI):Prop where
 form:∃a c,v=.slice a l.length c/\∀k (hk:k<l.length),∃g o,a=some ⟨g,o,none⟩/\(lo<=g/\g<hi/\g<w.heap.size)/\∀j,j<3->w.cell? ⟨g,o+k*3+j,none⟩=(gG l[k])[j]?
 len:l.length<=9223372036854775807
structure fL(lo hi:Nat)(w:World)(v:Value)(l:List Ev):Prop where
 form:∃a c,v=.slice a l.length c/\∀k (hk:k<l.length),∃g o va,a=some ⟨g,o,none⟩/\g<w.heap.size/\(∀j,j<5->w.cell? ⟨g,o+k*5+j,none⟩=(fP l[k] va)[j]?)/\ij lo hi w va l[k].f
 len:l.length<=9223372036854775807
section
variable {w w' :World}{v:Value}{lo hi:Nat}
def mG{g i:Nat}(h:w'.heap[g]?=w.heap[g]?):w'.cell? ⟨g,i,none⟩=w.cell? ⟨g,i,none⟩:=by simp only[World.cell?];rw[h]
def ij.keep(h:ij lo hi w v l)(e:∀g,lo<=g->g<hi->g<w.heap.size->w'.heap[g]?=w.heap[g]?)(f:w.heap.size<=w'.heap.size):ij lo hi w' v l:=by
 obtain⟨a,c,i,hx⟩:=h.form;refine⟨⟨a,c,i,λk d=>?_⟩,h.len⟩;obtain⟨g,o,m,b,n⟩:=hx k d;exact⟨g,o,m,⟨b.1,b.2.1,i_ b.2.2 f⟩,λj p=>by rw[mG (e g b.1 b.2.1 b.2.2)];exact n j p⟩
def ij.low(h:ij lo hi w v l)(f:b<=lo):ij b hi w v l:=by
 obtain⟨a,c,i,hx⟩:=h.form;refine⟨⟨a,c,i,λk d=>?_⟩,h.len⟩;obtain⟨g,o,j,e,m⟩:=hx k d;exact⟨g,o,j,⟨cL f e.1,e.2⟩,m⟩
def ij.high(h:ij lo hi w v l):ij lo w.heap.size w v l:=by
 obtain⟨a,c,e,hx⟩:=h.form;refine⟨⟨a,c,e,λk b=>?_⟩,h.len⟩;obtain⟨g,o,f,d,i⟩:=hx k b;exact⟨g,o,f,⟨d.1,d.2.2,d.2.2⟩,i⟩
def ij.below(h:ij lo hi w v l)(a:Below w.heap.size w w'):ij lo hi w' v l:=h.keep (λg _ _ b=>a.block g b) a.size
def fL.below{l:List Ev}(h:fL lo hi w v l)(b:Below w.heap.size w w'):fL lo hi w' v l:=by
 obtain⟨a,c,f,i⟩:=h.form;refine⟨⟨a,c,f,λk d=>?_⟩,h.len⟩;obtain⟨g,o,m,n,e,p,q⟩:=i k d;exact⟨g,o,m,n,i_ e b.size,λj r=>by rw[mG (b.block g e)];exact p j r,q.below b⟩
def below_drewN(w:World)(n:Nat):Below w.heap.size w (w.drewN n):=⟨rfl,rfl,rfl,ajQ<|by rw[heap_drewN],λ_ _=>by rw[heap_drewN]⟩
def ij.drewN{l:List aI}(h:ij lo hi w v l)(n:Nat):ij lo hi (w.drewN n) v l:=h.below (below_drewN w n)
def ij.of(h:w.ownsRow b 69 3 v l.length (cQ l)):ij b w.heap.size w v l:=by
 obtain⟨a,c,rfl⟩:=iE h;refine⟨⟨a,c,rfl,λk i=>?_⟩,sF h⟩;obtain⟨g,d,e,f,m⟩:=sD gG (λ_=>rfl) (by decide) h rfl k i;have n:b<=g:=(World.ownsRow.lt h g<|by rw[e];rfl).1;injection e with e _ _;exact⟨g,0,e,⟨n,f,f⟩,λj o=>by rw[jV];exact m j o⟩
def fL.of{e:Nat}{b:List (Ev×Value)}(h:w.ownsRow e 65 5 v b.length (dU b))(m:∀p∈b,ij lo hi w p.2 p.1.f):fL lo hi w v (b.map (·.1)):=by
 obtain⟨a,c,rfl⟩:=iE h;refine⟨⟨a,c,by rw[iM],λk f=>?_⟩,by rw[iM];exact sF h⟩;rw[iM]at f;obtain⟨g,d,i,n,o⟩:=sD (l:=b) (λp=>fP p.1 p.2) (λ_=>rfl) (by decide) h rfl k f;injection i with i _ _;refine⟨g,0,b[k].2,i,n,λj q=>?_,?_⟩
 .rw[jV,Av];exact o j q
 rw[Av];exact m _ (iZ f)
def fL.drop{l:List Ev}{g o c:Nat}(h:fL lo hi w (.slice (some ⟨g,o,none⟩) l.length c) l)(n:Nat)(s:n<=l.length):fL lo hi w (.slice (some ⟨g,o+n*5,none⟩) (l.drop n).length (c - n)) (l.drop n):=by
 obtain⟨a,t,d,f⟩:=h.form;injection d with d _ _;have u:=h.len;refine⟨⟨_,_,rfl,λk e=>?_⟩,by rw[lm];omega⟩;rw[lm]at e;obtain⟨v,x,i,b,m,p,y⟩:=f (n+k) (by omega);rw[<-d]at b;injection b with b;injection b with b q _;subst b q;refine⟨g,o+n*5,i,rfl,m,λj r=>?_,?_⟩
 .have:=p j r;rw[show o+(n+k)*5+j=o+n*5+k*5+j by omega]at this;rw[this,List.getElem_drop]
 rwa[List.getElem_drop]
end
def Po(l m:List aI)(k:Nat)(a:k<l.length)(b:k<m.length):mF (l.drop k) (m.drop k)=(decide (l[k].B=m[k].B)&&decide (l[k].space=m[k].space)&&decide (l[k].val=m[k].val)&&mF (l.drop (k+1)) (m.drop (k+1))):=by
 rw[gB a,gB b,mF]
def IJ:∀{l m:List aI},l.length≠m.length->mF l m=false
 |[],[],h=>aj6 rfl h
 |[],_::_,_=>rfl
 |_::_,[],_=>rfl
 |a::l,b::m,h=>by
  rw[mF,IJ (l:=l) (m:=m) λe=>h<|by simp[e],kx]
def Pp(l m:List Ev)(k:Nat)(a:k<l.length)(b:k<m.length):lZ (l.drop k) (m.drop k)=(uM l[k] m[k]&&lZ (l.drop (k+1)) (m.drop (k+1))):=by
 rw[gB a,gB b,lZ]
def IK:∀{l m:List Ev},l.length≠m.length->lZ l m=false
 |[],[],h=>aj6 rfl h
 |[],_::_,_=>rfl
 |_::_,[],_=>rfl
 |a::l,b::m,h=>by
  rw[lZ,IK (l:=l) (m:=m) λe=>h<|by simp[e],kx]
def xM(w:World)(a b:Obj):Below w.heap.size w ((w.alloc a).alloc b):=((Below.refl _ _).alloc (a_ _) a).alloc (by simp) b
def IL(w:World)(a b:Obj)(n:Nat):Below w.heap.size w (((w.alloc a).alloc b).drewN n):=(xM w a b).trans ((below_drewN _ n).mono<|by simp;omega)
def uO(w:World)(n m:Nat):(w.drewN n).drewN m=w.drewN (n+m):=by simp[World.drewN,AL]
def abE{Q R:Value}{m:List aI}{S F T G:Nat}(H:ij S T w Q l)(I:ij F G w R m):
 Calls prog 91 #[Q,R] w λe w' =>e=.returned (.bool (mF l m))/\∃n,w' =w.drewN n:=by
 have hl:=H.len;have W:=I.len;obtain⟨a1,c1,rfl,o⟩:=H.form;obtain⟨a2,c2,rfl,p⟩:=I.form;have i:=Y o;have j:=Y p;obtain⟨c,b⟩:=aj8 (mF l m);rw[<-b];clear H I o p;by_cases d:l.length=m.length
 .have e0:((l.length:Int) !=(m.length:Int))=false:=by simp[d]
  have K:=Y (show c=mF (l.drop 0) (m.drop 0)from b);have q:=Y d;clear b d;go_enter func91,ntmps91;go_wp2_with fail;go_loopg [5] l.length (λg X wx=>∃k:Nat,k<=l.length/\g=l.length - k/\X=.int .i64 k/\Hid (c=mF (l.drop k) (m.drop k))/\∃n,wx=w.drewN n);case atStart=>exact⟨0,by omega,rfl,rfl,K,0,rfl⟩
  case round=>
   obtain⟨k,hk,rfl,rfl,f,n,rfl⟩:=hrel;have d:=q.u;by_cases r:k<l.length
   .have e1:decide ((k:Int)<(l.length:Int))=true:=aj_;have h:k<m.length:=by omega
    have hfin:=f.u;rw[Po l m k r h]at hfin;obtain⟨g1,o1,f1,⟨_,_,_⟩,D⟩:=i.u k r;obtain⟨g2,o2,f2,⟨_,_,_⟩,E⟩:=j.u k h;subst f1 f2;have s:=D 0 (by decide);have t:=D 1 (by decide);have v:=D 2 (by decide);have z:=E 0 (by decide);have A:=E 1 (by decide);have B:=E 2 (by decide);simp[gG]at s t v z A B;clear D E i j f K q;generalize l[k]=x at *;generalize m[k]=y at *;obtain⟨xn,xs,xv⟩:=x;obtain⟨yn,ys,yv⟩:=y;simp only at s t v z A B hfin;by_cases L:xn=yn
    .subst L;by_cases N:xs=ys
     .subst N;by_cases O:xv=yv
      .subst O;simp only[ajO,ja]at hfin;have P:=Y hfin;clear hfin;go_wp2_with fail;go_quiet(fail);go_wp2_with fail;go_roundg (l.length - (k+1));case measure=>omega
       case rel=>exact⟨k+1,by omega,rfl,by simp,P,n+nq,by first|rfl|rw[uO]⟩
      have a:c=false:=by rw[hfin];simp[O]
      have C:=aj7 O;clear hfin;subst a;go_wp2_with fail;go_quiet(fail);go_wp2_with fail;go_ret;exact⟨rfl,n+nq,by first|rfl|rw[uO]⟩
     have a:c=false:=by rw[hfin];simp[N]
     have C:=aj7 N;clear hfin;subst a;go_wp2_with fail;go_quiet(fail);go_wp2_with fail;go_ret;exact⟨rfl,n+nq,by first|rfl|rw[uO]⟩
    have a:c=false:=by rw[hfin];simp[L]
    have C:=aj7 L;clear hfin;subst a;go_wp2_with fail;go_quiet(fail);go_wp2_with fail;go_ret;exact⟨rfl,n+nq,by first|rfl|rw[uO]⟩
   have e1:decide ((k:Int)<(l.length:Int))=false:=aj9;have a0:decide ((k:Int)<(m.length:Int))=false:=aj9;have hfin:=f.u;rw[iF (by omega:l.length<=k),iF (by omega:m.length<=k)]at hfin;have a:c=true:=hfin;clear i j f K hfin;subst a;go_wp2_with fail;go_ret;exact⟨rfl,n,rfl⟩
 have e0:((l.length:Int) !=(m.length:Int))=true:=by simp;omega
 have a:c=false:=by rw[b];exact IJ d
 clear b;subst a;go_enter func91,ntmps91;go_wp2_with fail;go_ret;exact⟨rfl,0,rfl⟩
def El{v1 v2:Value}{l m:List Ev}{lo R hi S:Nat}(P:fL lo hi w v1 l)(Q:fL R S w v2 m):
 Calls prog 73 #[v1,v2] w λe w' =>e=.returned (.bool (lZ l m))/\Below w.heap.size w w' :=by
 have hl:=P.len;have a5:=Q.len;obtain⟨a1,c1,h,-⟩:=P.form;obtain⟨a2,c2,i,-⟩:=Q.form;subst h i;have o:=Y P;have p:=Y Q;obtain⟨b,c⟩:=aj8 (lZ l m);rw[<-c];clear P Q;by_cases d:l.length=m.length
 .have e0:((l.length:Int) !=(m.length:Int))=false:=by simp[d]
  have T:=Y (show b=lZ (l.drop 0) (m.drop 0)from c);have v:=Y d;clear c d;go_enter func73,ntmps73;go_wp2_with fail;go_loopg [5] l.length (λg s5 wx=>∃k:Nat,k<=l.length/\g=l.length - k/\s5=.int .i64 k/\Hid (b=lZ (l.drop k) (m.drop k))/\Hid (Below w.heap.size w wx));case atStart=>exact⟨0,by omega,rfl,rfl,T,Y (Below.refl _ _)⟩
  case round=>
   obtain⟨k,hk,rfl,rfl,j,f⟩:=hrel;have d:=v.u;by_cases z:k<l.length;focus
    have e1:decide ((k:Int)<(l.length:Int))=true:=aj_;have n:k<m.length:=by omega
    have hfin:=j.u;rw[Pp l m k z n]at hfin;unfold uM at hfin;have A:=f.u.size;obtain⟨b1,d1,h,B⟩:=(o.u.below f.u).form;obtain⟨b2,d2,i,C⟩:=(p.u.below f.u).form;injection h with h _ X;injection i with i _ a0;subst h i X a0;obtain⟨g1,o1,a6,f1,a7,s,r1⟩:=B k z;obtain⟨g2,o2,a8,f2,a9,t,r2⟩:=C k n;subst f1 f2;have HA:=Y λ(W:World) (hb:Below wr.heap.size wr W)=>abE (r1.below hb) (r2.below hb);obtain⟨aa,ab,rfl,_⟩:=r1.form;obtain⟨ad,ae,rfl,_⟩:=r2.form;have D:=s 0 (by decide);have E:=s 1 (by decide);have F:=s 2 (by decide);have G:=s 3 (by decide);have H:=s 4 (by decide);have I:=t 0 (by decide);have K:=t 1 (by decide);have L:=t 2 (by decide);have N:=t 3 (by decide);have O:=t 4 (by decide);simp[fP]at D E F G H I K L N O;clear s t o p j T v r1 r2 B C;generalize l[k]=x at *;generalize m[k]=y at *;obtain⟨xk,xn,xs,xv,xa⟩:=x;obtain⟨yk,yn,ys,yv,ya⟩:=y;simp only at D E F G H I K L N O hfin HA;generalize a3:mF xa ya=sa at *;clear a3;clear d;cases sa;focus
     have a:b=false:=by rw[hfin];simp
     clear hfin;subst a
    rotate_left;focus
     by_cases q:xk=yk;focus
      subst q;by_cases hn:xn=yn;focus
       subst hn;by_cases hs:xs=ys;focus
        subst hs;by_cases hv:xv=yv
        .subst hv;simp only[ajO,ja]at hfin;have a4:=Y hfin;clear hfin;go_wp2_with(go_at_call 91;go_call(HA.u _ (xM _ _ _))as e w' ⟨rfl,nq,rfl⟩);go_roundg (l.length - (k+1));case measure=>omega
         case rel=>exact⟨k+1,by omega,rfl,by simp,a4,Y (f.u.trans ((IL _ _ _ _).mono A))⟩
        have a:b=false:=by rw[hfin];simp[hv]
        have r:=aj7 hv;clear hfin;subst a
       rotate_left;focus
        have a:b=false:=by rw[hfin];simp[hs]
        have r:=aj7 hs;clear hfin;subst a
      rotate_left 2;focus
       have a:b=false:=by rw[hfin];simp[hn]
       have r:=aj7 hn;clear hfin;subst a
     rotate_left 3;focus
      have a:b=false:=by rw[hfin];simp[q]
      have r:=aj7 q;clear hfin;subst a
   rotate_left 5
   .have e1:decide ((k:Int)<(l.length:Int))=false:=aj9;have af:decide ((k:Int)<(m.length:Int))=false:=aj9;have hfin:=j.u;rw[iF (by omega:l.length<=k),iF (by omega:m.length<=k)]at hfin;have a:b=true:=hfin;clear o p j T hfin;subst a;go_wp2_with fail;go_ret;exact⟨rfl,f.u⟩
   all_goals
    go_wp2_with(go_at_call 91;go_call(HA.u _ (xM _ _ _))as e w' ⟨rfl,nq,rfl⟩);go_ret;exact⟨rfl,f.u.trans ((IL _ _ _ _).mono A)⟩
 have e0:((l.length:Int) !=(m.length:Int))=true:=by simp;omega
 have a:b=false:=by rw[c];exact IK d
 clear c;subst a;go_enter func73,ntmps73;go_wp2_with fail;go_ret;exact⟨rfl,Below.refl _ _⟩
end V
namespace U
open V
open Rf hiding R
open Mk
variable {w:World}
def ad1{Q R:Value}{l m:List aI}{S F T G:Nat}(H:ij S T w Q l)(I:ij F G w R m):
 Calls prog 213 #[Q,R] w λe w' =>e=.returned (.bool (mF l m))/\∃n,w' =w.drewN n:=by
 have hl:=H.len;have W:=I.len;obtain⟨a1,c1,rfl,o⟩:=H.form;obtain⟨a2,c2,rfl,p⟩:=I.form;have i:=Y o;have j:=Y p;obtain⟨c,b⟩:=aj8 (mF l m);rw[<-b];clear H I o p;by_cases d:l.length=m.length
 .have e0:((l.length:Int) !=(m.length:Int))=false:=by simp[d]
  have K:=Y (show c=mF (l.drop 0) (m.drop 0)from b);have q:=Y d;clear b d;go_enter func213,ntmps213;go_wp2_with fail;go_loopg [5] l.length (λg X wx=>∃k:Nat,k<=l.length/\g=l.length - k/\X=.int .i64 k/\Hid (c=mF (l.drop k) (m.drop k))/\∃n,wx=w.drewN n);case atStart=>exact⟨0,by omega,rfl,rfl,K,0,rfl⟩
  case round=>
   obtain⟨k,hk,rfl,rfl,f,n,rfl⟩:=hrel;have d:=q.u;by_cases r:k<l.length
   .have e1:decide ((k:Int)<(l.length:Int))=true:=aj_;have h:k<m.length:=by omega
    have hfin:=f.u;rw[Po l m k r h]at hfin;obtain⟨g1,o1,f1,⟨_,_,_⟩,D⟩:=i.u k r;obtain⟨g2,o2,f2,⟨_,_,_⟩,E⟩:=j.u k h;subst f1 f2;have s:=D 0 (by decide);have t:=D 1 (by decide);have v:=D 2 (by decide);have z:=E 0 (by decide);have A:=E 1 (by decide);have B:=E 2 (by decide);simp[gG]at s t v z A B;clear D E i j f K q;generalize l[k]=x at *;generalize m[k]=y at *;obtain⟨xn,xs,xv⟩:=x;obtain⟨yn,ys,yv⟩:=y;simp only at s t v z A B hfin;by_cases L:xn=yn
    .subst L;by_cases N:xs=ys
     .subst N;by_cases O:xv=yv
      .subst O;simp only[ajO,ja]at hfin;have P:=Y hfin;clear hfin;go_wp2_with fail;go_quiet(fail);go_wp2_with fail;go_roundg (l.length - (k+1));case measure=>omega
       case rel=>exact⟨k+1,by omega,rfl,by simp,P,n+nq,by first|rfl|rw[uO]⟩
      have a:c=false:=by rw[hfin];simp[O]
      have C:=aj7 O;clear hfin;subst a;go_wp2_with fail;go_quiet(fail);go_wp2_with fail;go_ret;exact⟨rfl,n+nq,by first|rfl|rw[uO]⟩
     have a:c=false:=by rw[hfin];simp[N]
     have C:=aj7 N;clear hfin;subst a;go_wp2_with fail;go_quiet(fail);go_wp2_with fail;go_ret;exact⟨rfl,n+nq,by first|rfl|rw[uO]⟩
    have a:c=false:=by rw[hfin];simp[L]
    have C:=aj7 L;clear hfin;subst a;go_wp2_with fail;go_quiet(fail);go_wp2_with fail;go_ret;exact⟨rfl,n+nq,by first|rfl|rw[uO]⟩
   have e1:decide ((k:Int)<(l.length:Int))=false:=aj9;have a0:decide ((k:Int)<(m.length:Int))=false:=aj9;have hfin:=f.u;rw[iF (by omega:l.length<=k),iF (by omega:m.length<=k)]at hfin;have a:c=true:=hfin;clear i j f K hfin;subst a;go_wp2_with fail;go_ret;exact⟨rfl,n,rfl⟩
 have e0:((l.length:Int) !=(m.length:Int))=true:=by simp;omega
 have a:c=false:=by rw[b];exact IJ d
 clear b;subst a;go_enter func213,ntmps213;go_wp2_with fail;go_ret;exact⟨rfl,0,rfl⟩
def ad2{v g z h:Nat}{r s:Value}(x y:Ev)(i:ij v z w r x.f)(j:ij g h w s y.f):
 Calls prog 173 #[.agg #[.int .i64 x.kind,.string ⟨x.B.toArray⟩,.string ⟨x.space.toArray⟩,.string ⟨x.val.toArray⟩,r],.agg #[.int .i64 y.kind,.string ⟨y.B.toArray⟩,.string ⟨y.space.toArray⟩,.string ⟨y.val.toArray⟩,s]] w λe w' =>e=.returned (.bool (uM x y))/\Below w.heap.size w w' :=by
 have HA:=Y λ(W:World) (t:Below w.heap.size w W)=>ad1 (i.below t) (j.below t);obtain⟨H,I,rfl,-⟩:=i.form;obtain⟨K,L,rfl,-⟩:=j.form;clear i j;obtain⟨c,a⟩:=aj8 (uM x y);rw[<-a];unfold uM at a;obtain⟨k,l,m,n,A⟩:=x;obtain⟨B,C,D,E,F⟩:=y;dsimp only at a HA⊢;generalize mF A F=G at *;by_cases d:k=B;focus
  subst d;by_cases o:l=C;focus
   subst o;by_cases p:m=D;focus
    subst p;by_cases q:n=E
    .subst q;have b:c=G:=by rw[a];simp
     clear a;subst b;have N:(k==k)=true:=by simp
     have O:(l==l)=true:=by simp
     have P:(m==m)=true:=by simp
     have Q:(n==n)=true:=by simp
     go_enter func173,ntmps173;go_wp2_with(go_at_call 213;go_call(HA.u _ (xM _ _ _))as e w' ⟨rfl,nq,rfl⟩);go_ret;exact⟨rfl,IL _ _ _ _⟩
    have b:c=false:=by rw[a];simp[q]
    have f:=aj7 q
   rotate_left;focus
    have b:c=false:=by rw[a];simp[p]
    have f:=aj7 p
  rotate_left 2;focus
   have b:c=false:=by rw[a];simp[o]
   have f:=aj7 o
 rotate_left 3;focus
  have b:c=false:=by rw[a];simp[d]
  have f:=aj7 d
 all_goals
  clear a HA;subst b;go_enter func173,ntmps173;go_wp2_with fail;go_ret;exact⟨rfl,xM _ _ _⟩
def ad3{v1 v2:Value}{l m:List Ev}{lo X hi a0:Nat}(T:fL lo hi w v1 l)(W:fL X a0 w v2 m):
 Calls prog 119 #[v1,v2] w λe w' =>e=.returned (.bool (lZ l m))/\Below w.heap.size w w' :=by
 have hl:=T.len;have a6:=W.len;obtain⟨a1,c1,h,-⟩:=T.form;obtain⟨a2,c2,i,-⟩:=W.form;subst h i;have q:=Y T;have r:=Y W;obtain⟨j,b⟩:=aj8 (lZ l m);rw[<-b];clear T W;by_cases d:l.length=m.length
 .have e0:((l.length:Int) !=(m.length:Int))=false:=by simp[d]
  have HF:=Y (show j=lZ (l.drop 0) (m.drop 0)from b);have O:=Y d;clear b d;go_enter func119,ntmps119;go_wp2_with fail;go_loopg [5] l.length (λg s5 wx=>∃k:Nat,k<=l.length/\g=l.length - k/\s5=.int .i64 k/\Hid (j=lZ (l.drop k) (m.drop k))/\Hid (Below w.heap.size w wx));case atStart=>exact⟨0,by omega,rfl,rfl,HF,Y (Below.refl _ _)⟩
  case round=>
   obtain⟨k,hk,rfl,rfl,o,c⟩:=hrel;have d:=O.u;by_cases P:k<l.length
   .have e1:decide ((k:Int)<(l.length:Int))=true:=aj_;have p:k<m.length:=by omega
    have s:(k:Int)<(l.length:Int):=by omega
    have t:(k:Int)<(m.length:Int):=by omega
    have hfin:=o.u;rw[Pp l m k P p]at hfin;have Q:=c.u.size;obtain⟨b1,d1,h,s⟩:=(q.u.below c.u).form;obtain⟨b2,d2,i,t⟩:=(r.u.below c.u).form;injection h with h _ a3;injection i with i _ a4;subst h i a3 a4;obtain⟨g1,o1,a7,f1,a8,K,r1⟩:=s k P;obtain⟨g2,o2,a9,f2,aa,L,r2⟩:=t k p;subst f1 f2;have v:=K 0 (by decide);have z:=K 1 (by decide);have A:=K 2 (by decide);have B:=K 3 (by decide);have C:=K 4 (by decide);have D:=L 0 (by decide);have E:=L 1 (by decide);have F:=L 2 (by decide);have G:=L 3 (by decide);have H:=L 4 (by decide);simp[fP]at v z A B C D E F G H;have N:=Y λn=>ad2 l[k] m[k] (r1.drewN n) (r2.drewN n);obtain⟨ab,ad,R,-⟩:=r1.form;obtain⟨ae,af,S,-⟩:=r2.form;subst R S;clear K L s t q r o HF O r1 r2;generalize l[k]=x at *;generalize m[k]=y at *;cases f:uM x y with
    |false=>
     rw[f,iL]at hfin;rw[f]at N;subst hfin;clear f;go_wp2_with fail;go_region_with (go_at_call 173;go_call(N.u 1)as e w2 ⟨rfl,a⟩;have HN:=Y (c.u.trans (Below.mono (show Below wr.heap.size wr w2 from⟨a.os,a.tape,a.output,a.size,a.block⟩) Q));clear a N c v z A B C D E F G H);all_goals
      go_wp2;go_ret;exact⟨rfl,HN.u⟩
    |true=>
     rw[f,ja]at hfin;rw[f]at N;have a5:=Y hfin;clear f hfin d;go_wp2_with fail;go_region_with (go_at_call 173;go_call(N.u 1)as e w2 ⟨rfl,a⟩;have HN:=Y (c.u.trans (Below.mono (show Below wr.heap.size wr w2 from⟨a.os,a.tape,a.output,a.size,a.block⟩) Q));clear a N c v z A B C D E F G H);all_goals
      go_wp2;go_roundg (l.length - (k+1));case measure=>omega
      case rel=>exact⟨k+1,by omega,rfl,by simp,a5,HN⟩
   have e1:decide ((k:Int)<(l.length:Int))=false:=aj9;have ag:decide ((k:Int)<(m.length:Int))=false:=aj9;have hfin:=o.u;rw[iF (by omega:l.length<=k),iF (by omega:m.length<=k)]at hfin;have I:j=true:=hfin;clear q r o HF hfin;subst I;go_wp2_with fail;go_ret;exact⟨rfl,c.u⟩
 have e0:((l.length:Int) !=(m.length:Int))=true:=by simp;omega
 have I:j=false:=by rw[b];exact IK d
 clear b;subst I;go_enter func119,ntmps119;go_wp2_with fail;go_ret;exact⟨rfl,Below.refl _ _⟩
