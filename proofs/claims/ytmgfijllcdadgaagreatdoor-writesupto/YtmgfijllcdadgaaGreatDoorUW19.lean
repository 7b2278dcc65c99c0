import Derived.Test.YtmgfijllcdadgaaGreatDoorUW14
import Derived.Test.YtmgfijllcdadgaaGreatDoorUW15
import Derived.Test.YtmgfijllcdadgaaGreatDoorUW16
set_option linter.all false
set_option maxHeartbeats 8000000
set_option maxRecDepth 100000
namespace Go.Proofs.YtmgfijllcdadgaaGreatDoor
namespace V
open Go.RowKit
open Go.Proofs.Tryz
open Rf
open Mk (U Ev aI)
section
variable {f:Nat}{r:R}{t nm:U}{c:Int}
def aao(h:¬r.A<r.s.length):jF nm (f+1) r t c=({r with stop:=1},false):=by
 rw[jF,M h]
def aap(h:r.A+1=r.s.length)(a:r.E r.A=63):jF nm (f+1) r t c=({r with A:=r.A+1,stop:=1},false):=by
 rw[jF,J,J<|by simp[h,a]]
def aaq(h:r.A+1<r.s.length)(a:r.E r.A=63)(b:r.E (r.A+1)=62):jF nm (f+1) r t c=(Rf.gS {r with A:=r.A+2} ⟨5,nm,[],t,[]⟩,true):=by
 rw[jF,J,M<|by simp;omega,J<|by simp[a,b]]
def aar(h:r.A+1<r.s.length)(a:r.E r.A=63)(b:r.E (r.A+1)≠62)(d:c=r.S):jF nm (f+1) r t c=(mO r (r.A+1),false):=by
 rw[jF,J,M<|by simp;omega,M<|by simp[b],J<|by simp[a,d]]
def aas(h:r.A<r.s.length)(a:r.E r.A≠63)(b:c=r.S):jF nm (f+1) r t c=(mO r r.A,false):=by
 rw[jF,J h,M<|by simp[a],M<|by simp[a],M<|by simp[a],J<|by simp[b]]
def Oh(h:r.A<r.s.length)(a:r.E r.A≠63\/(r.A+1<r.s.length/\r.E (r.A+1)≠62))(b:c≠r.S):jF nm (f+1) r t c=if(bF r).2.2 then jF nm f (bF r).1 (t++(bF r).2.1) (c+1)else((bF r).1,false):=by
 rw[jF,J h];obtain a|⟨a,d⟩:=a
 .rw[M<|by simp[a],M<|by simp[a],M<|by simp[a],M<|by simpa using b]
 rw[M<|by simp;omega,M<|by simp[d],M<|by simp[b],M<|by simpa using b]
end
section
variable {w w' :World}{b:Nat}{s:R}{L:bA}
def aat(nm:U)(h:bD w b s L)(hl:iW s)(hev:s.y.length<=4*s.A+100)(ad:s.s.length<=100000000):Calls prog 153 #[.pointer (some ⟨b,0,none⟩),.string ⟨nm.toArray⟩] w (qR w b s L (jF nm (s.s.length+1) s [] 0)):=by
 have HM:=Y h;have HL:=Y hl;have a1:=Kp.refl hl.A;obtain⟨a7,P⟩:=aj8 (jF nm (s.s.length+1) s [] 0);rw[<-P];have ae:=h.lt;have E:=Y P;clear h P hl;go_enter func153,ntmps153;go_wp2_with fail;go_loopg [5,6] (s.s.length+1) λg s4 s5 wx=>∃(r:R) (t:U) (c:Int) (L1:bA),s4=.string ⟨t.toArray⟩/\s5=.int .i64 c/\0<=c/\c<=r.S/\a7=jF nm g r t c/\s.s.length - r.A<g/\Kp s r/\t.length<=r.A/\bL w b (cO s L) wx r L1;case atStart=>exact⟨s,[],0,L,rfl,rfl,by omega,HL.u.t0,E.u,by omega,a1,by simp,HM.u.start⟩
 case round=>
  obtain⟨r,t,c,L1,rfl,rfl,o,p,hfin,hg,l,q,hm⟩:=hrel;have Q:=l.ok HL.u;obtain⟨f,rfl⟩:∃f,gk=f+1:=⟨gk - 1,by omega⟩;have h1:=Q.len;have h2:=Q.A;have A:r.s.length<=100000000:=by rwa[l.s]
  have S:=Y (pu hm.X Q);have B:=Y hm;have H:=Y Q;have d:r.s.length - r.A<f+1:=by rwa[l.s]
  have a2:=Y l;have j:r.y.length<=1000000000:=by
   have:=l.ev;have:=l.len;omega
  clear hm Q hg HM E a1;by_cases O:r.A<r.s.length;focus
   rw[show b_ r=(r,false) by simp[b_,O]]at S;obtain⟨y,I,af,hy⟩:=gP r r.A O;have ag:(r.A:Int)<(r.s.length:Int):=by omega
   by_cases h4:(y.toNat:Int)=63;focus
    have e1:=aka h4;by_cases h6:r.A+1<r.s.length;focus
     obtain⟨y2,F,ab,a0⟩:=gP r (r.A+1) h6;have ah:(r.A:Int)+1<(r.s.length:Int):=by omega
     have ai:((r.A:Int)+1).toNat=r.A+1:=by omega
     have eA:((r.A:Int)+1==(r.s.length:Int))=false:=by simp;omega
     by_cases h7:(y2.toNat:Int)=62
     .have e3:=aka h7;rw[aaq h6 (by rwa[I]) (by rwa[F])]at hfin;have E:=Y hfin;have HT:=Y λ(W:World) (L' :bA) (hW:bD W b {r with A:=r.A+2} L')=>vN hW ⟨5,nm,[],t,[]⟩ none 0 0 (qo ⟨rfl,rfl,rfl⟩) (λk hk=>by cases hk) j;clear hfin I hy l j d q o p A F a0 h4 h7;go_wp2_with(go_at_call 105;go_call S.u as e w1 ⟨rfl,L2,a⟩;have i:=Y (B.u.call a);obtain⟨m,G,x⟩:=a.X.zzv;clear a;unfold aR at m);go_quiet(fail);go_wp2;go_quiet(fail);go_wp2;go_quiet(fail);go_wp2_with(go_at_call 152;go_call(HT.u _ _ ((i.u.drewN _).store 5 _ {r with A:=r.A+2} (by simp[aR]) rfl rfl rfl).X)as e w3 ⟨rfl,T,v⟩);go_ret;rw[E.u];exact⟨rfl,T,((i.u.drewN _).store 5 _ {r with A:=r.A+2} (by simp[aR]) rfl rfl rfl).call v⟩
     have e3:=aj7 h7;by_cases C:c=r.S
     .rw[aar h6 (by rwa[I]) (by rwa[F]) C]at hfin;have e2:=aka C;have E:=Y hfin;have HH:=Y h6;clear hfin I hy l j d q o p A F a0 h4 h7 C;go_wp2_with(go_at_call 105;go_call S.u as e w1 ⟨rfl,L2,a⟩;have i:=Y (B.u.call a);obtain⟨m,G,x⟩:=a.X.zzv;clear a;unfold aR at m);go_quiet(fail);go_wp2;go_quiet(fail);go_wp2;go_quiet(fail);go_wp2_with(go_at_call 154;go_call(Bm (i.u.drewN _).X H.u (r.A+1) HH.u)as e w2 ⟨rfl,T,v⟩);go_ret;rw[E.u];exact⟨rfl,T,(i.u.drewN _).call v⟩
     rw[Oh O (.inr ⟨h6,by rwa[F]⟩) C]at hfin;have e2:=aj7 C;have z:=oC O;have HC:=Y λ(W:World) (L' :bA) (hW:bD W b r L')=>zi hW H.u O;generalize X:bF r=ch at *;obtain⟨r3,t3,o3⟩:=ch;cases o3
     .simp only[cK,cE]at hfin;have E:=Y hfin;clear hfin I hy l j d q o p A h4 C z X F a0 h7;go_wp2_with(go_at_call 105;go_call S.u as e w1 ⟨rfl,L2,a⟩;have i:=Y (B.u.call a);obtain⟨m,G,x⟩:=a.X.zzv;clear a;unfold aR at m);go_quiet(fail);go_wp2;go_quiet(fail);go_wp2;go_quiet(fail);go_wp2_with(go_at_call 155;go_call(HC.u _ _ (i.u.drewN _).X)as e w2 ⟨rfl,T,v⟩);go_ret;rw[E.u];exact⟨rfl,T,(i.u.drewN _).call v⟩
     simp only[bY]at hfin;obtain⟨k,K,n,N,D⟩:=z.2 rfl;have a3:=xA t t3;have a4:t.length<=100000000:=by omega
     have a8:t3.length<=100000000:=by have:=D;simp at this;omega
     have HZ:=Y (ajN hfin (ajN z.1 (ajN K (ajN n (ajN N (ajN D (ajN d (ajN q (ajN o (ajN p C))))))))));have a5:wrap64 (c+1)=c+1:=by
      have:=H.u.t1;unfold wrap64;omega
     clear hfin I hy l j d q o p A h4 C z X K n N D F a0 h7;go_wp2_with(go_at_call 105;go_call S.u as e w1 ⟨rfl,L2,a⟩;have i:=Y (B.u.call a);obtain⟨m,G,x⟩:=a.X.zzv;clear a;unfold aR at m);go_quiet(fail);go_wp2;go_quiet(fail);go_wp2
    rotate_left
    .have eA:((r.A:Int)+1==(r.s.length:Int))=true:=by simp;omega
     rw[aap (by omega) (by rwa[I])]at hfin;have E:=Y hfin;clear hfin I hy l j d q o p A h4;go_wp2_with(go_at_call 105;go_call S.u as e w1 ⟨rfl,L2,a⟩;have i:=Y (B.u.call a);obtain⟨m,G,x⟩:=a.X.zzv;clear a;unfold aR at m);go_quiet(fail);go_wp2;go_quiet(fail);go_wp2;go_ret;rw[E.u];exact⟨rfl,L2,((i.u.drewN _).store 5 _ {r with A:=r.A+1} (by simp[aR]) rfl rfl rfl).store 6 _ {r with A:=r.A+1,stop:=1} rfl rfl rfl rfl⟩
   rotate_left;focus
    have e1:=aj7 h4;by_cases C:c=r.S
    .rw[aas O (by rwa[I]) C]at hfin;have e2:=aka C;have E:=Y hfin;have HH:=Y O;clear hfin I hy l j d q o p A h4 C;go_wp2_with(go_at_call 105;go_call S.u as e w1 ⟨rfl,L2,a⟩;have i:=Y (B.u.call a);obtain⟨m,G,x⟩:=a.X.zzv;clear a;unfold aR at m);go_quiet(fail);go_wp2_with(go_at_call 154;go_call(Bm (i.u.drewN _).X H.u r.A HH.u)as e w2 ⟨rfl,T,v⟩);go_ret;rw[E.u];exact⟨rfl,T,(i.u.drewN _).call v⟩
    rw[Oh O (.inl<|by rwa[I]) C]at hfin;have e2:=aj7 C;have z:=oC O;have HC:=Y λ(W:World) (L' :bA) (hW:bD W b r L')=>zi hW H.u O;generalize X:bF r=ch at *;obtain⟨r3,t3,o3⟩:=ch;cases o3
    .simp only[cK,cE]at hfin;have E:=Y hfin;clear hfin I hy l j d q o p A h4 C z X;go_wp2_with(go_at_call 105;go_call S.u as e w1 ⟨rfl,L2,a⟩;have i:=Y (B.u.call a);obtain⟨m,G,x⟩:=a.X.zzv;clear a;unfold aR at m);go_quiet(fail);go_wp2_with(go_at_call 155;go_call(HC.u _ _ (i.u.drewN _).X)as e w2 ⟨rfl,T,v⟩);go_ret;rw[E.u];exact⟨rfl,T,(i.u.drewN _).call v⟩
    simp only[bY]at hfin;obtain⟨k,K,n,N,D⟩:=z.2 rfl;have a3:=xA t t3;have a4:t.length<=100000000:=by omega
    have a8:t3.length<=100000000:=by have:=D;simp at this;omega
    have HZ:=Y (ajN hfin (ajN z.1 (ajN K (ajN n (ajN N (ajN D (ajN d (ajN q (ajN o (ajN p C))))))))));have a5:wrap64 (c+1)=c+1:=by
     have:=H.u.t1;unfold wrap64;omega
    clear hfin I hy l j d q o p A h4 C z X K n N D;go_wp2_with(go_at_call 105;go_call S.u as e w1 ⟨rfl,L2,a⟩;have i:=Y (B.u.call a);obtain⟨m,G,x⟩:=a.X.zzv;clear a;unfold aR at m)
  rotate_left 2
  .rw[show b_ r=({r with stop:=1},true) by simp[b_,O]]at S;rw[aao O]at hfin;have E:=Y hfin;clear hfin l j d q o p A;go_wp2_with(go_at_call 105;go_call S.u as e w1 ⟨rfl,L2,a⟩);go_ret;rw[E.u];exact⟨rfl,L2,B.u.call a⟩
  all_goals
   go_quiet(fail);go_wp2_with(go_at_call 155;go_call(HC.u _ _ (i.u.drewN _).X)as e w2 ⟨rfl,T,v⟩;have a9:=Y ((i.u.drewN _).call v);clear v);obtain⟨hfin,z,K,n,N,D,d,q,o,p,C⟩:=HZ.u;have a6:r.s=s.s:=a2.u.s;have aa:r3.S=r.S:=by rw[n]
   go_roundg f;case measure=>omega
   case rel=>exact⟨r3,t++t3,c+1,T,rfl,by rw[a5],by omega,by rw[aa];omega,hfin,by rw[n,<-a6];simp;omega,a2.u.trans z,by rw[n];simp;omega,a9.u⟩
end
def aau:(List.range 256).all (λn=>bits .or .u8 (n:Int) 32==(((UInt8.ofNat n)|||32).toNat:Int))=true:=by decide+kernel
def aav(x:UInt8):bits .or .u8 (x.toNat:Int) 32=((x|||32).toNat:Int):=by
 have h:=List.all_eq_true.1 aau x.toNat (List.mem_range.2 x.toNat_lt);have a:UInt8.ofNat x.toNat=x:=UInt8.ofNat_toNat;rw[a]at h;simpa using h
def Hv(x:UInt8)(n:Nat)(c:n<256):((x.toNat:Int) !=(n:Int))= !(x==UInt8.ofNat n):=by
 rw[kF];simp;constructor
 .intro h a;subst a;apply h;simp;omega
 intro h a;apply h;have b:x.toNat=n:=by omega
 rw[<-b];exact UInt8.ofNat_toNat.symm
def aaw(w:World)(a b:Nat):(w.drewN a).drewN b=w.drewN (a+b):=by simp[World.drewN,AL]
theorem aax(a b c:UInt8):Rf.jg [a,b,c]=((a|||32==120)&&(b|||32==109)&&(c|||32==108)):=rfl
def Dx(l:U)(B:l.length<=100000000)(w:World):Calls prog 150 #[.string ⟨l.toArray⟩] w λe w' =>e=.returned (.bool (Rf.jg l))/\∃m,w' =w.drewN m:=by
 by_cases v:l.length=3
 .obtain⟨a,b,c,rfl⟩:∃a b c,l=[a,b,c]:=by
   match l,v with
   |[a,b,c],_=>exact⟨a,b,c,rfl⟩
  rw[aax];obtain⟨o,d⟩:=aj8 (((a|||32==120)&&(b|||32==109)&&(c|||32==108)));rw[<-d];have r:=Y d;clear d v B;go_enter func150,ntmps150;go_wp2_with fail;go_loopg [3] 3 λg C D=>∃(i m:Nat),i<=3/\g=3 - i/\C=.int .i64 i/\D=w.drewN m/\(0<i->(a|||32==120)=true)/\(1<i->(b|||32==109)=true)/\(2<i->(c|||32==108)=true);case atStart=>exact⟨0,0,by omega,rfl,rfl,rfl,λh=>by omega,λh=>by omega,λh=>by omega⟩
  case round=>
   obtain⟨i,m,S,rfl,rfl,rfl,p,s,y⟩:=hrel;by_cases E:i<3
   .obtain⟨x,k,hx,F,G,H,f,q⟩:∃(x:UInt8) (k:Nat),[a,b,c][i]?=some x/\k<256/\(∀h,(ByteArray.mk [a,b,c].toArray)[i]'h=x)/\(∀h,(ByteArray.mk #[120,109,108])[i]'h=UInt8.ofNat k)/\((x|||32==UInt8.ofNat k)=false->o=false)/\((x|||32==UInt8.ofNat k)=true->(0<i+1->(a|||32==120)=true)/\(1<i+1->(b|||32==109)=true)/\(2<i+1->(c|||32==108)=true)):=by
     have:i=0\/i=1\/i=2:=by omega
     obtain rfl|rfl|rfl:=this
     .exact⟨a,120,rfl,by omega,λh=>rfl,λh=>rfl,λh=>by rw[r.u];have:(a|||32==120)=false:=h;simp[this],λh=>⟨λ_=>h,λh=>by omega,λh=>by omega⟩⟩
     .exact⟨b,109,rfl,by omega,λh=>rfl,λh=>rfl,λh=>by rw[r.u];have:(b|||32==109)=false:=h;simp[this],λh=>⟨λ_=>p<|by omega,λ_=>h,λh=>by omega⟩⟩
     exact⟨c,108,rfl,by omega,λh=>rfl,λh=>rfl,λh=>by rw[r.u];have:(c|||32==108)=false:=h;simp[this],λh=>⟨λ_=>p<|by omega,λ_=>s<|by omega,λ_=>h⟩⟩
    have z:decide ((i:Int)<3)=true:=aj_;have I:(i:Int)<3:=by omega
    have K:=aav x;have n:=Hv (x|||32) k F;have L:((UInt8.ofNat k).toNat:Int)=(k:Int):=by simp;omega
    have A:=Y (ajN f q);clear p s y f q hx;cases t:(x|||32==UInt8.ofNat k)
    .rw[t]at n;have j:=Y (A.u.1 t);have N:(((x.toNat|||32:Nat):Int) !=(k:Int) % 256)=true:=by
      rw[show(k:Int) % 256=(k:Int) by omega];rwa[UInt8.toNat_or]at n
     clear n;go_wp2_with fail;go_quiet(fail);go_wp2;go_ret;rw[j.u];exact⟨rfl,_,aaw _ _ _⟩
    rw[t]at n;have N:(((x.toNat|||32:Nat):Int) !=(k:Int) % 256)=false:=by
     rw[show(k:Int) % 256=(k:Int) by omega];rwa[UInt8.toNat_or]at n
    clear n;go_wp2_with fail;go_quiet(fail);go_wp2;obtain⟨O,P,Q⟩:=A.u.2 t;go_roundg (3 - (i+1));case measure=>omega
    case rel=>exact⟨i+1,_,by omega,rfl,by simp,rfl,O,P,Q⟩
   have z:decide ((i:Int)<3)=false:=aj9;have j:=Y (show o=true by rw[r.u,p<|by omega,s<|by omega,y<|by omega];rfl);clear p s y;go_wp2;go_ret;rw[j.u];exact⟨rfl,_,rfl⟩
 have R:Rf.jg l=false:=by
  match l,v with
  |[],_=>rfl
  |[_],_=>rfl
  |[_,_],_=>rfl
  |[_,_,_],h=>exact aj6 rfl h
  |_::_::_::_::_,_=>rfl
 rw[R];have z:((l.length:Int) !=3)=true:=by simp;omega
 go_enter func150,ntmps150;go_wp2;go_ret;exact⟨rfl,0,rfl⟩
def aay(l:U)(z:l.length<=100000000)(w:World):Calls prog 151 #[.string ⟨l.toArray⟩] w λe w' =>e=.returned (.bool (Rf.cW l))/\w' =w:=by
 obtain⟨j,b⟩:=aj8 (Rf.cW l);rw[<-b];have c:=Y b;clear b;go_enter func151,ntmps151;go_wp2_with fail;go_loopg [3] l.length (λg q r=>r=w/\∃i:Nat,i<=l.length/\g=l.length - i/\q=.int .i64 i/\j=Rf.cW (l.drop i));case atStart=>exact⟨rfl,0,by omega,rfl,rfl,c.u⟩
 case round=>
  obtain⟨n,i,A,rfl,rfl,a⟩:=hrel;obtain rfl:=n.symm;clear c;by_cases p:i<l.length
  .have s:decide ((i:Int)<(l.length:Int))=true:=aj_;have t:(i:Int)<(l.length:Int):=by omega
   obtain⟨y,k⟩:∃y,l[i]?=some y:=⟨l[i],by simp[p]⟩;have v:∀h,(ByteArray.mk l.toArray)[i]'h=y:=λh=>by
    have:=qT l i p h;rw[this];have:=List.getElem?_eq_some_iff.1 k;exact this.2
   rw[drop_at k]at a;have d:Rf.cW (y::l.drop (i+1))=(y==58||Rf.cW (l.drop (i+1))):=rfl;rw[d]at a;have f:=Hv y 58 (by omega);cases m:(y==58)
   .rw[m]at a;simp only[ku]at a;have x:((y.toNat:Int)==58)=false:=by
     have o:(y==UInt8.ofNat 58)=false:=m;rw[o]at f;simpa using f
    have c:=Y a;clear a f d k;go_wp2;go_roundg (l.length - (i+1));case measure=>omega
    case rel=>exact⟨rfl,i+1,by omega,rfl,by simp,c.u⟩
   rw[m]at a;simp only[nP]at a;have x:((y.toNat:Int)==58)=true:=by
    have o:(y==UInt8.ofNat 58)=true:=m;rw[o]at f;simpa using f
   have c:=Y a;clear a f d k;go_wp2;go_ret;rw[c.u];exact⟨rfl,rfl⟩
  have s:decide ((i:Int)<(l.length:Int))=false:=aj9;rw[iF]at a;have c:=Y (show j=false from a);clear a;go_wp2;go_ret;rw[c.u];exact⟨rfl,rfl⟩
end V
section
open List
open Mk
def QT{a:Type}[DecidableEq a]:∀(l m:List a),l.Nodup->(∀x∈l,x∈m)->l.length<=m.length
 |[],m,_,_=>dO _
 |x::l,m,f,b=>by
  have c:=nodup_cons.1 f;have hx:=b x jU;have g:=QT l (m.erase x) c.2 λy d=>(mem_erase_of_ne λ(e:y=x)=>c.1 (e▸d)).2 (b y (iU _ d));have h:=length_erase_of_mem hx;have i:=length_pos_of_mem hx;simp only[cT];omega
def letters:List UInt8:=((List.range 58).map λ(i:Nat)=>Mk.u8 (65+(i:Int))).filter λx=>eD x.toNat
def adp:letters.length=53:=by decide
def adq:letters.Nodup:=by decide
def QU(s:Z):∀(n:Nat) (b:Int),qW s n b=[]->∀i:Nat,i<n->eD (b+i)=true->gM s (s.i++[Mk.u8 (b+i)])=true
 |0,b,_,i,c,_=>aj6 c (Nat.not_lt_zero _)
 |n+1,b,h,i,c,a=>by
  unfold qW at h;split at h
  .cases h
  rename_i g;cases i with
  |zero=>
   simp only[Int.natCast_zero,ajV]at a⊢;cases q:gM s (s.i++[Mk.u8 b])
   .exact aj6 (by rw[a,q];rfl) g
   .rfl
  |succ j=>
   have:=QU s n (b+1) h j (by omega);have e:b+1+(j:Int)=b+((j+1:Nat):Int):=by omega
   rw[e]at this;exact this a
def QV(s:Z):∀(n:Nat) (b:Int),qW s n b≠[]->∃c,b<=c/\c<b+n/\qW s n b=[Mk.u8 c]/\eD c=true/\gM s (s.i++[Mk.u8 c])=false
 |0,b,h=>aj6 rfl h
 |n+1,b,h=>by
  unfold qW at h⊢;split
  .rename_i g;simp at g;exact⟨b,by omega,by omega,rfl,g.1,g.2⟩
  rename_i g;rw[M g]at h;obtain⟨c,d,e,a⟩:=QV s n (b+1) h;exact⟨c,by omega,by omega,a⟩
def adr{s:Z}(h:s.f.length<53):qW s 58 65≠[]:=by
 intro e;have g:∀x∈letters.map λx=>s.i++[x],x∈s.f.map (·.B):=by
  intro y j;obtain⟨x,hx,rfl⟩:=mem_map.1 j;unfold letters at hx;obtain⟨c,b⟩:=mem_filter.1 hx;obtain⟨i,d,rfl⟩:=mem_map.1 c;have d:=mem_range.1 d;rw[iQ]at b;have:=(QU s 58 65 e) i d b;unfold gM at this;obtain⟨a,k,l⟩:=any_eq_true.1 this;exact mem_map.2 ⟨a,k,by simpa using l⟩
 have m:(letters.map λx=>s.i++[x]).Nodup:=by
  unfold List.Nodup;rw[pairwise_map];exact List.Pairwise.imp (λf e=>f<|by simpa using e) adq
 have n:=QT _ _ m g;simp only[iM,adp]at n;omega
section
variable {s:Z}
def qY(a:iR s.H=true):later s=jw s++gA s.I.reverse:=by
 have c:12<=s.H/\s.H<=19:=by unfold iR at a;simpa using a
 have b:kW s.H=false:=by unfold kW;simp;omega
 unfold later qX dD;rw[b,a,M,M,M,M,M,M,M,M,M];simp
def BR(z:Z)(b:Int)(k:12<=z.H/\z.H<=19):bU z b=dV z b:=by
 unfold bU;have e:¬z.H=3:=by omega
 have f:¬z.H=4:=by omega
 have g:¬z.H=5:=by omega
 have h:¬z.H=6:=by omega
 have i:¬z.H=8:=by omega
 have j:¬z.H=9:=by omega
 have a:¬z.H=10:=by omega
 have c:¬z.H=20:=by omega
 have d:¬z.H=21:=by omega
 simp[e,f,g,h,i,j,a,c,d]
def Jr(z:Z)(a:z.on=false):dR z 47=({z with H:=19},0):=by
 unfold dR Mk.ia Mk.gL;simp[Mk.bJ,a]
def ads(h:Wq s)(b:s.on=false)(e:s.j=0)(a:s.H=12\/s.H=13\/s.H=18):∃x l,Mk.rest s=x::l/\Nx s x l:=by
 have e0:Mk.rest s=47::([62]++gA s.I.reverse):=by
  rw[nI h,qY<|by unfold iR;simp;omega];unfold jw;rw[M,M,M,M,M];rfl
 have c:∀(z:Z),z.t=0->aZ z.rp=false->z.I=s.I->z.H=19->Mk.rest z=[62]++gA s.I.reverse:=by
  intro z i j k g;rw[mK i j,qY<|by rw[g];rfl,k];unfold jw;rw[M,M,M,M,J g]
 have f:=qg h (by omega) ((47:UInt8).toNat:Int);have d:=BR {s with A:=s.A+1,O:=false} ((47:UInt8).toNat:Int) ⟨by show 12<=s.H;omega,by show s.H<=19;omega⟩;obtain a|a|a:=a
 .refine⟨47,_,e0,jy (s1:={s with A:=s.A+1,O:=false,i:=[],G:=0,B:=s.i,H:=19}) e (by decide) (by decide) ?_ (c _ h.q h.r rfl rfl) rfl⟩;rw[f,d];unfold dV;rw[J<|by show(s.H==12)=true;rw[a];rfl];unfold Mk.iP;rw[M];exact Jr _ b
 .refine⟨47,_,e0,jy (s1:={s with A:=s.A+1,O:=false,H:=19}) e (by decide) (by decide) ?_ (c _ h.q h.r rfl rfl) rfl⟩;rw[f,d];unfold dV;rw[M<|by show ¬(s.H==12)=true;rw[a];decide,J<|by show(s.H==13)=true;rw[a];rfl];unfold Mk.gV;rw[J];exact Jr _ b
 refine⟨47,_,e0,jy (s1:={s with A:=s.A+1,O:=false,H:=19}) e (by decide) (by decide) ?_ (c _ h.q h.r rfl rfl) rfl⟩;rw[f,d];unfold dV;rw[M<|by show ¬(s.H==12)=true;rw[a];decide,M<|by show ¬(s.H==13)=true;rw[a];decide,M<|by show ¬(s.H==14)=true;rw[a];decide,M<|by show ¬(s.H==15)=true;rw[a];decide,M<|by show ¬(s.H==16)=true;rw[a];decide,J<|by show(s.H==18)=true;rw[a];rfl];exact Jr _ b
def QW(z:Z)(n m:U)(b:z.t=0)(c:aZ z.rp=false):Mk.rest {bZ z n with B:=m}=gA z.I.reverse/\(bZ z n).on=z.on:=by
 rw[sN];refine⟨?_,rfl⟩;refine(BQ _ (by exact b) (by exact c) (QO z.I.length)).trans ?_;by_cases a:z.I=[]
 .simp[a]
 simp[a]
def adt(h:Wq s)(e:s.j=0)(a:s.H=19):∃x l,Mk.rest s=x::l/\Nx s x l:=by
 have e0:Mk.rest s=62::(gA s.I.reverse):=by
  rw[nI h,qY<|by rw[a];rfl];unfold jw;rw[M,M,M,M,J a];rfl
 have d:=BR {s with A:=s.A+1,O:=false} ((62:UInt8).toNat:Int) ⟨by show 12<=s.H;omega,by show s.H<=19;omega⟩;have c:=oW {s with A:=s.A+1,O:=false};have b:=QW (bX {s with A:=s.A+1,O:=false}) s.B [] (by rw[c];exact h.q) (by rw[c];exact h.r);refine⟨62,_,e0,jy (s1:={bZ (bX {s with A:=s.A+1,O:=false}) s.B with B:=[]}) e (by decide) (by decide) ?_ ?_ ?_⟩
 .rw[(qg h (by omega) ((62:UInt8).toNat:Int)),d];unfold dV;rw[M<|by show ¬(s.H==12)=true;rw[a];decide,M<|by show ¬(s.H==13)=true;rw[a];decide,M<|by show ¬(s.H==14)=true;rw[a];decide,M<|by show ¬(s.H==15)=true;rw[a];decide,M<|by show ¬(s.H==16)=true;rw[a];decide,M<|by show ¬(s.H==18)=true;rw[a];decide];unfold Mk.jL;rw[M]
 .rw[b.1,c]
 exact b.2.trans (by rw[c])
def adu(h:Wq s)(c:s.j=0)(a:s.H=17):∃x l,Mk.rest s=x::l/\Nx s x l:=by
 have d:=h.uS a;have e0:Mk.rest s=Mk.u8 s.aj2::([47,62]++gA s.I.reverse):=by
  rw[nI h,qY<|by rw[a];rfl];unfold jw;rw[M,M,M,J a];rfl
 have b:Mk.u8 s.aj2≠10/\Mk.u8 s.aj2≠13:=by obtain e|e:=d<;>rw[e]<;>decide
 refine⟨Mk.u8 s.aj2,_,e0,jy (s1:=yA {s with A:=s.A+1,O:=false}) c b.1 b.2 ?_ ?_ rfl⟩
 .rw[(iQ)];unfold aP;simp[h.q,h.r,a,Mk.fA]
 have f:iR (yA {s with A:=s.A+1,O:=false}).H=true:=rfl;rw[mK (by exact h.q) (by exact h.r),qY f];rfl
def adv(h:Wq s)(c:s.j=0)(a:s.H=16):∃x l,Mk.rest s=x::l/\Nx s x l:=by
 have e0:Mk.rest s=39::([39,47,62]++gA s.I.reverse):=by
  rw[nI h,qY<|by rw[a];rfl];unfold jw;rw[M,M,J a];rfl
 have b:=BR {s with A:=s.A+1,O:=false} ((39:UInt8).toNat:Int) ⟨by show 12<=s.H;omega,by show s.H<=19;omega⟩;refine⟨39,_,e0,jy (s1:={s with A:=s.A+1,O:=false,aj2:=39,H:=17}) c (by decide) (by decide) ?_ ?_ rfl⟩
 .rw[(qg h (by omega) ((39:UInt8).toNat:Int)),b];simp[dV,Mk.gW,Mk.bJ,a]
 rw[mK (by exact h.q) (by exact h.r),qY rfl];rfl
def QX(z:Z):fI z 61=({z with H:=16},0):=by
 unfold fI;simp[Mk.bJ]
def adw(h:Wq s)(c:s.j=0)(a:s.H=15):∃x l,Mk.rest s=x::l/\Nx s x l:=by
 have e0:Mk.rest s=61::([39,39,47,62]++gA s.I.reverse):=by
  rw[nI h,qY<|by rw[a];rfl];unfold jw;rw[M,J a];rfl
 have b:=BR {s with A:=s.A+1,O:=false} ((61:UInt8).toNat:Int) ⟨by show 12<=s.H;omega,by show s.H<=19;omega⟩;refine⟨61,_,e0,jy (s1:={s with A:=s.A+1,O:=false,H:=16}) c (by decide) (by decide) ?_ ?_ rfl⟩
 .rw[(qg h (by omega) ((61:UInt8).toNat:Int)),b];unfold dV;rw[M<|by show ¬(s.H==12)=true;rw[a];decide,M<|by show ¬(s.H==13)=true;rw[a];decide,M<|by show ¬(s.H==14)=true;rw[a];decide,J<|by show(s.H==15)=true;rw[a];rfl];exact QX _
 rw[mK (by exact h.q) (by exact h.r),qY rfl];rfl
def adx(h:Wq s)(v:s.j=0)(a:s.H=14):∃x l,Mk.rest s=x::l/\Nx s x l:=by
 have n:=h.lN a;have y:=h.bd;have f:bI {s with A:=s.A+1,O:=false}=false:=by unfold bI;simp[a]
 have g:Mk.rest s=oJ s++([61,39,39,47,62]++gA s.I.reverse):=by
  rw[nI h,qY<|by rw[a];rfl];unfold jw;rw[J a];simp
 have w:=qg h (by omega);have i:∀b,bU {s with A:=s.A+1,O:=false} b=fU {s with A:=s.A+1,O:=false} b:=by
  intro b;rw[BR {s with A:=s.A+1,O:=false} b ⟨by show 12<=s.H;omega,by show s.H<=19;omega⟩];unfold dV;rw[M<|by show ¬(s.H==12)=true;rw[a];decide,M<|by show ¬(s.H==13)=true;rw[a];decide,J<|by show(s.H==14)=true;rw[a];rfl]
 cases m:gM s s.i
 .have e0:Mk.rest s=61::([39,39,47,62]++gA s.I.reverse):=by
   rw[g];unfold oJ;rw[m];rfl
  refine⟨61,_,e0,jy (s1:={s with A:=s.A+1,O:=false,i:=[],G:=0,attr:=s.i,H:=16}) v (by decide) (by decide) ?_ ?_ rfl⟩
  .rw[w,i];unfold fU;rw[M,M,M<|by rw[show gM {s with A:=s.A+1,O:=false} ({s with A:=s.A+1,O:=false}:Z).i=gM s s.i from rfl,m];decide];exact QX _
  rw[mK (by exact h.q) (by exact h.r),qY rfl];rfl
 obtain⟨c,z,A,o,p,j⟩:=QV s 58 65 (adr<|by omega);have e0:Mk.rest s=Mk.u8 c::([61,39,39,47,62]++gA s.I.reverse):=by
  rw[g];unfold oJ;rw[J m,o];rfl
 have d:((Mk.u8 c).toNat:Int)=c:=iQ;have k:gb {s with A:=s.A+1,O:=false} 1=true:=by
  have:=n.1 m;unfold gb;rw[f];simpa using this
 have t:Mk.u8 c≠10:=λe=>by rw[e]at d;have:(10:Int)=c:=d;omega
 have u:Mk.u8 c≠13:=λe=>by rw[e]at d;have:(13:Int)=c:=d;omega
 refine⟨Mk.u8 c,_,e0,jy (s1:={s with A:=s.A+1,O:=false,i:=s.i++[Mk.u8 c],G:=s.G+1}) v t u ?_ ?_ rfl⟩
 .rw[w,i,d];unfold fU;rw[J p];unfold Mk.mh;rw[J k,pK f,sO c<|by omega]
  rw[M (by
   show ¬(!gb _ 1&&gM s (s.i++[Mk.u8 c]))=true
   rw[j];simp)]
 rw[mK (by exact h.q) (by exact h.r),qY<|by rw[a];rfl];unfold jw;rw[J a];unfold oJ;rw[M<|by show ¬gM s (s.i++[Mk.u8 c])=true;rw[j];decide];rfl
def EG(a:s.H=20\/s.H=21)(b:s.I≠[]):later s=dD s++gA s.I.dropLast.reverse:=by
 have c:kW s.H=true:=by unfold kW;simp;exact a
 unfold later qX;rw[c];simp[b]
def QY(z:Z)(a:z.t=0)(b:aZ z.rp=false):Mk.rest (kH z)=gA z.I.dropLast.reverse/\(kH z).on=z.on:=by
 have:=QW {z with I:=z.I.dropLast} (bP z) (bZ {z with I:=z.I.dropLast} (bP z)).B a b;exact this
def ady(h:Wq s)(t:s.j=0)(a:s.H=20):∃x l,Mk.rest s=x::l/\Nx s x l:=by
 have i:=h.o1 (by omega);have v:=h.rQ a;have c:Mk.rest s=gy (bP s) s.aW++([62]++gA s.I.dropLast.reverse):=by
  rw[nI h,EG (.inl a) i];simp[dD,a]
 have u:=qg h (by omega);have d:∀b,bU {s with A:=s.A+1,O:=false} b=iC {s with A:=s.A+1,O:=false} b:=by
  intro b;unfold bU;simp[a]
 by_cases f:s.aW<(bP s).length
 .have k:s.aW.toNat<(bP s).length:=by omega
  have m:gy (bP s) s.aW=(bP s)[s.aW.toNat]::gy (bP s) (s.aW+1):=by
   unfold gy;rw[M,M,show(s.aW+1).toNat=s.aW.toNat+1 by omega];exact gB k
  have n:bP s∈s.I:=by
   unfold bP;rw[uw,rG i];exact getLast_mem i
  have j:=(h.xP _ n).1 _ (iZ k);have o:(bP s)[s.aW.toNat]≠10:=λe=>by rw[e]at j;exact aj6 j
  have p:(bP s)[s.aW.toNat]≠13:=λe=>by rw[e]at j;exact aj6 j
  refine⟨_,gy (bP s) (s.aW+1)++([62]++gA s.I.dropLast.reverse),by rw[c,m];rfl,jy (s1:={s with A:=s.A+1,O:=false,aW:=s.aW+1}) t o p ?_ ?_ rfl⟩
  .rw[u,d];unfold iC
   rw[J<|by exact f,M (by
    show ¬(((bP s).getD s.aW.toNat 0).toNat:Int)≠_
    rw[ajU,l_ k]
    simp)]
  rw[mK (by exact h.q) (by exact h.r),EG (by exact .inl a) (by exact i)];simp[dD,a];rfl
 have m:gy (bP s) s.aW=[]:=by
  unfold gy;rw[M];exact oQ (by omega)
 have g:=QY {s with A:=s.A+1,O:=false} h.q h.r;refine⟨62,gA s.I.dropLast.reverse,by rw[c,m];rfl,jy (s1:=kH {s with A:=s.A+1,O:=false}) t (by decide) (by decide) ?_ g.1 g.2⟩;rw[u,d];unfold iC;rw[M<|by exact f,M];unfold gh;rw[M,J]
def adz(h:Wq s)(e:s.j=0)(a:s.H=21):∃x l,Mk.rest s=x::l/\Nx s x l:=by
 have e0:Mk.rest s=62::gA s.I.dropLast.reverse:=by
  rw[nI h,EG (.inr a) (h.o1<|by omega)];simp[dD,a]
 have d:∀b,bU {s with A:=s.A+1,O:=false} b=gh {s with A:=s.A+1,O:=false} b:=by
  intro b;unfold bU;simp[a]
 have c:=QY {s with A:=s.A+1,O:=false} h.q h.r;refine⟨62,_,e0,jy (s1:=kH {s with A:=s.A+1,O:=false}) e (by decide) (by decide) ?_ c.1 c.2⟩;rw[(qg h<|by omega),d];unfold gh;rw[M,J]
def EH(h:W s)(i:s.on=false)(a:s.j=0):(Mk.rest s=[]/\fO s=true)\/∃d l,d≠[]/\Mk.rest s=d++l/\(aQ s d).j=0/\Mk.rest (aQ s d)=l/\(aQ s d).on=false:=by
 have one:(∃x l,Mk.rest s=x::l/\Nx s x l)->∃d l,d≠[]/\Mk.rest s=d++l/\(aQ s d).j=0/\Mk.rest (aQ s d)=l/\(aQ s d).on=false:=by
  rintro⟨x,l,e,v,w,y⟩;exact⟨[x],l,by simp,e,v,w,y.trans i⟩
 by_cases c:0<s.t
 .exact .inr (one (ac8 h a c))
 have c:s.t=0:=by have:=h.p0;omega
 cases f:aZ s.rp
 .have b:Wq s:=⟨h,c,f⟩;have z:=h.st;have p:s.H=0\/s.H=1\/s.H=2\/s.H=3\/s.H=4\/s.H=5\/s.H=6\/s.H=7\/s.H=8\/s.H=9\/s.H=10\/s.H=11\/(s.H=12\/s.H=13\/s.H=18)\/s.H=14\/s.H=15\/s.H=16\/s.H=17\/s.H=19\/s.H=20\/s.H=21:=by omega
  obtain e|e|e|e|e|e|e|e|e|e|e|e|e|e|e|e|e|e|e|e:=p
  .have g:=h.o0 e;have j:=BQ s c f (.inl e);rw[g]at j;cases o:s.over
   .right;rw[o]at j;have j:Mk.rest s=[60,97]++[47,62]:=j;have A:bI {s with A:=s.A+1,O:=false,H:=12}=false:=rfl;obtain⟨q,r,m⟩:=go_step (x:=60) (s1:={s with A:=s.A+1,O:=false,H:=3}) a (by decide) (by decide) (by unfold aP Mk.h_;simp[c,f,e,Mk.bJ])
    obtain⟨B,C,k⟩:=go_step (s:=aS s 60) (x:=97) (s1:={s with A:=s.A+1+1,O:=false,K:=q,aN:=r,j:=0,H:=12,i:=s.i++[97],G:=s.G+1}) (by rw[m]) (by decide) (by decide) (by
     rw[m]
     have hd:=h.bd
     unfold aP bU eG Mk.mg
     simp[c,f,g,o,Mk.dP,Mk.fq]
     rw[M]
     simp[Mk.bV,bI]
     rfl)
    refine⟨[60,97],[47,62],by simp,j,?_,?_,?_⟩
    .show(aS (aS s 60) 97).j=0;rw[k]
    .show Mk.rest (aS (aS s 60) 97)=_;rw[k,mK (by exact c) (by exact f),qY rfl];rw[g];rfl
    show(aS (aS s 60) 97).on=false;rwa[k]
   left;rw[o]at j;refine⟨j,?_⟩;unfold fO;rw[o,e];rfl
  .right;have g:=h.o1 (.inl e);have n:s.I.reverse=bP s::s.I.dropLast.reverse:=by
    unfold bP;rw[uw,rG g];have:=tF g;conv=>lhs;rw[<-this]
    simp
   have t:Mk.rest s=[60,47]++(bP s++([62]++gA s.I.dropLast.reverse)):=by
    rw[(BQ s c f (.inr e)),n];simp[gA,g]
   obtain⟨q,r,m⟩:=go_step (x:=60) (s1:={s with A:=s.A+1,O:=false,bG:=0,H:=3}) a (by decide) (by decide) (by unfold aP Mk.fw;simp[c,f,e])
   obtain⟨B,C,k⟩:=go_step (s:=aS s 60) (x:=47) (s1:={s with A:=s.A+1+1,O:=false,bG:=0,K:=q,aN:=r,j:=0,H:=20,aW:=0}) (by rw[m]) (by decide) (by decide) (by
    rw[m]
    have u:0<s.I.length:=length_pos_iff.2 g
    unfold aP bU eG
    simp[c,f,g])
   refine⟨[60,47],_,by simp,t,?_,?_,?_⟩
   .show(aS (aS s 60) 47).j=0;rw[k]
   .show Mk.rest (aS (aS s 60) 47)=_;rw[k,mK (by exact c) (by exact f),EG (by exact .inl rfl) (by exact g)];simp[dD,gy];rfl
   show(aS (aS s 60) 47).on=false;rwa[k]
  .exact .inr (one (adj b a e))
  .exact .inr (one (ade b a e))
  .exact .inr (one (adf b a e))
  .exact .inr (one (adg b a e))
  .exact .inr (one (adk b a e))
  .exact .inr (one (adi b a e))
  .exact .inr (one (ado b i a e))
  .exact .inr (one (adl b a e))
  .exact .inr (one (adm b a e))
  .exact .inr (one (adn b a e))
  .exact .inr (one (ads b i a e))
  .exact .inr (one (adx b a e))
  .exact .inr (one (adw b a e))
  .exact .inr (one (adv b a e))
  .exact .inr (one (adu b a e))
  .exact .inr (one (adt b a e))
  .exact .inr (one (ady b a e))
  exact .inr (one (adz b a e))
 exact .inr (one (adb h a c f))
end
def QZ:∀(l r:U) (s:Z),aQ s (l++r)=aQ (aQ s l) r
 |[],r,s=>rfl
 |x::l,r,s=>QZ l r (aS s x)
def adA:∀(n:Nat) (s:Z),W s->s.on=false->s.j=0->(Mk.rest s).length<=n->
 (aQ s (Mk.rest s)).j=0/\fO (aQ s (Mk.rest s))=true/\(aQ s (Mk.rest s)).I=[]:=by
 intro n;induction n with
 |zero=>
  intro s h b e g;obtain⟨a,c⟩|⟨f,l,d,a,_⟩:=EH h b e
  .rw[a];refine⟨e,c,h.o0 ?_⟩;unfold fO at c;simpa using(Bool.and_eq_true_iff.1 c).2
  .rw[(length_eq_zero_iff.1 (Nat.le_zero.1 g))]at a;exact aj6 (append_eq_nil_iff.1 a.symm).1 d
 |succ n ih=>
  intro s h b e g;obtain⟨a,c⟩|⟨f,l,d,a,i,j,o⟩:=EH h b e
  .rw[a];refine⟨e,c,h.o0 ?_⟩;unfold fO at c;simpa using(Bool.and_eq_true_iff.1 c).2
  have k:(Mk.rest s).length=f.length+l.length:=by rw[a];simp
  have m:0<f.length:=length_pos_iff.2 d;have:=ih (aQ s f) (zL f h i) o i (by rw[j];omega);rwa[j,<-QZ,<-a]at this
def nA:List U->Nat
 |[]=>0
 |n::r=>n.length+3+nA r
def Q_:∀l:List U,(gA l).length=nA l
 |[]=>rfl
 |n::r=>by
  show([60,47]++n++[62]++gA r).length=_;simp only[bT,Q_ r,cT,fB,nA];omega
def Js:∀l r:List U,nA (l++r)=nA l+nA r
 |[],r=>by simp[nA]
 |n::l,r=>by simp only[wQ,nA,Js l r];omega
def Ra(l:List U):nA l.reverse=nA l:=by
 induction l with
 |nil=>rfl
 |cons n r ih=>rw[reverse_cons,Js,ih];simp only[nA];omega
def xR(w:U)(k:Int):(gy w k).length<=w.length:=by
 unfold gy;split
 .exact dO _
 rw[lm];omega
def adB(c l:Int):(iJ c l).length<=3:=by
 unfold iJ;repeat' split
 all_goals simp
def adC(n:U):(qf n Mk.fG).length<=5:=by
 have:∀(l:List (U×Int)),(∀q∈l,q.1.length<=5)->(qf n l).length<=5:=by
  intro l;induction l with
  |nil=>intro _;exact dO _
  |cons q r ih=>
   intro h;obtain⟨a,b⟩:=q;unfold qf;split
   .have:=h (a,b) jU;rw[lm];dsimp only at this;omega
   exact ih λq c=>h q (iU _ c)
 exact this _ (by decide)
def adD(p:Int)(n:U)(c:Int):(jP p n c).length<=5:=by
 unfold jP Mk.lC;split
 .exact adC n
 repeat' split
 all_goals simp
def Jt(s:Z):∀(n:Nat) (b:Int),(qW s n b).length<=1
 |0,b=>by simp[qW]
 |n+1,b=>by
  unfold qW;split
  .simp
  exact Jt s n _
def adE(s:Z):(jw s).length<=6:=by
 unfold jw oJ;repeat' split
 all_goals simp
 have:=Jt s 58 65;omega
def adF(s:Z):(j_ s).length<=3:=by
 unfold j_;split
 .simp
 split
 .simp
 exact cL (xR _ _)
def Ju{s:Z}(h:W s):(Mk.rest s).length<=16+nA s.I:=by
 have t:(iJ s.pc s.t).length+(jP s.rp s.rn s.rc).length<=5:=by
  by_cases f:0<s.t
  .have:=h.t f;rw[BP this.2.2.2];have:=adB s.pc s.t;simp;omega
  have f:s.t=0:=by have:=h.p0;omega
  have:=adD s.rp s.rn s.rc;rw[f];simpa[iJ]using this
 have e:=congrArg List.length (wm s);rw[bT,bT]at e;have i:=xR [93,93,62] (s.D.length:Int);have j:=xR [45,45,62] (s.D.length:Int);have o:=xR kC s.aW;have m:=xR (bP s) s.aW;have u:=adE s;have v:=adF s;have w:kC.length=6:=rfl;simp only[cT,fB]at i j;have a:s.I≠[]->nA s.I=nA s.I.dropLast+(bP s).length+3:=by
  intro b;have p:s.I=s.I.dropLast++[bP s]:=by
   rw[bP,uw,rG b];exact(tF b).symm
  have:=Js s.I.dropLast [bP s];rw[<-p]at this;rw[this];simp[nA];omega
 have n:(later s).length<=11+nA s.I:=by
  rw[later,bT,bT,Q_];by_cases k:s.H=20\/s.H=21
  .have b:=h.o1 (by omega);have l:kW s.H=true:=by unfold kW;simp;exact k
   rw[qX,l,J rfl,Ra];have:=a b;rw[M λg=>b g.1,dD,M,M,M,M,M,M,M];split
   .simp only[bT,cT,fB];omega
   rw[J];simp only[cT,fB];omega
  have l:kW s.H=false:=by unfold kW;simp;omega
  rw[qX,l,M,Ra];have c:(dD s).length<=9/\(s.H≠6->(dD s).length<=6):=by
   unfold dD;split
   .simp
   split
   .simp
   split
   .simp
   split
   .simp
   split
   .constructor<;>intros<;>omega
   split
   .rename_i g;simp only[bT,cT,fB];constructor
    .omega
    intro q;exact aj6 g q
   split
   .constructor<;>intros<;>omega
   rw[M,M];split<;>constructor<;>intros<;>omega
  by_cases r:s.H=6
  .have b:=h.o1 (by omega);rw[M λg=>b g.1];simp only[fB];omega
  have:=c.2 r;by_cases d:s.I=[]/\s.over=false/\iR s.H=false
  .rw[J d];simp only[cT,fB];omega
  rw[M d];simp only[fB];omega
 omega
end
namespace Q
open Rf
open Mk
def FH:∀l:List U,LA l=((16+nA l:Nat):Int)
 |[]=>rfl
 |x::l=>by
  unfold LA nA;rw[FH l];omega
def CJ:∀(l r:U) (s:Z),aQ s (l++r)=aQ (aQ s l) r
 |[],r,s=>rfl
 |y::l,r,s=>CJ l r _
def Am{a b c:Int}{on:Bool}(i:1<=a)(j:8<=c)(k:0<=b)(s:U)(f:(aQ (bB a b c on) s).j=0):
 (fN a b c on s).I=(aQ (bB a b c on) s).I/\(fN a b c on s).whole=Mk.fO (aQ (bB a b c on) s):=by
 obtain⟨_,q,_⟩|⟨n,l,p,m,r,_⟩:=yu (on:=on) i j k s
 .rw[q];exact⟨rfl,rfl⟩
 exfalso;apply m;have e:s.take (n+1)=s.take n++[s.getD n 0]:=by
  rw[qM,ajU,l_ l];rfl
 have g:=CJ (s.take n) [s.getD n 0] (bB a b c on);rw[<-e]at g;have o:aQ (bB a b c on) (s.take (n+1))=Mk.aS (aQ (bB a b c on) (s.take n)) (s.getD n 0):=g;rw[<-o];apply lJ;intro d;have h:=CJ (s.take (n+1)) (s.drop (n+1)) (bB a b c on);rw[ol]at h;rw[h,wN _ _ d]at f;exact d f
def UQ{b a c:Int}(d:1<=b)(e:8<=c)(g:0<=a)(j:a<=32)(s:U)(f:(aQ (bB b a c false) s).j=0):
 vK b a c false s (Mk.rest (aQ (bB b a c false) s))=true:=by
 have i:W (aQ (bB b a c false) s):=zL _ (BO b a c false d e j) f;have h:=adA _ _ i (Yp _ _) f (a_ _);have k:=Ju i;rw[vK,(Am d e g s f).1,FH,M];rw[<-CJ]at h;rw[(Am d e g _ h.1).2];exact h.2.1
