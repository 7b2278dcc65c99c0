import Derived.Test.YtmgfijllcdadgaaGreatDoorUW19
set_option linter.all false
set_option maxHeartbeats 16000000
set_option maxRecDepth 100000
namespace Go.Proofs.YtmgfijllcdadgaaGreatDoor.V
open Go.RowKit
open List
open Go.Proofs.Tryz
open Rf hiding tag
open Mk (U Ev aI)
variable {i b n:Nat}{w:World}{v:Value}{a:List aI}{e:TypeId}{c:List Value}
def Hw(x:UInt8)(l:U):kS (x::l)=(if x==58 then 1 else 0)+kS l:=by
 unfold kS;rw[filter_cons];cases x==58
 .simp
 simp;omega
theorem DU(x:UInt8)(l:U)(i a:Nat):pZ (x::l) i a=pZ l (i+1) (if x==58 then i else a):=rfl
def Oi:∀(l:U) (i a:Nat),a<=i->pZ l i a<=i+l.length
 |[],i,a,h=>by simpa[pZ]using h
 |x::l,i,a,h=>by
  rw[DU];have:=Oi l (i+1) (if x==58 then i else a) (by split<;>omega);rw[cT];omega
def Oj:∀(l:U) (i a:Nat),a<=i->0<kS l->pZ l i a<i+l.length
 |[],i,a,_,h=>by simp[kS]at h
 |x::l,i,a,h,b=>by
  rw[DU];rw[Hw]at b;by_cases g:0<kS l
  .have:=Oj l (i+1) (if x==58 then i else a) (by split<;>omega) g;rw[cT];omega
  cases hx:x==58
  .rw[hx]at b;simp at b;omega
  rw[J rfl];have:∀(l:U) (i a:Nat),kS l=0->pZ l i a=a:=by
   intro l;induction l with
   |nil=>intro i a _;rfl
   |cons y l ih=>
    intro i a h;rw[Hw]at h;rw[DU];cases c:y==58
    .rw[c]at h;exact ih _ _ (by simpa using h)
    rw[c]at h;simp at h
  rw[this l _ _<|by omega];simp
def DV(l:U)(hl:l.length<=100000000)(w:World):Calls prog 159 #[.string ⟨l.toArray⟩] w λe w' =>e=.returned (.tuple #[.string ⟨(iz l).1.toArray⟩,.string ⟨(iz l).2.1.toArray⟩,.bool (iz l).2.2])/\∃n,w' =w.drewN n:=by
 obtain⟨p,k⟩:=aj8 (iz l);rw[<-k];obtain⟨N,B⟩:=aj8 (kS l);obtain⟨A,t⟩:=aj8 (pZ l 0 0);have D:A<=l.length:=by rw[t];have:=Oi l 0 0 (by omega);omega
 have c:0<N->A<l.length:=by intro g;rw[t];have:=Oj l 0 0 (by omega) (by omega);omega
 have E:N<=l.length:=by rw[B];unfold kS;exact length_filter_le _ _
 have m:=Y (show p=(if N=0 then([],l,true)else if decide (1<N)||decide (A=0)||decide (A+1=l.length)|| !Rf.fq ((l.getD (A+1) 0).toNat:Int)then([],[],false)else(l.take A,l.drop (A+1),true)) by rw[k,B,t];rfl);have F:=Y B;have HA:=Y t;clear k B t;go_enter func159,ntmps159;go_upto_block 0 with fail
 go_cut [5,6] λG H I=>I=w/\G=.int .i64 (N:Int)/\H=.int .i64 (A:Int)
 case first=>
  go_wp2_with fail;go_loopg [5,6,7] l.length (λg G H s7 I=>I=w/\∃i n a:Nat,i<=l.length/\n<=i/\a<=i/\g=l.length - i/\s7=.int .i64 i/\G=.int .i64 n/\H=.int .i64 a/\Hid (N=n+kS (l.drop i)/\A=pZ (l.drop i) i a));case atStart=>exact⟨rfl,0,0,0,by omega,by omega,by omega,rfl,rfl,rfl,rfl,⟨by rw[F.u];simp,by rw[HA.u];simp⟩⟩
  case round=>
   obtain⟨K,i,n,a,hi,hn,ha,rfl,rfl,rfl,rfl,v⟩:=hrel;obtain rfl:=K.symm;clear m F HA D c E;by_cases x:i<l.length
   .have L:decide ((i:Int)<(l.length:Int))=true:=aj_;have O:(i:Int)<(l.length:Int):=by omega
    obtain⟨y,o⟩:∃y,l[i]?=some y:=⟨l[i],by simp[x]⟩;have P:∀h,(ByteArray.mk l.toArray)[i]'h=y:=λh=>by
     have:=qT l i x h;rw[this];exact(List.getElem?_eq_some_iff.1 o).2
    have j:=v.u;rw[drop_at o,Hw,DU]at j;have r:=Hv y 58 (by omega);cases s:(y==58)
    .rw[s]at j;have Q:((y.toNat:Int)==58)=false:=by
      have R:(y==UInt8.ofNat 58)=false:=s;rw[R]at r;simpa using r
     have f:=Y j;clear j v o r s;go_wp2_with fail;go_roundg (l.length - (i+1));case measure=>omega
     case rel=>exact⟨rfl,i+1,n,a,by omega,by omega,by omega,rfl,by go_num,rfl,rfl,Y<|by have:=f.u;simpa using this⟩
    rw[s]at j;have Q:((y.toNat:Int)==58)=true:=by
     have R:(y==UInt8.ofNat 58)=true:=s;rw[R]at r;simpa using r
    have f:=Y j;clear j v o r s;go_wp2_with fail;go_roundg (l.length - (i+1));case measure=>omega
    case rel=>exact⟨rfl,i+1,n+1,i,by omega,by omega,by omega,rfl,by go_num,by go_num,rfl,Y<|by have:=f.u;simp at this;exact⟨by omega,this.2⟩⟩
   have L:decide ((i:Int)<(l.length:Int))=false:=aj9;have j:=v.u;rw[iF]at j;have f:=Y (show n=N/\a=A from⟨by have:=j.1;simp[kS]at this;omega,j.2.symm⟩);clear j v;go_wp2_with fail;go_meet
   exact⟨rfl,by rw[f.u.1],by rw[f.u.2]⟩
 case rest=>
 obtain⟨S,rfl,rfl⟩:=hcut;obtain rfl:=S.symm;clear F HA;by_cases W:N=0
 .have b:=m.u;rw[J W]at b;have e0:((N:Int)==0)=true:=by simp;omega
  have d:=Y b;clear b m c;go_wp2;go_ret3
  rw[d.u];exact⟨rfl,0,rfl⟩
 have e0:((N:Int)==0)=false:=by simp;omega
 have a0:=c (by omega);have b:=m.u;rw[M W]at b;by_cases X:1<N
 .have L:decide ((1:Int)<(N:Int))=true:=aj_;rw[nR X]at b;simp only[nP,bY]at b;have d:=Y b;clear b m c;go_wp2;go_ret3
  rw[d.u];exact⟨rfl,0,rfl⟩
 have L:decide ((1:Int)<(N:Int))=false:=aj9;rw[pV X,ku]at b;by_cases h2:A=0
 .have Q:((A:Int)==0)=true:=by simp;omega
  rw[nR h2]at b;simp only[nP,bY]at b;have d:=Y b;clear b m c;go_wp2;go_ret3
  rw[d.u];exact⟨rfl,0,rfl⟩
 have Q:((A:Int)==0)=false:=by simp;omega
 rw[pV h2,ku]at b;have a1:wrap64 ((l.length:Int) - 1)=(l.length:Int) - 1:=by unfold wrap64;omega
 by_cases x:A+1=l.length
 .have e3:((A:Int)==(l.length:Int) - 1)=true:=by simp;omega
  rw[nR x]at b;simp only[nP,bY]at b;have d:=Y b;clear b m c;go_wp2;go_ret3
  rw[d.u];exact⟨rfl,0,rfl⟩
 have e3:((A:Int)==(l.length:Int) - 1)=false:=by simp;omega
 rw[pV x,ku]at b;have z:A+1<l.length:=by omega
 obtain⟨y,o⟩:∃y,l[A+1]?=some y:=⟨l[A+1],by simp[z]⟩;have q:l.getD (A+1) 0=y:=by rw[List.getD,o];rfl
 rw[q]at b;have P:∀h,(ByteArray.mk l.toArray)[A+1]'h=y:=λh=>by
  have:=qT l (A+1) z h;rw[this];exact(List.getElem?_eq_some_iff.1 o).2
 have O:(A:Int)+1<(l.length:Int):=by omega
 have a2:((A:Int)+1).toNat=A+1:=by omega
 have a3:wrap64 ((A:Int)+1)=(A:Int)+1:=by unfold wrap64;omega
 have C:=Y λw=>ze (y.toNat:Int) w;cases h4:Rf.fq (y.toNat:Int)
 .rw[h4]at b C;have d:=Y (show p=([],[],false)from b);clear b m c o q;go_wp2_with(go_at_call 82;go_call(C.u _)as e w' ⟨rfl,T⟩;obtain rfl:=T.symm);go_ret3
  rw[d.u];exact⟨rfl,0,rfl⟩
 rw[h4]at b C;have d:=Y (show p=(l.take A,l.drop (A+1),true)from b);have a4:ByteArray.extract ⟨l.toArray⟩ 0 A=⟨(l.take A).toArray⟩:=by simpa using pE l 0 A
 have a5:ByteArray.extract ⟨l.toArray⟩ (A+1) l.length=⟨(l.drop (A+1)).toArray⟩:=by
  have:=pE l (A+1) (l.length - (A+1));rwa[show A+1+(l.length - (A+1))=l.length by omega,nZ<|by simp]at this
 clear b m c o q;go_wp2_with(go_at_call 82;go_call(C.u _)as e w' ⟨rfl,T⟩;obtain rfl:=T.symm);go_quiet(fail);go_wp2;go_ret3
 rw[d.u];exact⟨rfl,_,rfl⟩
def DW(l:U)(o:l.length<=100000000)(w:World):Calls prog 162 #[.string ⟨l.toArray⟩] w λe w' =>e=.returned (.tuple #[.string ⟨(k_ l).1.toArray⟩,.bool (k_ l).2])/\w' =w:=by
 obtain⟨h,a⟩:=aj8 (k_ l);rw[<-a];unfold k_ at a;by_cases b:l=nU;focus
  rw[J b]at a;have c:=Y a;subst b;clear a
 rotate_left;focus
  rw[M b]at a;have p:(l==[120,109,108,110,115])=false:=by rwa[d_]
  by_cases f:6<l.length;focus
   have i:decide ((6:Int)<(l.length:Int))=true:=aj_;have j:(6:Int)<=(l.length:Int):=by omega
   have k:ByteArray.extract ⟨l.toArray⟩ 0 6=⟨(l.take 6).toArray⟩:=by simpa using pE l 0 6
   have m:ByteArray.extract ⟨l.toArray⟩ 6 l.length=⟨(l.drop 6).toArray⟩:=by
    have:=pE l 6 (l.length - 6);rwa[show 6+(l.length - 6)=l.length by omega,nZ<|by simp]at this
   by_cases d:l.take 6=nU++[58];focus
    have n:(l.take 6==[120,109,108,110,115,58])=true:=by rwa[ajP]
    rw[J ⟨f,d⟩]at a;have c:=Y a;clear a d b
   rotate_left;focus
    have n:(l.take 6==[120,109,108,110,115,58])=false:=by rwa[d_]
    rw[M λg=>d g.2]at a;have c:=Y a;clear a d b
  rotate_left 2;focus
   have i:decide ((6:Int)<(l.length:Int))=false:=aj9;rw[M λg=>f g.1]at a;have c:=Y a;clear a b
 all_goals
  go_enter func162,ntmps162;go_wp2;go_ret2;rw[c.u];exact⟨rfl,rfl⟩
def beq_lit(v l:U):(v==l)=decide (v=l):=by by_cases h:v=l<;>simp[h]
def aaz(p v:U)(w:World):Calls prog 207 #[.string ⟨p.toArray⟩,.string ⟨v.toArray⟩] w λe w' =>e=.returned (.bool (uL p v))/\∃n,w' =w.drewN n:=by
 obtain⟨c,a⟩:=aj8 (uL p v);rw[<-a];have q:(v==[104,116,116,112,58,47,47,119,119,119,46,119,51,46,111,114,103,47,88,77,76,47,49,57,57,56,47,110,97,109,101,115,112,97,99,101])=decide (v=Rf.lu):=beq_lit v Rf.lu;have r:(v==[104,116,116,112,58,47,47,119,119,119,46,119,51,46,111,114,103,47,50,48,48,48,47,120,109,108,110,115,47])=decide (v=Rf.tK):=beq_lit v Rf.tK;have s:(v==[])=decide (v=[]):=beq_lit v [];have f:(p==[120,109,108,110,115])=decide (p=nU):=beq_lit p nU;have g:(p==[120,109,108])=decide (p=si):=beq_lit p si;have h:(p==[])=decide (p=[]):=beq_lit p [];have b:c=(if decide (p=nU)then false else if decide (p=si)then decide (v=Rf.lu)else if decide (p=[])then(!decide (v=Rf.lu)&& !decide (v=Rf.tK))else(!decide (v=[])&& !decide (v=Rf.lu)&& !decide (v=Rf.tK))):=by
  rw[a];unfold uL;simp
 clear a;generalize decide (v=Rf.lu)=i at *;generalize decide (v=Rf.tK)=j at *;generalize decide (v=[])=k at *;generalize decide (p=nU)=l at *;generalize decide (p=si)=m at *;generalize decide (p=[])=o at *;have d:=Y b;clear b;cases l<;>cases m<;>cases o<;>cases i<;>cases j<;>cases k;all_goals
  go_enter func207,ntmps207;go_wp2_with fail;first
   |(go_ret;rw[d.u];exact⟨rfl,0,rfl⟩)
   |(go_quiet(fail);go_wp2;go_ret;rw[d.u];exact⟨rfl,_,rfl⟩)
def Sh(l:List aI):Prop:=∀a∈l,a.B.length<=100000000
def aaA(q:w.ownsRow i 69 3 v a.length (cQ a))(t:Sh a)(p:U):
 Calls prog 206 #[v,.string ⟨p.toArray⟩] w λe w' =>e=.returned (.tuple #[.string ⟨(pR a p).1.toArray⟩,.bool (pR a p).2])/\∃n,w' =w.drewN n:=by
 have R:=sF q;have f:=Y λk F=>sD gG (λ_=>rfl) (by decide) q rfl k F;obtain⟨S,T,rfl⟩:=iE q;obtain⟨d,c⟩:=aj8 (pR a p);rw[<-c];have y:Hid (d=pR (a.drop 0) p):=c;clear q c;go_enter func206,ntmps206;go_wp2_with fail;go_loopg [6] a.length (λg K L=>∃k n:Nat,L=w.drewN n/\k<=a.length/\g=a.length - k/\K=.int .i64 k/\Hid (d=pR (a.drop k) p));case atStart=>exact⟨0,0,rfl,by omega,rfl,rfl,y⟩
 case round=>
  obtain⟨k,n,rfl,F,rfl,rfl,r⟩:=hrel;by_cases h:k<a.length
  .obtain⟨s,W,z,_,A⟩:=f.u k h;injection z with z _ B;subst z;subst B;have C:=A 0 (by decide);have D:=A 2 (by decide);simp[gG]at C D;have G:∀m,(w.drewN m).cell? ⟨s,k*3,none⟩=w.cell? ⟨s,k*3,none⟩:=λm=>by simp only[World.cell?,heap_drewN]
   have H:∀m,(w.drewN m).cell? ⟨s,k*3+2,none⟩=w.cell? ⟨s,k*3+2,none⟩:=λm=>by simp only[World.cell?,heap_drewN]
   have hd:pR (a.drop k) p=if(k_ a[k].B).2&&decide ((k_ a[k].B).1=p)then(a[k].val,true)else pR (a.drop (k+1)) p:=by
    rw[gB h];rfl
   have b:=Y (r.u.trans hd);have j:=t a[k] (iZ h);clear A f y r hd;generalize a[k]=x at *;have E:=Y λw=>DW x.B j w;generalize k_ x.B=N at *;obtain⟨O,P⟩:=N;have Q:decide ((k:Int)<(a.length:Int))=true:=aj_;cases P with
   |false=>
    simp only[iL,cK,cE]at b;go_wp2_with(go_at_call 162;go_call(E.u _)as e w' ⟨rfl,l⟩;obtain rfl:=l.symm);go_roundg (a.length - (k+1));case measure=>omega
    case rel=>exact⟨k+1,n,rfl,by omega,rfl,by go_num,b⟩
   |true=>
    cases I:(O==p)
    .have o:=akf I;simp only[o,kx,cK,cE]at b;clear o;go_wp2_with(go_at_call 162;go_call(E.u _)as e w' ⟨rfl,l⟩;obtain rfl:=l.symm);go_roundg (a.length - (k+1));case measure=>omega
     case rel=>exact⟨k+1,n,rfl,by omega,rfl,by go_num,b⟩
    have o:=ake I;simp only[o,AO,bY]at b;clear o;go_wp2_with(go_at_call 162;go_call(E.u _)as e w' ⟨rfl,l⟩;obtain rfl:=l.symm);go_ret2;exact⟨by rw[b.u];rfl,_,rfl⟩
  have Q:decide ((k:Int)<(a.length:Int))=false:=aj9;have hfin:Hid (d=([],false)):=(show d=([],false) by rw[r.u,iF];rfl);clear f y r;go_wp2;go_ret2;exact⟨by rw[hfin.u];rfl,_,rfl⟩
def Hy:∀(b:List (List aI×Value)),b.flatMap (λq=>[q.2])=b.map (·.2)
 |[]=>rfl
 |a::l=>by rw[mQ,Hy l];rfl
structure vO(w:World)(base:Nat)(v:Value)(gs:List (List aI×Value)):Prop where
 row:w.ownsRow base 63 1 v gs.length (gs.map (·.2))
 tag:∀p∈gs,w.ownsRow base 69 3 p.2 p.1.length (cQ p.1)/\Sh p.1
def vP{a:Nat}(h:w.ownsRow b e a v n c)(m:Nat):(w.drewN m).ownsRow b e a v n c:=
 mo (r:=⟨e,a,v,n,c⟩) h λk _=>by rw[heap_drewN]
def vO.drewN{w:World}{a:Nat}{v:Value}{b:List (List aI×Value)}(h:vO w a v b)(m:Nat):vO (w.drewN m) a v b:=
 ⟨vP h.row m,λp c=>⟨vP (h.tag p c).1 m,(h.tag p c).2⟩⟩
def DX{l:Nat}{a:List (List aI×Value)}(h:vO w l v a)(p:U):
 Calls prog 160 #[v,.string ⟨p.toArray⟩] w λe w' =>e=.returned (.tuple #[.string ⟨(rC (a.map (·.1)) p).1.toArray⟩,.bool (rC (a.map (·.1)) p).2])/\∃n,w' =w.drewN n:=by
 have hl:=sF h.row;have hrow:w.ownsRow l 63 1 v a.length (a.flatMap λq=>[q.2]):=by
  have:a.flatMap (λq=>[q.2])=a.map (·.2):=Hy a;rw[this];exact h.row
 have f:=Y λk r=>sD (λq:List aI×Value=>[q.2]) (λ_=>rfl) (by decide) hrow rfl k r;have HA:=Y λ(k:Nat) (r:k<a.length) (m:Nat)=>aaA (vP (h.tag a[k] (iZ r)).1 m) (h.tag a[k] (iZ r)).2 p;have i:=λ(k:Nat) (r:k<a.length)=>iE (h.tag a[k] (iZ r)).1;obtain⟨a1,c1,rfl⟩:=iE h.row;obtain⟨s,b⟩:=aj8 (rC (a.map (·.1)) p);rw[<-b];unfold rC at b;have y:(p==[120,109,108])=decide (p=si):=beq_lit p si;have D:(p==[])=decide (p=[]):=beq_lit p [];clear h hrow;by_cases hx:p=si
 .rw[J hx]at b;rw[nR hx]at y;have z:=Y b;clear b hx D f HA i;go_enter func160,ntmps160;go_wp2;go_ret2;exact⟨by rw[z.u];rfl,0,rfl⟩
 rw[M hx]at b;rw[pV hx]at y;generalize L:decide (p=[])=N at *;have z:=Y b;clear b hx;go_enter func160,ntmps160;go_wp2_with fail;go_loopg [6,7,8] a.length λg O P Q R=>∃(k n:Nat) (c:U) (o:Bool),R=w.drewN n/\k<=a.length/\g=a.length - k/\O=.string ⟨c.toArray⟩/\P=.bool o/\Q=.int .i64 k/\Hid (s=tV p ((a.drop k).map (·.1)) c o);case atStart=>exact⟨0,0,[],N,rfl,by omega,rfl,rfl,rfl,rfl,z⟩
 case round=>
  obtain⟨k,n,c,o,rfl,r,rfl,rfl,rfl,rfl,C⟩:=hrel;by_cases j:k<a.length
  .obtain⟨G,d1,E,_,H⟩:=f.u k j;injection E with E _ F;subst E;subst F;have A:=H 0 (by decide);simp at A;have I:∀m,(w.drewN m).cell? ⟨G,k,none⟩=w.cell? ⟨G,k,none⟩:=λm=>by simp only[World.cell?,heap_drewN]
   have hd:tV p ((a.drop k).map (·.1)) c o=if(pR a[k].1 p).2 then tV p ((a.drop (k+1)).map (·.1)) (pR a[k].1 p).1 true else tV p ((a.drop (k+1)).map (·.1)) c o:=by
    rw[gB j];rfl
   have d:=Y (C.u.trans hd);have t:=Y (HA.u k j);obtain⟨av,cv,K⟩:=i k j;clear H f z C hd HA i;generalize a[k]=x at *;obtain⟨S,xv⟩:=x;simp only at K;subst K;simp only at d t A;generalize pR S p=T at *;obtain⟨W,B⟩:=T;have X:decide ((k:Int)<(a.length:Int))=true:=aj_;cases B with
   |false=>
    simp only[cK,cE]at d;go_wp2_with(go_at_call 206;go_call(t.u _)as e w' ⟨rfl,n2,rfl⟩);go_roundg (a.length - (k+1));case measure=>omega
    case rel=>exact⟨k+1,_,c,o,rfl,by omega,rfl,rfl,rfl,by go_num,d⟩
   |true=>
    simp only[bY]at d;go_wp2_with(go_at_call 206;go_call(t.u _)as e w' ⟨rfl,n2,rfl⟩);go_roundg (a.length - (k+1));case measure=>omega
    case rel=>exact⟨k+1,_,W,true,rfl,by omega,rfl,rfl,rfl,by go_num,d⟩
  have X:decide ((k:Int)<(a.length:Int))=false:=aj9;have hfin:Hid (s=(c,o)):=(show s=(c,o) by rw[C.u,iF];rfl);clear f z C HA i;go_wp2;go_ret2;exact⟨by rw[hfin.u];rfl,_,rfl⟩
def yQ{c:Nat}{f:List (List aI×Value)}(h:vO w c v f)(p:U):
 Calls prog 163 #[v,.string ⟨p.toArray⟩] w λe w' =>e=.returned (.string ⟨(Rf.bQ (f.map (·.1)) p).toArray⟩)/\∃n,w' =w.drewN n:=by
 have i:=Y (DX h p);obtain⟨k,l,rfl⟩:=iE h.row;obtain⟨j,a⟩:=aj8 (Rf.bQ (f.map (·.1)) p);rw[<-a];unfold Rf.bQ at a;have d:(p==[])=decide (p=[]):=beq_lit p [];by_cases b:p=[]
 .rw[J b]at a;rw[nR b]at d;have g:=Y a;clear a h b;go_enter func163,ntmps163;go_wp2;go_ret;exact⟨by rw[g.u];rfl,0,rfl⟩
 rw[M b]at a;rw[pV b]at d;have g:=Y a;clear a h b;go_enter func163,ntmps163;go_wp2_with(go_at_call 160;go_call i.u as e w' ⟨rfl,m,rfl⟩);go_ret;exact⟨by rw[g.u];rfl,_,rfl⟩
def beside(a:List (List aI))(d c:U)(l:List aI):Bool:=l.all λb=> !(!(k_ b.B).2&&decide ((iz b.B).2.1=d)&&decide (Rf.bQ a (iz b.B).1=c))
def aaB{b:List (List aI)}(h:i<a.length):lM b a i=
 if !(iz a[i].B).2.2 then false
 else if(k_ a[i].B).2 then uL (k_ a[i].B).1 a[i].val
 else if !(rC b (iz a[i].B).1).2 then false
 else beside b (iz a[i].B).2.1 (Rf.bQ b (iz a[i].B).1) (a.take i):=by
 rw[lM,l_ h];rfl
def aaC{b:List (List aI)}{d c:U}{k:Nat}(h:k<i)(f:i<=a.length):beside b d c ((a.take i).drop k)=(!(!(k_ (a[k]'(by omega)).B).2&&decide ((iz (a[k]'(by omega)).B).2.1=d)&&decide (Rf.bQ b (iz (a[k]'(by omega)).B).1=c))&&beside b d c ((a.take i).drop (k+1))):=by
 have e:k<(a.take i).length:=by simp;omega
 rw[gB e];unfold beside;rw[AR];simp
def aaD{F:Nat}{va:Value}{gs:List (List aI×Value)}(h:vO w F v gs)(h1:w.ownsRow F 69 3 va a.length (cQ a))(R:Sh a)(i:Nat)(hi:i<a.length):
 Calls prog 161 #[v,va,.int .i64 i] w λe w' =>e=.returned (.bool (lM (gs.map (·.1)) a i))/\∃n,w' =w.drewN n:=by
 have hl:=sF h1;have C:=Y λk O=>sD gG (λ_=>rfl) (by decide) h1 rfl k O;have HP:=Y λ(k:Nat) (O:k<a.length) (w:World)=>DV a[k].B (R a[k] (iZ O)) w;have HD:=Y λ(k:Nat) (O:k<a.length) (w:World)=>DW a[k].B (R a[k] (iZ O)) w;have HB:=Y λ(p:U) (m:Nat)=>DX (h.drewN m) p;have HS:=Y λ(p:U) (m:Nat)=>yQ (h.drewN m) p;obtain⟨a1,c1,rfl⟩:=iE h1;obtain⟨a2,c2,rfl⟩:=iE h.row;obtain⟨d,b⟩:=aj8 (lM (gs.map (·.1)) a i);rw[<-b];rw[aaB hi]at b;clear h h1;obtain⟨P,d1,f1,_,q1⟩:=C.u i hi;injection f1 with f1 _ a0;subst f1;subst a0;have D:=q1 0 (by decide);have S:=q1 2 (by decide);simp[gG]at D S;have G:∀m,(w.drewN m).cell? ⟨P,i*3,none⟩=w.cell? ⟨P,i*3,none⟩:=λm=>by simp only[World.cell?,heap_drewN]
 have T:∀m,(w.drewN m).cell? ⟨P,i*3+2,none⟩=w.cell? ⟨P,i*3+2,none⟩:=λm=>by simp only[World.cell?,heap_drewN]
 have o:=Y (HP.u i hi);have s:=Y (HD.u i hi);have hx:∀(q:aI),a[i]=q->True:=λ_ _=>trivial;generalize a[i]=x at *;generalize gs.map (·.1)=c at *;have E:=Y (HB.u (iz x.B).1);have I:=Y (HS.u (iz x.B).1);have a9:(i:Int)<(a.length:Int):=by omega
 generalize iz x.B=pr at *;obtain⟨px,Q,a3⟩:=pr;generalize k_ x.B=dr at *;obtain⟨pd,a4⟩:=dr;have W:=Y λw=>aaz pd x.val w;generalize uL pd x.val=dA at *;generalize aa:rC c px=bd at *;obtain⟨bv,K⟩:=bd;clear q1 hx;simp only at b o s E I;cases a3 with
 |false=>
  have H:=Y (show d=false from b);clear b;go_enter func161,ntmps161
  go_wp2_with(first
   |(go_at_call 159;go_call(o.u _)as e w' ⟨rfl,n1,rfl⟩))
  go_ret;exact⟨by rw[H.u];rfl,_,rfl⟩
 |true=>
  cases a4 with
  |true=>
   have H:=Y (show d=dA from b);clear b;go_enter func161,ntmps161
   go_wp2_with(first
    |(go_at_call 159;go_call(o.u _)as e w' ⟨rfl,n1,rfl⟩)
    |(go_at_call 162;go_call(s.u _)as e w' ⟨rfl,r⟩;obtain rfl:=r.symm)
    |(go_at_call 207;go_call(W.u _)as e w' ⟨rfl,n2,rfl⟩))
   go_ret;exact⟨by rw[H.u];rfl,_,rfl⟩
  |false=>
   cases K with
   |false=>
    have H:=Y (show d=false from b);clear b;go_enter func161,ntmps161
    go_wp2_with(first
     |(go_at_call 159;go_call(o.u _)as e w' ⟨rfl,n1,rfl⟩)
     |(go_at_call 162;go_call(s.u _)as e w' ⟨rfl,r⟩;obtain rfl:=r.symm)
     |(go_at_call 160;go_call(E.u _)as e w' ⟨rfl,n2,rfl⟩))
    go_ret;exact⟨by rw[H.u];rfl,_,rfl⟩
   |true=>
    generalize Rf.bQ c px=f at *;have H:=Y (show d=beside c Q f ((a.take i).drop 0)from b);clear b;go_enter func161,ntmps161
    go_wp2_with(first
     |(go_at_call 159;go_call(o.u _)as e w' ⟨rfl,n1,rfl⟩)
     |(go_at_call 162;go_call(s.u _)as e w' ⟨rfl,r⟩;obtain rfl:=r.symm)
     |(go_at_call 160;go_call(E.u _)as e w' ⟨rfl,n2,rfl⟩)
     |(go_at_call 163;go_call(I.u _)as e w' ⟨rfl,n3,rfl⟩))
    go_loopg [15] i (λg a5 wx=>∃k n:Nat,wx=w.drewN n/\k<=i/\g=i - k/\a5=.int .i64 k/\Hid (d=beside c Q f ((a.take i).drop k)));case atStart=>exact⟨0,_,rfl,by omega,rfl,rfl,H⟩
    case round=>
     obtain⟨k,n,rfl,O,rfl,rfl,HK⟩:=hrel;clear H o s E I W D S G T;by_cases a6:k<i
     .obtain⟨g2,d2,L,_,q2⟩:=C.u k (by omega);injection L with L _ a7;injection L with L;injection L with L;subst L;subst a7;have D:=q2 0 (by decide);simp[gG]at D;have G:∀m,(w.drewN m).cell? ⟨P,k*3,none⟩=w.cell? ⟨P,k*3,none⟩:=λm=>by simp only[World.cell?,heap_drewN]
      have j:=Y (HK.u.trans (aaC a6<|by omega));have t:=Y (HP.u k<|by omega);have z:=Y (HD.u k<|by omega);have e1:decide ((k:Int)<(i:Int))=true:=aj_;have ab:(k:Int)<(a.length:Int):=by omega
      clear q2 C HK HP HD;generalize a[k]'(by omega)=y at *;have A:=Y (HS.u (iz y.B).1);generalize iz y.B=pr at *;obtain⟨qy,oy,ky⟩:=pr;generalize k_ y.B=dr at *;obtain⟨dy,X⟩:=dr;simp only at j t z A;generalize Rf.bQ c qy=a8 at *;clear HS HB;cases X with
      |true=>
       have l:Hid (d=beside c Q f ((a.take i).drop (k+1))):=Y (by have:=j.u;simpa using this);clear j
       go_wp2_with(first
        |(go_at_call 159;go_call(t.u _)as e w' ⟨rfl,m1,rfl⟩)
        |(go_at_call 162;go_call(z.u _)as e w' ⟨rfl,r⟩;obtain rfl:=r.symm)
        |(go_at_call 163;go_call(A.u _)as e w' ⟨rfl,m3,rfl⟩))
       go_roundg (i - (k+1));case measure=>omega
       case rel=>exact⟨k+1,_,rfl,by omega,rfl,by go_num,l⟩
      |false=>
       cases h3:(oy==Q)
       .have N:=akf h3;have l:Hid (d=beside c Q f ((a.take i).drop (k+1))):=Y (by have:=j.u;rw[N]at this;simpa using this);clear j N
        go_wp2_with(first
         |(go_at_call 159;go_call(t.u _)as e w' ⟨rfl,m1,rfl⟩)
         |(go_at_call 162;go_call(z.u _)as e w' ⟨rfl,r⟩;obtain rfl:=r.symm)
         |(go_at_call 163;go_call(A.u _)as e w' ⟨rfl,m3,rfl⟩))
        go_roundg (i - (k+1));case measure=>omega
        case rel=>exact⟨k+1,_,rfl,by omega,rfl,by go_num,l⟩
       have N:=ake h3;cases h4:(a8==f)
       .have B:=akf h4;have l:Hid (d=beside c Q f ((a.take i).drop (k+1))):=Y (by have:=j.u;rw[N,B]at this;simpa using this);clear j N B
        go_wp2_with(first
         |(go_at_call 159;go_call(t.u _)as e w' ⟨rfl,m1,rfl⟩)
         |(go_at_call 162;go_call(z.u _)as e w' ⟨rfl,r⟩;obtain rfl:=r.symm)
         |(go_at_call 163;go_call(A.u _)as e w' ⟨rfl,m3,rfl⟩))
        go_roundg (i - (k+1));case measure=>omega
        case rel=>exact⟨k+1,_,rfl,by omega,rfl,by go_num,l⟩
       .have B:=ake h4;have l:Hid (d=false):=Y (by have:=j.u;rw[N,B]at this;simpa using this);clear j N B
        go_wp2_with(first
         |(go_at_call 159;go_call(t.u _)as e w' ⟨rfl,m1,rfl⟩)
         |(go_at_call 162;go_call(z.u _)as e w' ⟨rfl,r⟩;obtain rfl:=r.symm)
         |(go_at_call 163;go_call(A.u _)as e w' ⟨rfl,m3,rfl⟩))
        go_ret;exact⟨by rw[l.u];rfl,_,rfl⟩
     have e1:decide ((k:Int)<(i:Int))=false:=aj9;have hfin:Hid (d=true):=(show d=true by rw[HK.u,iF<|by simp;omega];rfl);clear C HK HP HD HB HS;go_wp2;go_ret;exact⟨by rw[hfin.u];rfl,_,rfl⟩
theorem DY:(prog.info? 63).map (λi=>(i.zero,i.size,i.bytes))=some (some (.slice none 0 0),1,24):=by kernel_rfl
def xC{a base' :Nat}{f:List Value}(h:w.ownsRow a e b v n f)(k:base' <=a):w.ownsRow base' e b v n f:=by
 refine⟨h.1,?_⟩;obtain g|⟨g,c,d,i,l,j⟩:=h.2
 .exact .inl g
 exact .inr ⟨g,c,d,i,by omega,j⟩
def DZ{w' :World}{a:Nat}(h:w.ownsRow b e a v n c)(d:Below w.heap.size w w'):w'.ownsRow b e a v n c:=
 mo (r:=⟨e,a,v,n,c⟩) h λk f=>d.block k (World.ownsRow.lt h k f).2
section
variable {w:World}{b:Nat}{s:R}{L:bA}
def Ol(h:bD w b s L)(c:U)(ao:c.length<=100000000)(a:List aI)(va:Value)(hrow:w.ownsRow (b+1) 69 3 va a.length (cQ a))(a2:Sh a)(a3:∀t∈s.P,Sh t)(ay:s.P.length<=1000000):
 Calls prog 111 #[.pointer (some ⟨b,0,none⟩),.string ⟨c.toArray⟩,va] w λe w' =>e=.returned (.bool (pU s c a))/\Below w.heap.size w w' :=by
 obtain⟨i0,hi,a4,a5,a6⟩:=lg DY;have ap:=h.lt;have hc:=h.cell;have hf:=h.frozen;have D:=h.p_;have O:L.gs.length=s.P.length:=by rw[<-D];simp
 have hR:w.ownsRow (b+1) 63 1 (.slice L.ga s.P.length L.gc) s.P.length (L.gs.flatMap λq=>[q.2]):=by
  rw[Hy];exact h.rows.own (gH s L) (by simp[eP])
 have HR:=Y λk hk=>sD (λq:List aI×Value=>[q.2]) (λ_=>rfl) (by decide) hR O.symm k hk;have hT:∀p∈L.gs,w.ownsRow (b+1) 69 3 p.2 p.1.length (cQ p.1)/\Sh p.1:=λp hp=>
  ⟨h.rows.own (jq p)<|by simp only[eP,oN,mem_append,AQ];right;right;right;right;exact⟨p,hp,rfl⟩,a3 p.1<|by rw[<-D];exact mem_map.2 ⟨p,hp,rfl⟩⟩
 obtain⟨K,N,rfl⟩:=iE hrow;have HT:=Y hT;have HA:=Y hrow;obtain⟨f,x⟩:=aj8 (pU s c a);rw[<-x];have E:=Y x;unfold aR at hc;clear h hR hT hrow x;go_enter func111,ntmps111;go_upto_block 0 with fail
 go_cut [7] λs7 P=>Hid (Below w.heap.size w P/\P.ownsRow w.heap.size 63 1 s7 s.P.length (L.gs.map (·.2)))
 case first=>
  go_wp2_with fail;go_loopg [7,8] s.P.length (λg s7 s8 P=>∃k:Nat,k<=s.P.length/\g=s.P.length - k/\s8=.int .i64 k/\Hid (Below w.heap.size w P/\P.ownsRow w.heap.size 63 1 s7 k ((L.gs.take k).map (·.2))));case atStart=>exact⟨0,by omega,rfl,rfl,Y ⟨Below.refl _ _,lq _ _ _ _⟩⟩
  case round=>
   obtain⟨k,hk,rfl,rfl,Q⟩:=hrel;obtain⟨j,y⟩:=Q.u;obtain⟨a7,c7,rfl⟩:=iE y;have a8:∀i,wr.cell? ⟨b,i,none⟩=w.cell? ⟨b,i,none⟩:=λi=>by simp only[World.cell?];rw[j.block b ap]
   have ax:b<wr.heap.size:=by have:=j.size;omega
   have az:∀i,wr.cell? ⟨b,i,none⟩=[.int .i64 s.od,.int .i64 s.oa,.int .i64 s.S,.bool s.on,.string ⟨s.s.toArray⟩,.int .i64 s.A,.int .i64 s.stop,.int .i64 s.err,.bool s.whole,.slice L.ea s.y.length L.ec,.slice L.oa s.I.length L.oc,.slice L.ga s.P.length L.gc][i]?:=λi=>(a8 i).trans (hc i);clear a8 Q hc;by_cases h3:k<s.P.length
   .have e1:decide ((k:Int)<(s.P.length:Int))=true:=aj_;have b0:(k:Int)<(s.P.length:Int):=by omega
    obtain⟨g1,d1,f1,aq,q1⟩:=HR.u k (by omega);have p0:=q1 0 (by decide);simp only[uz,Az,tH]at p0;have au:wr.cell? ⟨g1,k,none⟩=some (L.gs[k]'(by omega)).2:=by simp only[World.cell?];rwa[j.block g1 aq]
    injection f1 with f1 _ b1;obtain⟨av,cv,a9⟩:=iE (HT.u (L.gs[k]'(by omega)) (iZ _)).1;have ab:(L.gs.take (k+1)).map (·.2)=(L.gs.take k).map (·.2)++[(L.gs[k]'(by omega)).2]:=by
     rw[qM,l_<|by omega,mP];rfl
    have ad:=Y ab;rw[a9]at au ad;generalize(L.gs[k]'(by omega)).1.length=tn at *;have b2:g1<wr.heap.size:=by have:=j.size;omega
    have HO:=Y (World.ownsRow.alloc y (.cells #[.slice av tn cv] 63));have HB:=Y (show(wr.alloc (.cells #[.slice av tn cv] 63)).heap[wr.heap.size]?=_ from dI wr _);have F:=Y (show k+1<=maxLen by unfold maxLen;omega);have R:=j.size;have l:=Y (show w.heap.size<=(wr.alloc (.cells #[.slice av tn cv] 63)).heap.size by simp;omega);have o:=Y j;have G:=Y λS e=>(World.ownsRow.lt y S e).1;clear y j q1 p0 a9 ab HR HT HA E;go_wp2_with(at_builtin;refine lI _ rfl _ _ 109 rfl w.heap.size 63 i0 _ 1 24 underlying109 hi a4 a5 a6 rfl (by decide) (.slice a7 k c7) k ((L.gs.take k).map (·.2)) (by simp[Act.eval]) HO.u ⟨wr.heap.size,0,none⟩ 1 1 [.slice av tn cv] (by simp[Act.eval]) rfl (jT HB.u) (by intro u hu;simp at hu;subst hu;rfl) (by decide) F.u (by omega) l.u (wr.heap.size+1) (by simp) ?_;intro g2 ae w2 hown hgrow z af;have HOW:=Y hown;have H:=Y hgrow;have ag:=Y z;clear hown hgrow z);go_roundg (s.P.length - (k+1));case measure=>omega
    case rel=>
     refine⟨k+1,by omega,rfl,by go_num,Y ⟨?_,?_⟩⟩
     .exact(o.u.alloc R _).grown H.u l.u λS e=>G.u S e
     have:=HOW.u;rw[ad.u];simpa using this
   have e1:decide ((k:Int)<(s.P.length:Int))=false:=aj9;have ah:k=s.P.length:=by omega
   have HO:=Y (show wr.ownsRow w.heap.size 63 1 (.slice a7 k c7) s.P.length (L.gs.map (·.2)) by
    have:=y
    rw[nZ<|by omega]at this
    rw[ah]at this⊢;exact this)
   have o:=Y j;clear y j HR HT HA E ah;go_wp2_with fail;go_meet
   exact Y ⟨o.u,HO.u⟩
 case rest=>
 obtain⟨j,y⟩:=hcut.u;obtain⟨a7,c7,rfl⟩:=iE y;have HO:=Y (World.ownsRow.alloc y (.cells #[.slice K a.length N] 63));have HB:=Y (show(wc.alloc (.cells #[.slice K a.length N] 63)).heap[wc.heap.size]?=_ from dI wc _);have F:=Y (show s.P.length+1<=maxLen by unfold maxLen;omega);have R:=j.size;have l:=Y (show w.heap.size<=(wc.alloc (.cells #[.slice K a.length N] 63)).heap.size by simp;omega);have o:=Y j;have G:=Y λS e=>(World.ownsRow.lt y S e).1;clear y j hcut HR hc hf;have HP:=Y λw=>DV c ao w;go_wp2_with(at_builtin;refine lI _ rfl _ _ 109 rfl w.heap.size 63 i0 _ 1 24 underlying109 hi a4 a5 a6 rfl (by decide) (.slice a7 s.P.length c7) s.P.length (L.gs.map (·.2)) (by simp[Act.eval]) HO.u ⟨wc.heap.size,0,none⟩ 1 1 [.slice K a.length N] (by simp[Act.eval]) rfl (jT HB.u) (by intro u hu;simp at hu;subst hu;rfl) (by decide) F.u (by omega) l.u (wc.heap.size+1) (by simp) ?_;intro g2 ae w2 hown hgrow z af;have HOW:=Y hown;have H:=Y hgrow;have ag:=Y z;clear hown hgrow z);have A:Below w.heap.size w w2:=(o.u.alloc R _).grown H.u l.u λS e=>G.u S e;have T:vO w2 (b+1) (.slice (some ⟨g2,0,none⟩) (s.P.length+1) ae) (L.gs++[(a,.slice K a.length N)]):=by
  refine⟨?_,λp hp=>?_⟩
  .have:=xC HOW.u (show b+1<=w.heap.size by omega);have e:(L.gs++[(a,Value.slice K a.length N)]).length=s.P.length+1:=by simp[O]
   rw[e];simpa using this
  obtain g|g:=mem_append.1 hp
  .exact⟨DZ (HT.u p g).1 A,(HT.u p g).2⟩
  simp only[oN,qm,uD]at g;subst g;exact⟨DZ HA.u A,a2⟩
 have W:w2.ownsRow (b+1) 69 3 (.slice K a.length N) a.length (cQ a):=DZ HA.u A;have ai:(L.gs++[(a,Value.slice K a.length N)]).map (·.1)=s.P++[a]:=by simp[D]
 have hq:f=(if !(iz c).2.2||decide ((iz c).1=nU)then false else if !(rC (s.P++[a]) (iz c).1).2 then false else(List.range a.length).all λi=>lM (s.P++[a]) a i):=by rw[E.u];rfl
 have r:=Y λ(m:Nat)=>DX (T.drewN m) (iz c).1;have B:=Y λ(m i:Nat) (hi:i<a.length)=>aaD (T.drewN m) (vP W m) a2 i hi;rw[ai]at r B;have b3:=sF W;have v:=Y A;clear A T W ai E HT HA HOW H ag HO HB F l o G D O;generalize s.P++[a]=d at *;have aj:∀q:U,(q==[120,109,108,110,115])=decide (q=nU):=λq=>beq_lit q nU;have ak:=aj (iz c).1;generalize iz c=pr at *;obtain⟨px,lx,C⟩:=pr;simp only at hq HP r ak;generalize rC d px=bd at *;obtain⟨bv,is⟩:=bd;simp only at hq r;generalize decide (px=nU)=bx at *;clear aj;have al:∀n,Below w.heap.size w (w2.drewN n):=λn=>⟨v.u.os,v.u.tape,v.u.output,by rw[heap_drewN];exact v.u.size,λk hk=>by rw[heap_drewN];exact v.u.block k hk⟩;have X:=Y al;clear al v;have a0:(f=false/\(C=false\/(C=true/\bx=true)\/(C=true/\bx=false/\is=false)))\/(C=true/\bx=false/\is=true/\f=(List.range a.length).all λi=>lM d a i):=by
  rw[hq];cases C<;>cases bx<;>cases is<;>simp
 clear hq;obtain⟨hF,hc⟩|⟨rfl,rfl,rfl,hF⟩:=a0
 .have E:=Y hF;clear hF B;obtain rfl|⟨rfl,rfl⟩|⟨rfl,rfl,rfl⟩:=hc;all_goals
   go_wp2_with(first
    |(go_at_call 159;go_call(HP.u _)as e w' ⟨rfl,n1,rfl⟩)
    |(go_at_call 160;go_call(r.u _)as e w' ⟨rfl,n2,rfl⟩))
   go_ret;exact⟨by rw[E.u];rfl,X.u _⟩
 have E:=Y (show f=(List.range' 0 a.length).all λi=>lM d a i by rwa[<-range_eq_range']);clear hF
 go_wp2_with(first
  |(go_at_call 159;go_call(HP.u _)as e w' ⟨rfl,n1,rfl⟩)
  |(go_at_call 160;go_call(r.u _)as e w' ⟨rfl,n2,rfl⟩))
 go_loopg [14] a.length (λg aw P=>∃k n:Nat,P=w2.drewN n/\k<=a.length/\g=a.length - k/\aw=.int .i64 k/\Hid (f=(List.range' k (a.length - k)).all λi=>lM d a i));case atStart=>exact⟨0,_,rfl,by omega,rfl,rfl,E⟩
 case round=>
  obtain⟨k,n,rfl,hk,rfl,rfl,Q⟩:=hrel;clear E r HP;by_cases h3:k<a.length
  .have e1:decide ((k:Int)<(a.length:Int))=true:=aj_;have am:=Y (B.u n k h3);have an:(List.range' k (a.length - k)).all (λi=>lM d a i)=(lM d a k&&(List.range' (k+1) (a.length - (k+1))).all λi=>lM d a i):=by
    rw[show a.length - k=(a.length - (k+1))+1 by omega,List.range'_succ,AR]
   have I:=Y (Q.u.trans an);clear an Q;generalize lM d a k=ar at *;cases ar with
   |false=>
    have a1:=Y (show f=false from I.u);clear I B;go_wp2_with(go_at_call 161;go_call am.u as e w' ⟨rfl,n3,rfl⟩);go_ret;exact⟨by rw[a1.u];rfl,X.u _⟩
   |true=>
    have a1:=Y (show f=(List.range' (k+1) (a.length - (k+1))).all λi=>lM d a i from I.u);clear I;go_wp2_with(go_at_call 161;go_call am.u as e w' ⟨rfl,n3,rfl⟩);go_roundg (a.length - (k+1));case measure=>omega
    case rel=>exact⟨k+1,_,rfl,by omega,rfl,by go_num,a1⟩
  have e1:decide ((k:Int)<(a.length:Int))=false:=aj9;have hfin:=Y (show f=true by rw[Q.u,show a.length - k=0 by omega];rfl);clear Q B;go_wp2;go_ret;exact⟨by rw[hfin.u];rfl,X.u _⟩
end
section
variable {w:World}{b:Nat}{s:R}{L:bA}
def bD.tg(h:bD w b s L)(c:∀t∈s.P,Sh t):vO w (b+1) (.slice L.ga s.P.length L.gc) L.gs:=by
 have a:=h.p_;have d:L.gs.length=s.P.length:=by rw[<-a];simp
 refine⟨?_,λp e=>⟨h.rows.own (jq p)<|by simp only[eP,oN,mem_append,AQ];right;right;right;right;exact⟨p,e,rfl⟩,c p.1<|by rw[<-a];exact mem_map.2 ⟨p,e,rfl⟩⟩⟩;rw[d];exact h.rows.own (gH s L) (by simp[eP])
def Om(h:bD w b s L)(a:U)(j:a.length<=100000000)(k:∀t∈s.P,Sh t):
 Calls prog 164 #[.pointer (some ⟨b,0,none⟩),.string ⟨a.toArray⟩] w λe w' =>e=.returned (.string ⟨(nD s a).toArray⟩)/\∃n,w' =w.drewN n:=by
 have o:=h.lt;have p:=h.cell;have y:=h.frozen;have d:=h.tg k;have q:=Y λw=>DV a j w;have m:=Y λn=>DX (d.drewN n) (iz a).1;have f:L.gs.map (·.1)=s.P:=h.p_;rw[f]at m;obtain⟨g,c⟩:=aj8 (nD s a);rw[<-c];unfold nD at c;have r:∀n i,(w.drewN n).cell? ⟨b,i,none⟩=w.cell? ⟨b,i,none⟩:=λn i=>by simp only[World.cell?,heap_drewN]
 unfold aR at p;generalize v:s.on=x at *;cases x with
 |false=>
  have l:=Y (show g=[]from c);clear c h d f;go_enter func164,ntmps164;go_wp2;go_ret;exact⟨by rw[l.u];rfl,0,rfl⟩
 |true=>
  have l:=Y (show g=(rC s.P (iz a).1).1 from c);clear c h d f;go_enter func164,ntmps164
  go_wp2_with(first
   |(go_at_call 159;go_call(q.u _)as e w' ⟨rfl,z,rfl⟩)
   |(go_at_call 160;go_call(m.u _)as e w' ⟨rfl,A,rfl⟩))
  go_ret;exact⟨by rw[l.u];rfl,_,rfl⟩
end
