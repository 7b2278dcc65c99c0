import Derived.Test.YtmgfijllcdadgaaGreatDoorUW00
import Derived.Deep.DeepCutAuto
import Derived.Deep.CutBlock
import Derived.Handy
set_option linter.all false
set_option maxHeartbeats 8000000
set_option maxRecDepth 100000
namespace Go.Proofs.YtmgfijllcdadgaaGreatDoor
section
open Go.RowKit
open Go.Proofs.Tryz
open Mk
variable {p:Prop}{b:Bool}
def Y(h:p):Hid p:=h
def LI(h:Hid p):p:=h
def mU{a:Bool}(h:a=b):Ending.returned (.bool a)=.returned (.bool b):=by rw[h]
def qp(b:Int)(w:World):Calls prog 132 #[.int .u8 b] w λe w' =>e=.returned (.bool (Mk.bJ b))/\w' =w:=by
 go_enter func132,ntmps132;go_wp2;all_goals(go_ret;exact⟨mU<|by rw[kF];simp[Mk.bJ];try omega,rfl⟩)
def ajI(b:Int)(w:World):Calls prog 219 #[.int .u8 b] w λe w' =>e=.returned (.bool (Mk.fq b))/\w' =w:=by
 go_enter func219,ntmps219;go_wp2;all_goals(go_ret;exact⟨mU<|by rw[kF];simp[Mk.fq];try omega,rfl⟩)
def vz(b:Int)(w:World):Calls prog 190 #[.int .u8 b] w λe w' =>e=.returned (.bool (dP b))/\w' =w:=by
 go_enter func190,ntmps190;go_wp2;all_goals(go_ret;exact⟨mU<|by rw[kF];simp[Mk.fq,dP];try omega,rfl⟩)
def uI(b:Int)(w:World):Calls prog 192 #[.int .u8 b] w λe w' =>e=.returned (.bool (eD b))/\w' =w:=by
 go_enter func192,ntmps192;go_wp2;all_goals(go_ret;exact⟨mU<|by rw[kF];simp[Mk.fq,dP,eD,tj];try omega,rfl⟩)
def yP(c:Int)(w:World):Calls prog 215 #[.int .i64 c] w λe w' =>e=.returned (.bool (eX c))/\w' =w:=by
 go_enter func215,ntmps215;go_wp2;all_goals(go_ret;exact⟨mU<|by rw[kF];unfold eX;repeat' split<;>simp<;>try omega,rfl⟩)
def LJ(c:Int)(a:0<=c)(b:c<=1114111)(w:World):
 Calls prog 184 #[.int .i64 c] w λe w' =>e=.returned (.slice (some ⟨w.heap.size,0,none⟩) (jf c).length (jf c).length)/\w' =w.alloc (.cells ((jf c).map (Value.int .u8)).toArray 5):=by
 go_enter func184,ntmps184;go_wp2;all_goals(go_ret;unfold jf;repeat(first|rw[J]|rw[M]))
 all_goals exact⟨rfl,rfl⟩
def VD{k:IntKind}{a c:Int}{d:Bool}(h:a=c)(e:b=d):Ending.returned (.tuple #[.int k a,.bool b])=.returned (.tuple #[.int k c,.bool d]):=by rw[h,e]
def VE(b:Int)(a:Int)(c:0<=b)(d:b<=255)(_hb:0<=a)(_hb' :a<=16)(w:World):Calls prog 217 #[.int .u8 b,.int .i64 a] w λe w' =>
 e=.returned (.tuple #[.int .i64 ((nN b a).getD 0),.bool (nN b a).isSome])/\w' =w:=by
 go_enter func217,ntmps217;go_wp2;all_goals(go_ret2;refine⟨VD ?_ ?_,rfl⟩)
 all_goals simp only[nN,Mk.Ap,tj,nQ,wS]
 all_goals(repeat' split)<;>simp<;>omega
end
namespace V
open Rf
open Mk (U Ev aI)
variable {r:R}{m:Nat}{x:R×U×Bool}
structure Kp(r r' :R):Prop where
 s:r'.s=r.s
 od:r'.od=r.od
 oa:r'.oa=r.oa
 S:r'.S=r.S
 on:r'.on=r.on
 nu:r.A<=r'.A
 len:r'.A<=r.s.length
 ev:r'.y.length+4*r.A<=r.y.length+4*r'.A
 op:r'.I=r.I
 tg:r'.P=r.P
def Kp.refl(h:r.A<=r.s.length):Kp r r:=⟨rfl,rfl,rfl,rfl,rfl,a_ _,h,by omega,rfl,rfl⟩
def Kp.trans{a b c:R}(h:Kp a b)(k:Kp b c):Kp a c:=by
 obtain⟨i,j,l,m,n,u,v,w,o,d⟩:=h;obtain⟨f,p,q,r,s,x,g,y,t,e⟩:=k;rw[i]at f g;exact⟨f,p.trans j,q.trans l,r.trans m,s.trans n,by omega,g,by omega,t.trans o,e.trans d⟩
def Kp.to{k:Nat}(a:r.A<=k:=by omega)(b:k<=r.s.length:=by omega):Kp r {r with A:=k}:=⟨rfl,rfl,rfl,rfl,rfl,a,b,by simp;omega,rfl,rfl⟩
def Kp.stop{a r:R}(h:Kp a r)(x:Int):Kp a {r with stop:=x}:=⟨h.s,h.od,h.oa,h.S,h.on,h.nu,h.len,h.ev,h.op,h.tg⟩
def Kp.fail{a:R}(h:Kp a r)(x:Int):Kp a (Rf.eZ r x):=⟨h.s,h.od,h.oa,h.S,h.on,h.nu,h.len,h.ev,h.op,h.tg⟩
def NT(h:r.A<=r.s.length):Kp r (b_ r).1:=by
 unfold b_;split
 .exact .refl h
 exact(Kp.refl h).stop 1
def DR(h:(b_ r).2=false):(b_ r).1=r/\r.A<r.s.length:=by
 unfold b_ at h⊢;split<;>simp_all
def mX(h:r.A<=r.s.length)(c:Int):Kp r (bW r c).1/\((bW r c).2=true->(bW r c).1={r with A:=r.A+1}/\r.A<r.s.length):=by
 unfold bW;split
 .split
  .exact⟨.to,λ_=>⟨rfl,by assumption⟩⟩
  exact⟨(Kp.refl h).fail 3,λh=>by cases h⟩
 exact⟨(Kp.refl h).stop 1,λh=>by cases h⟩
def nE(h:r.A<=r.s.length):Kp r (Rf.aV r):=by
 refine .to (by omega) ?_;have:=vM Rf.bJ (r.s.drop r.A);rw[lm]at this;omega
def tX(h:r.A<=r.s.length)(a:0<=r.S):Kp r (cF r).1:=by
 have:=vM Rf.dL (r.s.drop r.A);rw[lm]at this;unfold cF;simp only;split
 .exact(Kp.to).fail 7
 exact(Kp.to).trans (NT<|by simp;omega)
def Bn{i:Nat}(h:r.A<=i)(a:i<=r.s.length):Kp r (mO r i):=by
 unfold mO;split
 .exact(Kp.to h a).fail 7
 exact(Kp.to h a).fail 2
def NU{r:R}(h:r.A<r.s.length):∀(f k:Nat),1<=k->Kp r (iH r f k).1/\((iH r f k).2.2=true->∃a,1<=a/\(iH r f k).1={r with A:=r.A+a}/\(iH r f k).2.1=(r.s.drop r.A).take a/\r.A+a<=r.s.length/\Rf.kr ((r.s.drop r.A).take a)=0)
 |0,k,b=>⟨(Kp.to (LC h) (a_ _)).stop 1,λh=>by simp[iH]at h⟩
 |f+1,k,b=>by
  rw[iH];split
  .simp only;split
   .exact⟨(Kp.to).fail 2,λh=>by cases h⟩
   split
   .exact⟨.to,λ_=>⟨k,b,rfl,rfl,by omega,by assumption⟩⟩
   exact NU h f (k+1) (by omega)
  exact⟨(Kp.to (LC h) (a_ _)).stop 1,λh=>by cases h⟩
def oC(h:r.A<r.s.length):Kp r (bF r).1/\((bF r).2.2=true->∃k,1<=k/\(bF r).1={r with A:=r.A+k}/\r.A+k<=r.s.length/\(bF r).2.1.length<=k):=by
 unfold bF;simp only;split
 .split
  .rename_i a;simp at a;exact⟨.to,λ_=>⟨2,by omega,rfl,by omega,by simp⟩⟩
  exact⟨.to,λ_=>⟨1,by omega,rfl,by omega,by simp⟩⟩
 have b:=NU h (r.s.length+1) 1 (by omega);refine⟨b.1,λa=>?_⟩;obtain⟨c,d,e,f,g,_⟩:=b.2 a;exact⟨c,d,e,g,by rw[f,iB];omega⟩
def aaQ(n:Int):(uK n).length<=4:=by
 unfold uK
 (repeat' split)<;>simp
def sH(r:R)(m:Nat)(x:R×U×Bool):Prop:=Kp r x.1/\(x.2.2=true->∃k,r.A+m<=k/\k<=r.s.length/\x.1={r with A:=k}/\x.2.1.length<=4)
def xD{a:R}{t:U}(h:Kp r a):sH r m (a,t,false):=⟨h,λe=>by cases e⟩
def sH.step{j:Nat}(a:r.A<=j)(b:j<=r.s.length)(h:sH {r with A:=j} m x):sH r (j - r.A+m) x:=by
 refine⟨(Kp.to a b).trans h.1,λe=>?_⟩;obtain⟨k,c,d,f,g⟩:=h.2 e;simp only at c;exact⟨k,by omega,d,f,g⟩
def sH.less{a:Nat}(h:sH r m x)(c:a<=m):sH r a x:=
 ⟨h.1,λe=>by obtain⟨k,d,b⟩:=h.2 e;exact⟨k,by omega,b⟩⟩
def Ia(a:Int)(first:Nat):∀(f:Nat) (r:R) (n:Int),r.A<=r.s.length->sH r 1 (mV a first f r n)
 |0,r,n,h=>xD (Kp.refl h)
 |f+1,r,n,h=>by
  rw[mV];split
  .rename_i b;dsimp only;split
   .split
    .exact xD ((Kp.refl h).fail 4)
    exact⟨Kp.to,λ_=>⟨r.A+1,a_ _,by omega,rfl,aaQ n⟩⟩
   split
   .exact xD ((Kp.refl h).fail 4)
   have:=Ia a first f {r with A:=r.A+1} (n*a+Rf.ni (r.E r.A) a) (by show r.A+1<=r.s.length;omega)
   exact(this.step (by omega) (by omega)).less (by omega)
  exact xD ((Kp.refl h).stop 1)
def aaR(h:r.A<r.s.length):sH r 2 (rX r):=by
 unfold rX;dsimp only;split
 .rename_i a;simp at a;have:=Ia 16 (r.A+1+1) (r.s.length+1) {r with A:=r.A+1+1} 0 (by show r.A+1+1<=r.s.length;omega);exact(this.step (by omega) (by omega)).less (by omega)
 have:=Ia 10 (r.A+1) (r.s.length+1) {r with A:=r.A+1} 0 (by show r.A+1<=r.s.length;omega);exact(this.step (by omega) (by omega)).less (by omega)
def Ib(b:U):∀(l:List U) (c:Bool) (t:U) (a:Bool),kJ b l c=(some t,a)->t.length<=4
 |[],c,t,a,h=>by simp[kJ]at h
 |x::l,c,t,a,h=>by
  rw[kJ]at h;split at h
  .exact Ib b l c t a h
  split at h
  .rename_i d;simp at h;rw[<-h.1,lm];omega
  exact Ib b l true t a h
def Ox(a:Nat):∀(f:Nat) (r:R),r.A<=r.s.length->sH r 1 (kK a f r)
 |0,r,h=>xD (Kp.refl h)
 |f+1,r,h=>by
  rw[kK];split
  .rename_i b;split
   .exact(aaR b).less (by omega)
   split
   .rename_i t d c;exact⟨Kp.to,λ_=>⟨r.A+1,a_ _,by omega,rfl,Ib _ _ _ _ _ c⟩⟩
   .have:=Ox a f {r with A:=r.A+1} (by show r.A+1<=r.s.length;omega);exact(this.step (by omega) (by omega)).less (by omega)
   exact xD ((Kp.refl h).fail 4)
  exact xD ((Kp.refl h).stop 1)
def vQ(h:r.A<r.s.length):sH r 2 (iT r):=by
 unfold iT;have:=Ox (r.A+1) (r.s.length+1) {r with A:=r.A+1} (by show r.A+1<=r.s.length;omega);exact(this.step (by omega) (by omega)).less (by omega)
end V
open Go.RowKit
open Go.Proofs.Tryz
open Mk
variable {w:World}{e:TypeId}{c b:Nat}{a:Option Addr}{s:Z}{L:Lay}
def wY:U->Nat->Int
 |[],_=> -1
 |x::r,i=>if x==58 then(i:Int)else wY r (i+1)
def VF(x:UInt8)(r:U):aj4 (x::r)=if x==58 then 0 else aj4 r+1:=by
 unfold aj4;rw[AA];cases h:(x==58)<;>simp[bne,h]
def LK:∀(l:U) (i:Nat),wY l i=if Mk.cW l then((i+aj4 l:Nat):Int)else -1
 |[],i=>rfl
 |x::r,i=>by
  unfold wY;rw[LK r (i+1)];unfold Mk.cW;rw[VF];cases h:(x==58)
  .simp only[cK,cE,cT,FW];split
   .congr 1;omega
   rfl
  simp
def vA(l:U):rB l=wY l 0:=by rw[LK,jV];rfl
def VG{l:U}{k:Nat}{y:UInt8}(h:l[k]?=some y):l.drop k=y::l.drop (k+1):=by
 obtain⟨a,b⟩:=List.getElem?_eq_some_iff.1 h;rw[gB a,b]
def VH(x:UInt8)(n:Nat)(a:n<256):((x.toNat:Int)==(n:Int))=(x==UInt8.ofNat n):=by
 rw[kF,ajP,ajP];constructor
 .intro h;apply UInt8.toNat_inj.1;simp[UInt8.toNat_ofNat];omega
 intro h;subst h;simp;omega
def VI(l:U)(n:Nat):(ByteArray.extract ⟨l.toArray⟩ 0 n)=⟨(l.take n).toArray⟩:=by
 apply rF;simp[yF,List.extract_toArray,LF]
def Dg(l:U)(n:Nat):(ByteArray.extract ⟨l.toArray⟩ n l.length)=⟨(l.drop n).toArray⟩:=by
 apply rF;simp only[yF,List.extract_toArray,LF];rw[nZ<|by simp]
def LL(l:U):aj4 l<=l.length:=by unfold aj4;exact(List.takeWhile_sublist _).length_le
def FZ(l:U)(z:l.length<=100000000)(w:World):Calls prog 221 #[.string ⟨l.toArray⟩] w λe w' =>e=.returned (.int .i64 (rB l))/\w' =w:=by
 obtain⟨j,a⟩:=aj8 (rB l);rw[<-a];rw[vA]at a;have c:=Y a;clear a;go_enter func221,ntmps221;go_wp2_with fail;go_loopg [3] l.length (λg p q=>q=w/\∃i:Nat,i<=l.length/\g=l.length - i/\p=.int .i64 i/\j=wY (l.drop i) i);case atStart=>exact⟨rfl,0,by omega,rfl,rfl,c.u⟩
 case round=>
  obtain⟨n,i,A,rfl,rfl,b⟩:=hrel;obtain rfl:=n.symm;clear c;by_cases r:i<l.length
  .have s:decide ((i:Int)<(l.length:Int))=true:=aj_;have t:(i:Int)<(l.length:Int):=by omega
   obtain⟨y,k⟩:∃y,l[i]?=some y:=⟨l[i],by simp[r]⟩;have v:∀h,(ByteArray.mk l.toArray)[i]'h=y:=λh=>(List.getElem?_eq_some_iff.1 k).2;rw[VG k]at b;have d:wY (y::l.drop (i+1)) i=if y==58 then(i:Int)else wY (l.drop (i+1)) (i+1):=rfl;rw[d]at b;have f:=VH y 58 (by omega);cases m:(y==58)
   .rw[m]at b;simp only[cK,cE]at b;have x:((y.toNat:Int)==58)=false:=by
     have o:(y==UInt8.ofNat 58)=false:=m;rw[o]at f;simpa using f
    have c:=Y b;clear b f d k;go_wp2;go_roundg (l.length - (i+1));case measure=>omega
    case rel=>exact⟨rfl,i+1,by omega,rfl,by simp,c.u⟩
   rw[m]at b;simp only[bY]at b;have x:((y.toNat:Int)==58)=true:=by
    have o:(y==UInt8.ofNat 58)=true:=m;rw[o]at f;simpa using f
   have c:=Y b;clear b f d k;go_wp2;go_ret;rw[c.u];exact⟨rfl,rfl⟩
  have s:decide ((i:Int)<(l.length:Int))=false:=aj9;rw[iF]at b;have c:=Y (show j= -1 from b);clear b;go_wp2;go_ret;rw[c.u];exact⟨rfl,rfl⟩
def F_(l:U)(a:l.length<=100000000)(w:World):Calls prog 195 #[.string ⟨l.toArray⟩] w λe w' =>e=.returned (.bool (Mk.cW l))/\w' =w:=by
 have b:=Y (FZ l a w);have d:decide ((0:Int)<=rB l)=Mk.cW l:=by
  unfold rB;cases Mk.cW l<;>simp
 generalize Mk.cW l=r at *;generalize rB l=c at *;go_enter func195,ntmps195;go_wp2_with fail;go_call b.u as e f ⟨rfl,rfl⟩;go_wp2;go_ret;exact⟨rfl,rfl⟩
def AY(l:U)(h:l.length<=100000000)(w:World):Calls prog 241 #[.string ⟨l.toArray⟩] w λe w' =>e=.returned (.string ⟨(dH l).toArray⟩)/\w' =w:=by
 have f:=Y (FZ l h w);have g:=LL l;cases a:Mk.cW l
 .have b:rB l= -1:=by rw[rB,a];rfl
  have d:dH l=[]:=by rw[dH,a];rfl
  rw[b]at f;rw[d];clear b d a g;go_enter func241,ntmps241;go_wp2_with fail;go_call f.u as e i ⟨rfl,rfl⟩;go_wp2;go_ret;exact⟨rfl,rfl⟩
 have b:rB l=(aj4 l:Int):=by rw[rB,a];rfl
 have d:dH l=l.take (aj4 l):=by rw[dH,a];rfl
 rw[b]at f;rw[d];generalize aj4 l=c at *;have j:decide ((c:Int)<0)=false:=aj9;have k:=VI l c;clear b d a;go_enter func241,ntmps241;go_wp2_with fail;go_call f.u as e i ⟨rfl,rfl⟩;go_wp2;go_ret;exact⟨rfl,rfl⟩
def Dh(l:U)(h:l.length<=100000000)(w:World):Calls prog 249 #[.string ⟨l.toArray⟩] w λe w' =>e=.returned (.string ⟨(gI l).toArray⟩)/\w' =w:=by
 have f:=Y (FZ l h w);have g:=LL l;cases a:Mk.cW l
 .have b:rB l= -1:=by rw[rB,a];rfl
  have d:gI l=l:=by rw[gI,a];rfl
  rw[b]at f;rw[d];have i:=Dg l 0;clear b d a g;go_enter func249,ntmps249;go_wp2_with fail;go_call f.u as e j ⟨rfl,rfl⟩;go_wp2;go_ret;exact⟨rfl,rfl⟩
 have b:rB l=(aj4 l:Int):=by rw[rB,a];rfl
 have d:gI l=l.drop (aj4 l+1):=by rw[gI,a];rfl
 have k:aj4 l<l.length:=by simpa[Mk.cW]using a
 rw[b]at f;rw[d];generalize aj4 l=c at *;have i:=Dg l (c+1);have m:decide ((c:Int)+1<=(l.length:Int))=true:=aj_;clear b d a;go_enter func249,ntmps249;go_wp2_with fail;go_call f.u as e j ⟨rfl,rfl⟩;go_wp2;go_ret;exact⟨rfl,rfl⟩
def VJ(l:U):(gI l).length<=l.length:=by unfold gI;split<;>simp
def LM(l:U)(b:l.length<=100000000)(w:World):Calls prog 245 #[.string ⟨l.toArray⟩] w λe w' =>e=.returned (.bool (jJ l))/\w' =w:=by
 have a:=Y λw=>AY l b w;have hd:jJ l=(l==fR||dH l==fR):=rfl;rw[hd];clear hd;unfold fR;generalize dH l=x at *;cases d:(l==[120,109,108,110,115])
 .simp only[ku];cases f:(x==[120,109,108,110,115])
  .go_enter func245,ntmps245;go_wp2_with(go_at_call 241;go_call(a.u _)as e c ⟨rfl,rfl⟩);go_ret;exact⟨rfl,rfl⟩
  go_enter func245,ntmps245;go_wp2_with(go_at_call 241;go_call(a.u _)as e c ⟨rfl,rfl⟩);go_ret;exact⟨rfl,rfl⟩
 simp only[nP];go_enter func245,ntmps245;go_wp2;go_ret;exact⟨rfl,rfl⟩
def VK(l:U)(a:l.length<=100000000)(w:World):Calls prog 246 #[.string ⟨l.toArray⟩] w λe w' =>e=.returned (.string ⟨(kP l).toArray⟩)/\w' =w:=by
 have b:=Y λw=>Dh l a w;have hd:kP l=if(l==fR)=true then[]else gI l:=rfl;rw[hd];clear hd;unfold fR;generalize gI l=x at *;cases c:(l==[120,109,108,110,115])
 .simp only[cK,cE];go_enter func246,ntmps246;go_wp2_with fail;go_call(b.u _)as e d ⟨rfl,rfl⟩;go_wp2;go_ret;exact⟨rfl,rfl⟩
 simp only[bY];go_enter func246,ntmps246;go_wp2;go_ret;exact⟨rfl,rfl⟩
def LN(l:U)(g:l.length<=100000000)(w:World):Calls prog 244 #[.string ⟨l.toArray⟩] w λe w' =>e=.returned (.bool (fC l))/\w' =w:=by
 have i:=Y λw=>F_ l g w;have j:=Y λw=>Dh l g w;have k:=Y λw=>AY l g w;have m:=Y λw=>F_ (gI l) (cL (VJ l) g) w;have hd:fC l=if !Mk.cW l then true else(dH l !=[])&&((gI l !=[])&&(dP ((gI l).headD 0).toNat&& !Mk.cW (gI l))):=rfl;rw[hd];clear hd;generalize dH l=p at *;generalize gI l=q at *;generalize Mk.cW l=c at *;generalize Mk.cW q=d at *;cases c
 .simp only[jC,bY];go_enter func244,ntmps244;go_wp2_with(go_at_call 195;go_call(i.u _)as e a ⟨rfl,rfl⟩);go_ret;exact⟨rfl,rfl⟩
 simp only[gz,cK,cE];cases o:(p==[]);focus
  have b:(p !=[])=true:=by simp[bne,o]
  rw[b,ja];cases q;focus
   simp only[bne_self_eq_false,iL]
  rotate_left
  .rename_i y r;have A:((y::r:U)==[])=false:=rfl;have n:((y::r:U) !=[])=true:=rfl;rw[n,ja];have x:∀h,(ByteArray.mk (y::r).toArray)[0]'h=y:=λh=>rfl;have s:=Y λw=>vz (y.toNat:Int) w;have t:((y::r:U).headD 0)=y:=rfl;rw[t];generalize dP (y.toNat:Int)=z at *;generalize f:(y::r:U)=q at *;have v:0<q.length:=by rw[<-f];simp
   clear f t;cases z
   .simp only[iL];go_enter func244,ntmps244;go_wp2_with first|(go_at_call 195;go_call(i.u _)as e a ⟨rfl,rfl⟩)|(go_at_call 249;go_call(j.u _)as e a ⟨rfl,rfl⟩)|(go_at_call 241;go_call(k.u _)as e a ⟨rfl,rfl⟩)|(go_at_call 190;go_call(s.u _)as e a ⟨rfl,rfl⟩)
    go_ret;exact⟨rfl,rfl⟩
   simp only[ja];go_enter func244,ntmps244;go_wp2_with first|(go_at_call 195;go_call(i.u _)as e a ⟨rfl,rfl⟩)|(go_at_call 195;go_call(m.u _)as e a ⟨rfl,rfl⟩)|(go_at_call 249;go_call(j.u _)as e a ⟨rfl,rfl⟩)|(go_at_call 241;go_call(k.u _)as e a ⟨rfl,rfl⟩)|(go_at_call 190;go_call(s.u _)as e a ⟨rfl,rfl⟩)
   go_ret;exact⟨rfl,rfl⟩
 rotate_left;focus
  have b:(p !=[])=false:=by simp[bne,o]
  rw[b,iL]
 all_goals
  go_enter func244,ntmps244;go_wp2_with first|(go_at_call 195;go_call(i.u _)as e a ⟨rfl,rfl⟩)|(go_at_call 249;go_call(j.u _)as e a ⟨rfl,rfl⟩)|(go_at_call 241;go_call(k.u _)as e a ⟨rfl,rfl⟩)
  go_ret;exact⟨rfl,rfl⟩
def VL(p v:U)(w:World):Calls prog 247 #[.agg #[.string ⟨p.toArray⟩,.string ⟨v.toArray⟩]] w λe w' =>e=.returned (.bool (oV p v))/\Below w.heap.size w w' :=by
 have hd:oV p v=if p==[120,109,108,110,115]||v==[104,116,116,112,58,47,47,119,119,119,46,119,51,46,111,114,103,47,50,48,48,48,47,120,109,108,110,115,47]then false else if p==[120,109,108]||v==[104,116,116,112,58,47,47,119,119,119,46,119,51,46,111,114,103,47,88,77,76,47,49,57,57,56,47,110,97,109,101,115,112,97,99,101]then p==[120,109,108]&&v==[104,116,116,112,58,47,47,119,119,119,46,119,51,46,111,114,103,47,88,77,76,47,49,57,57,56,47,110,97,109,101,115,112,97,99,101]else p==[]||v !=[]:=rfl;rw[hd];clear hd;cases a:(p==[120,109,108,110,115]);focus
  skip;cases b:(v==[104,116,116,112,58,47,47,119,119,119,46,119,51,46,111,114,103,47,50,48,48,48,47,120,109,108,110,115,47]);focus
   skip;cases d:(p==[120,109,108]);focus
    skip;cases c:(v==[104,116,116,112,58,47,47,119,119,119,46,119,51,46,111,114,103,47,88,77,76,47,49,57,57,56,47,110,97,109,101,115,112,97,99,101]);focus
     skip;cases f:(p==[]);focus
      skip;cases g:(v==[]);focus
       skip;simp only[bne,oU,nP,Au,ku,qN,kx,iL,ja,cK,gz,jC,bY,cE,a,b,d,c,f,g]
      rotate_left;focus
       skip;simp only[bne,oU,nP,Au,ku,qN,kx,iL,ja,cK,gz,jC,bY,cE,a,b,d,c,f,g]
     rotate_left 2;focus
      skip;simp only[bne,oU,nP,Au,ku,qN,kx,iL,ja,cK,gz,jC,bY,cE,a,b,d,c,f]
    rotate_left 3;focus
     skip;simp only[bne,oU,nP,Au,ku,qN,kx,iL,ja,cK,gz,jC,bY,cE,a,b,d,c]
   rotate_left 4;focus
    skip;cases c:(v==[104,116,116,112,58,47,47,119,119,119,46,119,51,46,111,114,103,47,88,77,76,47,49,57,57,56,47,110,97,109,101,115,112,97,99,101]);focus
     skip;simp only[bne,oU,nP,Au,ku,qN,kx,iL,ja,cK,gz,jC,bY,cE,a,b,d,c]
    rotate_left;focus
     skip;simp only[bne,oU,nP,Au,ku,qN,kx,iL,ja,cK,gz,jC,bY,cE,a,b,d,c]
  rotate_left 6;focus
   skip;simp only[bne,oU,nP,Au,ku,qN,kx,iL,ja,cK,gz,jC,bY,cE,a,b]
 rotate_left 7;focus
  skip;simp only[bne,oU,nP,Au,ku,qN,kx,iL,ja,cK,gz,jC,bY,cE,a]
 all_goals
  go_enter func247,ntmps247;go_wp2;go_ret;exact⟨rfl,(Below.refl w.heap.size w).alloc (a_ _) _⟩
def LO{c e:Type}(f:c->List e)(m:Nat)(b:∀a,(f a).length=m):∀(l:List c) (k:Nat) (h:k<l.length) (j:Nat),j<m->(l.flatMap f)[k*m+j]?=(f l[k])[j]?
 |a::l,0,_,j,d=>by simp only[mQ,Nat.zero_mul,jV,wR];rw[CQ<|by rwa[b]]
 |a::l,k+1,h,j,d=>by
  simp only[mQ,CO];rw[Aw<|by rw[b,yE];omega,b];have:(k+1)*m+j - m=k*m+j:=by rw[yE];omega
  rw[this];exact LO f m b l k (by simpa using h) j d
def LP{d:Nat}{a g n:Nat}{i:List Value}(h:w.ownsRow d e a (.slice (some ⟨g,0,none⟩) n c) n i)(j:Nat)(k:j<n*a):w.cell? ⟨g,j,none⟩=i[j]?:=by
 obtain⟨l,_⟩|⟨s,m,f,o,t,p,q,_,r,b⟩:=h.2
 .cases l
 cases o;rw[C_ w g j f _ _ p,<-b,yI k];simp
def vB{m:Nat}{i:Type}(f:i->List Value)(n:∀a,(f a).length=m){l:List i}(t:0<m)(h:w.ownsRow b e m (.slice a l.length c) l.length (l.flatMap f))(k:Nat)(o:k<l.length):
 ∃g,a=some ⟨g,0,none⟩/\g<w.heap.size/\∀j,j<m->w.cell? ⟨g,k*m+j,none⟩=(f l[k])[j]?:=by
 obtain⟨g,u,p,_,d⟩:=World.ownsRow.form h (by omega);injection p with q v x;subst q;refine⟨g,rfl,d,λj r=>?_⟩;rw[LP h (k*m+j) ?_]
 .exact LO f m n l k o j r
 have s:(k+1)*m<=l.length*m:=oO _ (by omega);rw[yE]at s;omega
def VM(l:List (U×U))(x:U×U)(p:U):lW (l++[x]) p=if x.1==p then x.2 else lW l p:=by simp[lW]
def Ga{a:Type}(l:List a)(i:Nat)(b:i<l.length):l.take (i+1)=l.take i++[l[i]]:=by
 rw[qM];simp[b]
def AZ(h:bC w b s L)(H:s.m.length<=300000000)(p:U):
 Calls prog 243 #[.pointer (some ⟨b,7,none⟩),.string ⟨p.toArray⟩] w λe w' =>e=.returned (.string ⟨(lW s.m p).toArray⟩)/\w' =w:=by
 have A:=h.cell;have B:=h.lt;have t:=Y λk C=>vB (m:=2) (l:=s.m) uH (λ_=>rfl) (by decide) (h.rows.own (fK s L)<|by simp[rowsOf]) k C;obtain⟨n,a⟩:=aj8 (lW s.m p);rw[<-a];rw[<-tv (l:=s.m)]at a;have d:=Y a;unfold cellsOf at A;clear h a;go_enter func243,ntmps243;go_wp2_with fail;generalize Value.slice L.ba s.m.length L.bc=I;go_loopg [5] s.m.length (λg D E=>E=w/\∃i:Nat,i<=s.m.length/\g=i/\D=.int .i64 ((i:Int) - 1)/\n=lW (s.m.take i) p);case atStart=>exact⟨rfl,s.m.length,a_ _,rfl,rfl,d.u⟩
 case round=>
  obtain⟨o,i,K,rfl,rfl,c⟩:=hrel;obtain rfl:=o.symm;clear d;cases gk with
  |zero=>
   have d:=Y (show n=[]from c);clear c;have e0:((0:Nat):Int) - 1= -1:=by decide
   rw[e0];go_wp2;go_ret;rw[d.u];exact⟨rfl,rfl⟩
  |succ j=>
   have e0:((j+1:Nat):Int) - 1=(j:Int):=by omega
   rw[e0];rw[Ga s.m j<|by omega,VM]at c;obtain⟨g,N,F,f⟩:=t.u j (by omega);have v:=f 0 (by decide);have y:=f 1 (by decide);have q:w.cell? ⟨g,j*2,none⟩=some (.string ⟨s.m[j].1.toArray⟩):=v;have r:w.cell? ⟨g,j*2+1,none⟩=some (.string ⟨s.m[j].2.toArray⟩):=y;generalize s.m[j]=x at *;obtain⟨G,O⟩:=x;have P:(j:Int)<(s.m.length:Int):=by omega
   clear f v y t;dsimp only at c q r;cases z:(G==p)
   .rw[z]at c;simp only[cK,cE]at c;have d:=Y c;clear c;go_wp2;go_roundg j;case measure=>omega
    case rel=>exact⟨rfl,j,by omega,rfl,rfl,d.u⟩
   rw[z]at c;simp only[bY]at c;have d:=Y c;clear c;go_wp2;go_ret;rw[d.u];exact⟨rfl,rfl⟩
def Di(h:bC w b s L)(c:s.m.length<=300000000)(p:U):
 Calls prog 240 #[.pointer (some ⟨b,7,none⟩),.string ⟨p.toArray⟩] w λe w' =>e=.returned (.bool (pX s.m p))/\w' =w:=by
 have a:=Y (AZ h c p);have hd:pX s.m p=(p==[]|| !(lW s.m p==[])):=rfl;rw[hd];clear hd h;generalize lW s.m p=v at *;cases f:(p==[])
 .simp only[ku];cases g:(v==[])
  .go_enter func240,ntmps240;go_wp2_with(go_at_call 243;go_call a.u as e d ⟨rfl,rfl⟩);go_ret;exact⟨rfl,rfl⟩
  go_enter func240,ntmps240;go_wp2_with(go_at_call 243;go_call a.u as e d ⟨rfl,rfl⟩);go_ret;exact⟨rfl,rfl⟩
 simp only[nP];go_enter func240,ntmps240;go_wp2;go_ret;exact⟨rfl,rfl⟩
def VN(h:bC w b s L)(a:s.m.length<=300000000)(n:U)(c:n.length<=100000000):
 Calls prog 235 #[.pointer (some ⟨b,7,none⟩),.string ⟨n.toArray⟩] w λe w' =>e=.returned (.string ⟨(lW s.m (dH n)).toArray⟩)/\w' =w:=by
 have d:=Y (AZ h a (dH n));have f:=Y (AY n c w);generalize lW s.m (dH n)=v at *;clear h;go_enter func235,ntmps235;go_wp2_with first|(go_at_call 243;go_call d.u as e g ⟨rfl,rfl⟩)|(go_at_call 241;go_call f.u as e g ⟨rfl,rfl⟩)
 go_ret;exact⟨rfl,rfl⟩
def yQ(h:bC w b s L)(d:s.m.length<=300000000)(n:U)(f:n.length<=100000000):
 Calls prog 230 #[.pointer (some ⟨b,0,none⟩),.string ⟨n.toArray⟩] w λe w' =>e=.returned (.string ⟨(Mk.bQ s n).toArray⟩)/\w' =w:=by
 have g:=Y (VN h d n f);have a:=h.cell;have hd:Mk.bQ s n=if s.on then lW s.m (dH n)else[]:=rfl;rw[hd];unfold cellsOf at a;clear h hd;generalize lW s.m (dH n)=v at *;cases c:s.on
 .simp only[cK,cE];rw[c]at a;go_enter func230,ntmps230;go_wp2;go_ret;exact⟨rfl,rfl⟩
 simp only[bY];rw[c]at a;go_enter func230,ntmps230;go_wp2_with(go_at_call 235;go_call g.u as e i ⟨rfl,rfl⟩);go_ret;exact⟨rfl,rfl⟩
def VO{p:Nat}{b:List aI}(h:w.ownsRow p 69 3 (.slice a b.length c) b.length (cQ b))(N:b.length<=32)(z:∀x∈b,x.B.length<=100000000)(n:U)(t:n.length<=100000000):
 Calls prog 238 #[.string ⟨n.toArray⟩,.slice a b.length c] w λe w' =>e=.returned (.bool (yM n b))/\w' =w:=by
 have A:=Y λk D=>vB (m:=3) (l:=b) gG (λ_=>rfl) (by decide) h k D;have B:=Y z;have E:=Y (LN n t w);obtain⟨o,d⟩:=aj8 (yM n b);rw[<-d];have j:=Y (show o=((b.drop 0).all (λa=>fC a.B)&&fC n)from d);clear h d z;go_enter func238,ntmps238;go_wp2_with fail;go_loopg [5] b.length (λg F G=>G=w/\∃i:Nat,i<=b.length/\g=b.length - i/\F=.int .i64 i/\o=((b.drop i).all (λa=>fC a.B)&&fC n));case atStart=>exact⟨rfl,0,by omega,rfl,rfl,j.u⟩
 case round=>
  obtain⟨v,i,O,rfl,rfl,f⟩:=hrel;obtain rfl:=v.symm;clear j;by_cases y:i<b.length
  .have H:decide ((i:Int)<(b.length:Int))=true:=aj_;have I:(i:Int)<(b.length:Int):=by omega
   obtain⟨g,K,L,r⟩:=A.u i y;have P:w.cell? ⟨g,i*3,none⟩=some (.string ⟨b[i].B.toArray⟩):=r 0 (by decide);have s:=Y (LN b[i].B (B.u _ (iZ y)) w);rw[gB y,AR]at f;generalize b[i].B=x at *;generalize fC x=q at *;clear r A B;subst K;cases q
   .simp only[iL]at f;have j:=Y f;clear f;go_wp2_with(go_at_call 244;go_call s.u as e C ⟨rfl,rfl⟩);go_ret;rw[j.u];exact⟨rfl,rfl⟩
   simp only[ja]at f;have j:=Y f;clear f;go_wp2_with(go_at_call 244;go_call s.u as e C ⟨rfl,rfl⟩);go_roundg (b.length - (i+1));case measure=>omega
   case rel=>exact⟨rfl,i+1,by omega,rfl,by simp,j.u⟩
  have H:decide ((i:Int)<(b.length:Int))=false:=aj9;rw[iF]at f;have j:=Y (show o=fC n by simpa using f);clear f;generalize fC n=q at *;go_wp2_with(go_at_call 244;go_call E.u as e C ⟨rfl,rfl⟩);go_ret;rw[j.u];exact⟨rfl,rfl⟩
def Dj(w:World)(n m:Nat):(w.drewN n).drewN m=w.drewN (n+m):=by simp[World.drewN,AL]
def Dk{A:Nat}{b:List aI}(h:w.ownsRow A 69 3 (.slice a b.length c) b.length (cQ b))(hl:b.length<=32)(G:∀x∈b,x.B.length<=100000000)(t:aI)(P:t.B.length<=100000000):
 Calls prog 248 #[.slice a b.length c,.agg #[.string ⟨t.B.toArray⟩,.string ⟨t.space.toArray⟩,.string ⟨t.val.toArray⟩]] w λe w' =>e=.returned (.bool (vw b t))/\Below w.heap.size w w' :=by
 have H:=Y λk B=>vB (m:=3) (l:=b) gG (λ_=>rfl) (by decide) h k B;have I:=Y G;have Q:=Y λw=>Dh t.B P w;obtain⟨p,f⟩:=aj8 (vw b t);rw[<-f];have o:=Y (show p=((b.drop 0).any λx=>x.space==t.space&&gI x.B==gI t.B)from f);clear h f G;generalize C:gI t.B=tl at *;clear C;go_enter func248,ntmps248;go_wp2_with(go_at_call 249;go_call(Q.u _)as e w1 ⟨rfl,rfl⟩);go_loopw [6] (λR S=>∃i:Nat,i<=b.length/\R=.int .i64 i/\p=((b.drop i).any λx=>x.space==t.space&&gI x.B==tl)/\∃n,S=(w.alloc (.cells #[.string ⟨t.B.toArray⟩,.string ⟨t.space.toArray⟩,.string ⟨t.val.toArray⟩] 69)).drewN n) λi _=>b.length - (intOf i).toNat
 case atStart=>exact⟨0,by omega,rfl,o.u,0,rfl⟩
 case round=>
  obtain⟨i,hi,rfl,d,m,rfl⟩:=hrel;clear o;by_cases D:i<b.length
  .have T:decide ((i:Int)<(b.length:Int))=true:=aj_;have X:(i:Int)<(b.length:Int):=by omega
   obtain⟨g,hg,E,q⟩:=H.u i D;have K:w.cell? ⟨g,i*3,none⟩=some (.string ⟨b[i].B.toArray⟩):=q 0 (by decide);have L:w.cell? ⟨g,i*3+1,none⟩=some (.string ⟨b[i].space.toArray⟩):=q 1 (by decide);have r:=Y λw=>Dh b[i].B (I.u _ (iZ D)) w;rw[gB D,yD]at d;generalize b[i].B=x at *;generalize b[i].space=y at *;generalize gI x=z at *;clear q H I;subst hg;obtain⟨W,v⟩:=aj8 ((w.alloc (.cells #[.string ⟨t.B.toArray⟩,.string ⟨t.space.toArray⟩,.string ⟨t.val.toArray⟩] 69)).drewN m);rw[<-v];have s:∀j,(w.alloc (.cells #[.string ⟨t.B.toArray⟩,.string ⟨t.space.toArray⟩,.string ⟨t.val.toArray⟩] 69)).cell? ⟨g,j,none⟩=w.cell? ⟨g,j,none⟩:=λj=>by simp only[World.cell?];rw[dG _ _ _ E]
   have d1:W.cell? ⟨g,i*3,none⟩=some (.string ⟨x.toArray⟩):=by rw[v,<-K,<-s];rfl
   have d2:W.cell? ⟨g,i*3+1,none⟩=some (.string ⟨y.toArray⟩):=by rw[v,<-L,<-s];rfl
   have d3:W.cell? ⟨w.heap.size,1,none⟩=some (.string ⟨t.space.toArray⟩):=by
    rw[v];show(w.alloc _).cell? _=_;simp only[World.cell?];rw[dI];rfl
   have F:=Y v;clear v s K L;cases N:(y==t.space)
   .rw[N]at d;simp only[iL,ku]at d;have o:=Y d;clear d r;go_wp2;go_quiet(fail);go_wp2;go_roundw
    case rel=>exact⟨i+1,by omega,by go_num,o.u,by rw[F.u];exact⟨_,Dj _ _ _⟩⟩
    case measure=>simp[intOf];omega
   rw[N]at d;simp only[ja]at d;cases O:(z==tl)
   .rw[O]at d;simp only[ku]at d;have o:=Y d;clear d;go_wp2;go_quiet((go_at_call 249;refine Calls.quiet_of_same (r.u _)));go_wp2;go_roundw
    case rel=>exact⟨i+1,by omega,by go_num,o.u,by rw[F.u];exact⟨_,Dj _ _ _⟩⟩
    case measure=>simp[intOf];omega
   rw[O]at d;simp only[nP]at d;have o:=Y d;clear d;go_wp2;go_quiet((go_at_call 249;refine Calls.quiet_of_same (r.u _)));go_wp2;go_ret;rw[o.u,F.u];exact⟨rfl,⟨rfl,rfl,rfl,by rw[heap_drewN,heap_drewN];simp,λk B=>by rw[heap_drewN,heap_drewN];exact dG _ _ _ B⟩⟩
  have T:decide ((i:Int)<(b.length:Int))=false:=aj9;rw[iF]at d;have o:=Y (show p=false by simpa using d);clear d;go_wp2;go_ret;rw[o.u];exact⟨rfl,⟨rfl,rfl,rfl,by rw[heap_drewN];simp,λk B=>by rw[heap_drewN];exact dG _ _ _ B⟩⟩
abbrev bS(t s:Z):Prop:=t.K=s.K/\t.aN=s.aN/\t.A=s.A/\t.od=s.od/\t.oa=s.oa/\t.S=s.S/\t.on=s.on/\t.O=s.O
def r_(s:Z):bS s s:=⟨rfl,rfl,rfl,rfl,rfl,rfl,rfl,rfl⟩
def GF{a b c:Z}(h:bS a b)(k:bS b c):bS a c:=by
 unfold bS at h k⊢;simp only[h,k,wP]
def uJ(s:Z)(c:Int):bS (bV s c) s:=by unfold bV;split<;>exact r_ s
def MK:∀(l:U) (s:Z),bS (Mk.dW s l) s
 |[],s=>r_ s
 |x::r,s=>GF (MK r _) (uJ s _)
def ML(s:Z)(p:Int×Int):bS (gD s p) s:=by unfold gD;split<;>simp only[bS,wP,uJ]
def MN(s:Z):bS (bK s) s:=by unfold bK;split<;>exact r_ s
def yY(s:Z)(e:Ev):bS (aX s e) s:=by unfold aX;simp only[bS,wP,MN]
def Dy(s:Z):bS (Mk.iy s) s:=r_ s
def Be(s:Z):bS (Mk.bH s) s:=r_ s
def GG(s:Z)(r:Mk.Rf):bS (Mk.kZ s r) s:=r_ s
def MO:∀(l:List (U×U)) (s:Z),bS (Mk.gJ s l) s
 |[],s=>r_ s
 |p::r,s=>GF (MO r _) (yY s _)
def MP:∀(l:List (U×U)) (s:Z),bS (Mk.iV s l) s
 |[],s=>r_ s
 |p::r,s=>GF (MP r _) (yY s _)
def XB(s:Z):bS (Mk.gK s) s:=MO _ s
def XC(s:Z):bS (Mk.jb s) s:=MP _ s
def XD(s:Z):bS (Mk.nO s) s:=r_ s
def MQ(s:Z):bS (bX s) s:=by unfold bX;simp only[bS,wP,yY,XB]
def MR(s:Z)(n:U):bS (bZ s n) s:=by unfold bZ;simp only[bS,wP,yY,Dy,XC,XD]
def XE(s:Z):bS (cG s).1 s:=by unfold cG;dsimp only;split<;>exact r_ s
def XF(s:Z):bS (dY s).1 s:=by unfold dY;(repeat' split)<;>simp only[bS,wP,XE]
def XG(s:Z)(x:Int):bS (gL s x) s:=by unfold gL;split<;>simp only[bS,wP,Dy,MQ]
def XH(s:Z)(x:Int):bS (ia s x).1 s:=by unfold ia;(repeat' split)<;>simp only[bS,wP,XF,XG]
def XI(s:Z):bS (kH s) s:=by unfold kH;simp only[bS,wP,MR]
def XJ(s:Z):bS (mS s) s:=by unfold mS;simp only[bS,wP,yY,Dy,Be]
def MS(s:Z):bS (kG s) s:=by unfold kG;simp only[bS,wP,yY,Dy,Be]
def XK(s:Z):bS (Mk.yA s) s:=r_ s
def Bf(s:Z)(x:Int):bS (cV s x).1 s:=by unfold cV;(repeat' split)<;>simp only[bS,wP,MK,ML]
def XL(s:Z)(x:Int):bS (fT s x).1 s:=by unfold fT;(repeat' split)<;>simp only[bS,wP,ML]
def XM(s:Z)(x:Int):bS (fD s x).1 s:=by unfold fD;(repeat' split)<;>simp only[bS,wP,uJ,GG]
def MU(s:Z)(x:Int):bS (fS s x).1 s:=by unfold fS;(repeat' split)<;>simp only[bS,wP,uJ]
def XN(s:Z)(x:Int):bS (iO s x).1 s:=by unfold iO;(repeat' split)<;>simp only[bS,wP]
def XO(s:Z)(x:Int):bS (fu s x).1 s:=by unfold fu;(repeat' split)<;>simp only[bS,wP,XJ,Bf]
def XP(s:Z)(x:Int):bS (cN s x).1 s:=by unfold cN;(repeat' split)<;>simp only[bS,wP,Be,MU]
def XQ(s:Z)(x:Int):bS (jD s x).1 s:=by unfold jD;(repeat' split)<;>simp only[bS,wP,MS]
def MV(s:Z)(x:Int):bS (dN s x).1 s:=by unfold dN;(repeat' split)<;>simp only[bS,wP,uJ,MS,Bf]
def XR(s:Z)(x:Int):bS (jK s x).1 s:=by unfold jK;(repeat' split)<;>simp only[bS,wP,MV]
def XS(s:Z)(x:Int):bS (h_ s x).1 s:=by unfold h_;(repeat' split)<;>simp only[bS,wP]
def XT(s:Z)(x:Int):bS (fw s x).1 s:=by unfold fw;(repeat' split)<;>simp only[bS,wP,GG,Bf]
def XU(s:Z)(x:Int):bS (fH s x).1 s:=by unfold fH;(repeat' split)<;>simp only[bS,wP,uJ,Bf]
def XV(s:Z)(x:Int):bS (mg s x).1 s:=by unfold mg;(repeat' split)<;>simp only[bS,wP,uJ]
def XW(s:Z)(x:Int):bS (eG s x).1 s:=by unfold eG;(repeat' split)<;>simp only[bS,wP,XV]
def XX(s:Z)(x:Int):bS (gF s x).1 s:=by unfold gF;(repeat' split)<;>simp only[bS,wP]
def XY(s:Z)(x:Int):bS (dQ s x).1 s:=by unfold dQ;(repeat' split)<;>simp only[bS,wP]
def GH(s:Z)(x:Int):bS (dR s x).1 s:=by unfold dR;(repeat' split)<;>simp only[bS,wP,XH]
def XZ(s:Z)(x:Int):bS (iP s x).1 s:=by unfold iP;(repeat' split)<;>simp only[bS,wP,Be,MU,GH]
def X_(s:Z)(x:Int):bS (gV s x).1 s:=by unfold gV;(repeat' split)<;>simp only[bS,wP,uJ,GH]
def Ya(s:Z)(x:Int):bS (jL s x).1 s:=by unfold jL;(repeat' split)<;>simp only[bS,wP,MQ,MR]
def MW(s:Z)(x:Int):bS (fI s x).1 s:=by unfold fI;(repeat' split)<;>simp only[bS,wP]
def Yb(s:Z)(x:Int):bS (mh s x).1 s:=by unfold mh;(repeat' split)<;>simp only[bS,wP,uJ]
def Yc(s:Z)(x:Int):bS (fU s x).1 s:=by unfold fU;(repeat' split)<;>simp only[bS,wP,Be,MW,Yb]
def Yd(s:Z)(x:Int):bS (gW s x).1 s:=by unfold gW;(repeat' split)<;>simp only[bS,wP]
def Ye(s:Z)(x:Int):bS (fA s x).1 s:=by unfold fA;(repeat' split)<;>simp only[bS,wP,GG,XK,Bf]
def MX(s:Z)(x:Int):bS (gh s x).1 s:=by unfold gh;(repeat' split)<;>simp only[bS,wP,XI]
def Yf(s:Z)(x:Int):bS (iC s x).1 s:=by unfold iC;(repeat' split)<;>simp only[bS,wP,MX]
def Yg(s:Z)(x:Int):bS (dV s x).1 s:=by unfold dV;(repeat' split)<;>simp only[bS,wP,GH,XZ,X_,Ya,MW,Yc,Yd]
def Yh(s:Z)(x:Int):bS (bU s x).1 s:=by unfold bU;(repeat' split)<;>simp only[bS,wP,XN,XP,XQ,XR,XW,XX,XY,MX,Yf,Yg]
def Dz(s:Z)(x:Int):bS (aP s x).1 s:=by unfold aP;(repeat' split)<;>simp only[bS,wP,XL,XM,XO,MV,XS,XT,XU,Ye,Yh]
def MY(s:Z)(x:Int):(aP s x).1.K=s.K:=(Dz s x).1
def MZ(s:Z)(x:Int):(aP s x).1.aN=s.aN:=(Dz s x).2.1
def Yi(s:Z)(x:Int):(aP s x).1.O=s.O:=(Dz s x).2.2.2.2.2.2.2
def Yj(s:Z):(bK s).A=s.A:=(MN s).2.2.1
abbrev Bg(t s:Z):Prop:=t.A=s.A/\t.od=s.od/\t.oa=s.oa/\t.S=s.S/\t.on=s.on
def Yk(s:Z)(x:Int):Bg (gX s x) s:=by unfold gX;(repeat' split)<;>exact⟨rfl,rfl,rfl,rfl,rfl⟩
def Yl(s:Z)(x:Int):Bg (eY s x).1 s:=by unfold eY;split<;>simp only[Bg,wP,Yk,Dz]
def M_(s:Z)(x:Int):Bg (kE s x).1 s:=by unfold kE;(repeat' split)<;>simp only[Bg,wP,Yl]
def GI(s:Z)(x:Int):(kE s x).1.A=s.A:=(M_ s x).1
abbrev GJ(t s:Z):Prop:=t.od=s.od/\t.oa=s.oa/\t.S=s.S/\t.on=s.on
def Ym(s:Z)(x:UInt8):GJ (aS s x) s:=by
 unfold aS;split
 .exact(M_ {s with A:=s.A+1} x.toNat).2
 exact⟨rfl,rfl,rfl,rfl⟩
def DC:∀(l:U) (s:Z),GJ (aQ s l) s
 |[],s=>⟨rfl,rfl,rfl,rfl⟩
 |x::r,s=>by
  have h:=DC r (aS s x);have k:=Ym s x;unfold GJ at h k⊢;unfold aQ;simp only[h,k,wP]
def Yn(l:U)(s:Z):(aQ s l).od=s.od:=(DC l s).1
def Yo(l:U)(s:Z):(aQ s l).S=s.S:=(DC l s).2.2.1
def Yp(l:U)(s:Z):(aQ s l).on=s.on:=(DC l s).2.2.2
