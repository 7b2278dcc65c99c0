import Derived.Test.YtmgfijllcdadgaaGreatDoorNW09
import Derived.Test.YtmgfijllcdadgaaGreatDoorNW00
set_option linter.unusedVariables false
set_option linter.unusedSimpArgs false
namespace Go.Proofs.YtmgfijllcdadgaaGreatDoor
open Go.RowKit
open Mk (St Bs Ev aD)
open Tryz
open Mk (fD jM jb iz gS iA fO jN dP fA gP jo cT dO jr ju gU gT jK aQ cH dR gH gQ Pv mH lf cW ja iy gG gN fu iP fw gq kE kF fC bO jc jv eU bI)
variable {s:St}
theorem FZ{w:World}{b:Nat}{L:Lay}(h:aK w b s L)(f:Bd s)(x:Int)(o:0≤x)(q:x≤255)(l:Sl s):
 Calls Tryz.prog 148 #[.pointer (some ⟨b,0,none⟩),.int .u8 x] w (Does w b s L (fD s x)):=by
 have u:=h.cell;have v:=h.lt;unfold cellsOf at u;by_cases p:s.state=12
 ·
  have g:=aB (FI h f x o q l);have d:fD s x=jM s x:=by simp[fD,p]
  rw[d];clear d h f;go_enter func148,ntmps148
  go_wp2_with(go_at_call 197;refine(aA g).mono ?_;rintro e w1 ⟨rfl,i,a⟩;have c:=aB a;clear a)
  go_ret;exact⟨rfl,i,aA c⟩
 have j:(s.state==12)=false:=by rw[beq_eq_false_iff_ne];exact p
 clear p;by_cases p:s.state=13
 ·
  have g:=aB (FJ h f x o q l);have d:fD s x=jb s x:=by simp[fD,j,p]
  rw[d];clear d h f;go_enter func148,ntmps148
  go_wp2_with(go_at_call 198;refine(aA g).mono ?_;rintro e w1 ⟨rfl,i,a⟩;have c:=aB a;clear a)
  go_ret;exact⟨rfl,i,aA c⟩
 have k:(s.state==13)=false:=by rw[beq_eq_false_iff_ne];exact p
 clear p;by_cases p:s.state=14
 ·
  have g:=aB (FP h f x o q);have d:fD s x=iz s x:=by simp[fD,j,k,p]
  rw[d];clear d h f;go_enter func148,ntmps148
  go_wp2_with(go_at_call 199;refine(aA g).mono ?_;rintro e w1 ⟨rfl,i,a⟩;have c:=aB a;clear a)
  go_ret;exact⟨rfl,i,aA c⟩
 have m:(s.state==14)=false:=by rw[beq_eq_false_iff_ne];exact p
 clear p;by_cases p:s.state=15
 ·
  have g:=aB (vw h f x o q);have d:fD s x=gS s x:=by simp[fD,j,k,m,p]
  rw[d];clear d h f;go_enter func148,ntmps148
  go_wp2_with(go_at_call 200;refine(aA g).mono ?_;rintro e w1 ⟨rfl,i,a⟩;have c:=aB a;clear a)
  go_ret;exact⟨rfl,i,aA c⟩
 have n:(s.state==15)=false:=by rw[beq_eq_false_iff_ne];exact p
 clear p;by_cases p:s.state=16
 ·
  have g:=aB (FL h f x o q);have d:fD s x=iA s x:=by simp[fD,j,k,m,n,p]
  rw[d];clear d h f;go_enter func148,ntmps148
  go_wp2_with(go_at_call 201;refine(aA g).mono ?_;rintro e w1 ⟨rfl,i,a⟩;have c:=aB a;clear a)
  go_ret;exact⟨rfl,i,aA c⟩
 have r:(s.state==16)=false:=by rw[beq_eq_false_iff_ne];exact p
 clear p;by_cases p:s.state=18
 ·
  have g:=aB (vq h f l x);have d:fD s x=fO s x:=by simp[fD,j,k,m,n,r,p]
  rw[d];clear d h f;go_enter func148,ntmps148
  go_wp2_with(go_at_call 202;refine(aA g).mono ?_;rintro e w1 ⟨rfl,i,a⟩;have c:=aB a;clear a)
  go_ret;exact⟨rfl,i,aA c⟩
 have t:(s.state==18)=false:=by rw[beq_eq_false_iff_ne];exact p
 clear p;have g:=aB (FK h f x o q l);have d:fD s x=jN s x:=by simp[fD,j,k,m,n,r,t]
 rw[d];clear d h f;go_enter func148,ntmps148
 go_wp2_with(go_at_call 203;refine(aA g).mono ?_;rintro e w1 ⟨rfl,i,a⟩;have c:=aB a;clear a)
 go_ret;exact⟨rfl,i,aA c⟩
theorem QN{w:World}{b:Nat}{L:Lay}(h:aK w b s L)(f:Bd s)(x:Int)(o:0≤x)(q:x≤255)(l:Sl s)(t:(Mk.innermost s).length≤100000000):
 Calls Tryz.prog 102 #[.pointer (some ⟨b,0,none⟩),.int .u8 x] w (Does w b s L (dP s x)):=by
 have A:=h.cell;have B:=h.lt;unfold cellsOf at A;by_cases p:s.state=3
 ·
  have g:=aB (FU h f x o q);have d:dP s x=fA s x:=by simp[dP,p]
  rw[d];clear d h f;go_enter func102,ntmps102
  go_wp2_with(go_at_call 139;refine(aA g).mono ?_;rintro e w1 ⟨rfl,i,a⟩;have c:=aB a;clear a)
  go_ret;exact⟨rfl,i,aA c⟩
 have j:(s.state==3)=false:=by rw[beq_eq_false_iff_ne];exact p
 clear p;by_cases p:s.state=4
 ·
  have g:=aB (FV h f x o q);have d:dP s x=gP s x:=by simp[dP,j,p]
  rw[d];clear d h f;go_enter func102,ntmps102
  go_wp2_with(go_at_call 140;refine(aA g).mono ?_;rintro e w1 ⟨rfl,i,a⟩;have c:=aB a;clear a)
  go_ret;exact⟨rfl,i,aA c⟩
 have k:(s.state==4)=false:=by rw[beq_eq_false_iff_ne];exact p
 clear p;by_cases p:s.state=5
 ·
  have g:=aB (EY h x);have d:dP s x=jo s x:=by simp[dP,j,k,p]
  rw[d];clear d h f;go_enter func102,ntmps102
  go_wp2_with(go_at_call 141;refine(aA g).mono ?_;rintro e w1 ⟨rfl,i,a⟩;have c:=aB a;clear a)
  go_ret;exact⟨rfl,i,aA c⟩
 have m:(s.state==5)=false:=by rw[beq_eq_false_iff_ne];exact p
 clear p;by_cases p:s.state=6
 ·
  have g:=aB (FW h f x o q);have d:dP s x=cT s x:=by simp[dP,j,k,m,p]
  rw[d];clear d h f;go_enter func102,ntmps102
  go_wp2_with(go_at_call 142;refine(aA g).mono ?_;rintro e w1 ⟨rfl,i,a⟩;have c:=aB a;clear a)
  go_ret;exact⟨rfl,i,aA c⟩
 have r:(s.state==6)=false:=by rw[beq_eq_false_iff_ne];exact p
 clear p;by_cases p:s.state=8
 ·
  have g:=aB (FH h f x o q);have d:dP s x=dO s x:=by simp[dP,j,k,m,r,p]
  rw[d];clear d h f;go_enter func102,ntmps102
  go_wp2_with(go_at_call 143;refine(aA g).mono ?_;rintro e w1 ⟨rfl,i,a⟩;have c:=aB a;clear a)
  go_ret;exact⟨rfl,i,aA c⟩
 have u:(s.state==8)=false:=by rw[beq_eq_false_iff_ne];exact p
 clear p;by_cases p:s.state=9
 ·
  have g:=aB (FX h f x);have d:dP s x=jr s x:=by simp[dP,j,k,m,r,u,p]
  rw[d];clear d h f;go_enter func102,ntmps102
  go_wp2_with(go_at_call 144;refine(aA g).mono ?_;rintro e w1 ⟨rfl,i,a⟩;have c:=aB a;clear a)
  go_ret;exact⟨rfl,i,aA c⟩
 have y:(s.state==9)=false:=by rw[beq_eq_false_iff_ne];exact p
 clear p;by_cases p:s.state=10
 ·
  have g:=aB (FY h f x o q);have d:dP s x=ju s x:=by simp[dP,j,k,m,r,u,y,p]
  rw[d];clear d h f;go_enter func102,ntmps102
  go_wp2_with(go_at_call 145;refine(aA g).mono ?_;rintro e w1 ⟨rfl,i,a⟩;have c:=aB a;clear a)
  go_ret;exact⟨rfl,i,aA c⟩
 have n:(s.state==10)=false:=by rw[beq_eq_false_iff_ne];exact p
 clear p;by_cases p:s.state=20
 ·
  have g:=aB (FT h f l x t);have d:dP s x=gU s x:=by simp[dP,j,k,m,r,u,y,n,p]
  rw[d];clear d h f;go_enter func102,ntmps102
  go_wp2_with(go_at_call 146;refine(aA g).mono ?_;rintro e w1 ⟨rfl,i,a⟩;have c:=aB a;clear a)
  go_ret;exact⟨rfl,i,aA c⟩
 have v:(s.state==20)=false:=by rw[beq_eq_false_iff_ne];exact p
 clear p;by_cases p:s.state=21
 ·
  have g:=aB (zq h f l t x);have d:dP s x=gT s x:=by simp[dP,j,k,m,r,u,y,n,v,p]
  rw[d];clear d h f;go_enter func102,ntmps102
  go_wp2_with(go_at_call 147;refine(aA g).mono ?_;rintro e w1 ⟨rfl,i,a⟩;have c:=aB a;clear a)
  go_ret;exact⟨rfl,i,aA c⟩
 have z:(s.state==21)=false:=by rw[beq_eq_false_iff_ne];exact p
 clear p;have g:=aB (FZ h f x o q l);have d:dP s x=fD s x:=by simp[dP,j,k,m,r,u,y,n,v,z]
 rw[d];clear d h f;go_enter func102,ntmps102
 go_wp2_with(go_at_call 148;refine(aA g).mono ?_;rintro e w1 ⟨rfl,i,a⟩;have c:=aB a;clear a)
 go_ret;exact⟨rfl,i,aA c⟩
abbrev aO(t s:St):Prop:=t.line=s.line∧t.column=s.column∧t.at_=s.at_∧t.od=s.od∧t.oa=s.oa∧t.ot=s.ot∧t.on=s.on∧t.ret=s.ret
theorem kH(s:St):aO s s:=⟨rfl,rfl,rfl,rfl,rfl,rfl,rfl,rfl⟩
theorem vA{a b c:St}(h:aO a b)(k:aO b c):aO a c:=by
 unfold aO at h k⊢;simp only[h,k,and_self]
theorem lU(s:St)(c:Int):aO (Mk.put s c) s:=by unfold Mk.put;split<;>exact kH s
theorem zx:∀(l:Bs) (s:St),aO (Mk.dY s l) s
 |[],s=>kH s
 |x::r,s=>vA (zx r _) (lU s _)
theorem zy(s:St)(p:Int×Int):aO (jK s p) s:=by unfold jK;split<;>simp only[aO,and_self,lU]
theorem zz(s:St):aO (aQ s) s:=by unfold aQ;split<;>exact kH s
theorem PS(s:St)(e:Ev):aO (Mk.add s e) s:=by unfold Mk.add;simp only[aO,and_self,zz]
theorem sK(s:St):aO (Mk.resume s) s:=kH s
theorem qA(s:St):aO (Mk.aY s) s:=kH s
theorem vB(s:St)(r:Mk.Rf):aO (Mk.setRef s r) s:=kH s
theorem zA:∀(l:List (Bs×Bs)) (s:St),aO (Mk.dI s l) s
 |[],s=>kH s
 |p::r,s=>vA (zA r _) (PS s _)
theorem zB:∀(l:List (Bs×Bs)) (s:St),aO (Mk.fB s l) s
 |[],s=>kH s
 |p::r,s=>vA (zB r _) (PS s _)
theorem QO(s:St):aO (Mk.cK s) s:=zA _ s
theorem QR(s:St):aO (Mk.eD s) s:=zB _ s
theorem QS(s:St):aO (Mk.leave s) s:=kH s
theorem zC(s:St):aO (cH s) s:=by unfold cH;simp only[aO,and_self,PS,QO]
theorem zD(s:St)(n:Bs):aO (dR s n) s:=by unfold dR;simp only[aO,and_self,PS,sK,QR,QS]
theorem QT(s:St):aO (Mk.declare s).1 s:=by unfold Mk.declare;dsimp only;split<;>exact kH s
theorem F_(s:St):aO (Mk.enter s).1 s:=by unfold Mk.enter;(repeat' split)<;>simp only[aO,and_self,QT]
theorem Ga(s:St)(x:Int):aO (gH s x) s:=by unfold gH;split<;>simp only[aO,and_self,sK,zC]
theorem Gb(s:St)(x:Int):aO (gQ s x).1 s:=by unfold gQ;(repeat' split)<;>simp only[aO,and_self,F_,Ga]
theorem Gc(s:St):aO (Pv s) s:=by unfold Pv;simp only[aO,and_self,zD]
theorem Gd(s:St):aO (mH s) s:=by unfold mH;simp only[aO,and_self,PS,sK,qA]
theorem zE(s:St):aO (lf s) s:=by unfold lf;simp only[aO,and_self,PS,sK,qA]
theorem Gf(s:St):aO (Mk.endValue s) s:=kH s
theorem qB(s:St)(x:Int):aO (cW s x).1 s:=by unfold cW;(repeat' split)<;>simp only[aO,and_self,zx,zy]
theorem Gg(s:St)(x:Int):aO (ja s x).1 s:=by unfold ja;(repeat' split)<;>simp only[aO,and_self,zy]
theorem Gh(s:St)(x:Int):aO (iy s x).1 s:=by unfold iy;(repeat' split)<;>simp only[aO,and_self,lU,vB]
theorem zF(s:St)(x:Int):aO (gG s x).1 s:=by unfold gG;(repeat' split)<;>simp only[aO,and_self,lU]
theorem Gi(s:St)(x:Int):aO (jo s x).1 s:=by unfold jo;(repeat' split)<;>simp only[aO,and_self]
theorem Gj(s:St)(x:Int):aO (gN s x).1 s:=by unfold gN;(repeat' split)<;>simp only[aO,and_self,Gd,qB]
theorem Gm(s:St)(x:Int):aO (dO s x).1 s:=by unfold dO;(repeat' split)<;>simp only[aO,and_self,qA,zF]
theorem Gn(s:St)(x:Int):aO (jr s x).1 s:=by unfold jr;(repeat' split)<;>simp only[aO,and_self,zE]
theorem zG(s:St)(x:Int):aO (fu s x).1 s:=by unfold fu;(repeat' split)<;>simp only[aO,and_self,lU,zE,qB]
theorem Gp(s:St)(x:Int):aO (ju s x).1 s:=by unfold ju;(repeat' split)<;>simp only[aO,and_self,zG]
theorem Gq(s:St)(x:Int):aO (iP s x).1 s:=by unfold iP;(repeat' split)<;>simp only[aO,and_self]
theorem Gr(s:St)(x:Int):aO (fw s x).1 s:=by unfold fw;(repeat' split)<;>simp only[aO,and_self,vB,qB]
theorem Gs(s:St)(x:Int):aO (gq s x).1 s:=by unfold gq;(repeat' split)<;>simp only[aO,and_self,lU,qB]
theorem Gu(s:St)(x:Int):aO (kE s x).1 s:=by unfold kE;(repeat' split)<;>simp only[aO,and_self,lU]
theorem Gv(s:St)(x:Int):aO (fA s x).1 s:=by unfold fA;(repeat' split)<;>simp only[aO,and_self,Gu]
theorem Gw(s:St)(x:Int):aO (gP s x).1 s:=by unfold gP;(repeat' split)<;>simp only[aO,and_self]
theorem Gx(s:St)(x:Int):aO (cT s x).1 s:=by unfold cT;(repeat' split)<;>simp only[aO,and_self]
theorem vC(s:St)(x:Int):aO (fO s x).1 s:=by unfold fO;(repeat' split)<;>simp only[aO,and_self,Gb]
theorem Gy(s:St)(x:Int):aO (jM s x).1 s:=by unfold jM;(repeat' split)<;>simp only[aO,and_self,qA,zF,vC]
theorem Gz(s:St)(x:Int):aO (jb s x).1 s:=by unfold jb;(repeat' split)<;>simp only[aO,and_self,lU,vC]
theorem GA(s:St)(x:Int):aO (jN s x).1 s:=by unfold jN;(repeat' split)<;>simp only[aO,and_self,zC,zD]
theorem zH(s:St)(x:Int):aO (gS s x).1 s:=by unfold gS;(repeat' split)<;>simp only[aO,and_self]
theorem GD(s:St)(x:Int):aO (kF s x).1 s:=by unfold kF;(repeat' split)<;>simp only[aO,and_self,lU]
theorem GF(s:St)(x:Int):aO (iz s x).1 s:=by unfold iz;(repeat' split)<;>simp only[aO,and_self,qA,zH,GD]
theorem GG(s:St)(x:Int):aO (iA s x).1 s:=by unfold iA;(repeat' split)<;>simp only[aO,and_self]
theorem GH(s:St)(x:Int):aO (fC s x).1 s:=by unfold fC;(repeat' split)<;>simp only[aO,and_self,vB,Gf,qB]
theorem zI(s:St)(x:Int):aO (gT s x).1 s:=by unfold gT;(repeat' split)<;>simp only[aO,and_self,Gc]
theorem GI(s:St)(x:Int):aO (gU s x).1 s:=by unfold gU;(repeat' split)<;>simp only[aO,and_self,zI]
theorem GJ(s:St)(x:Int):aO (fD s x).1 s:=by unfold fD;(repeat' split)<;>simp only[aO,and_self,vC,Gy,Gz,GA,zH,GF,GG]
theorem GK(s:St)(x:Int):aO (dP s x).1 s:=by unfold dP;(repeat' split)<;>simp only[aO,and_self,Gi,Gm,Gn,Gp,Gv,Gw,Gx,zI,GI,GJ]
theorem vD(s:St)(x:Int):aO (bO s x).1 s:=by unfold bO;(repeat' split)<;>simp only[aO,and_self,Gg,Gh,Gj,zG,Gq,Gr,Gs,GH,GK]
theorem GL(s:St)(x:Int):(bO s x).1.line=s.line:=(vD s x).1
theorem GM(s:St)(x:Int):(bO s x).1.column=s.column:=(vD s x).2.1
theorem GN(s:St):(aQ s).at_=s.at_:=(zz s).2.2.1
abbrev qC(t s:St):Prop:=t.at_=s.at_∧t.od=s.od∧t.oa=s.oa∧t.ot=s.ot∧t.on=s.on
theorem GQ(s:St)(x:Int):qC (jc s x) s:=by unfold jc;(repeat' split)<;>exact⟨rfl,rfl,rfl,rfl,rfl⟩
theorem GR(s:St)(x:Int):qC (jv s x).1 s:=by unfold jv;split<;>simp only[qC,and_self,GQ,vD]
theorem zJ(s:St)(x:Int):qC (Mk.read s x).1 s:=by unfold Mk.read;(repeat' split)<;>simp only[qC,and_self,GR]
theorem GU(s:St)(x:Int):(Mk.read s x).1.at_=s.at_:=(zJ s x).1
abbrev vE(t s:St):Prop:=t.od=s.od∧t.oa=s.oa∧t.ot=s.ot∧t.on=s.on
theorem GV(s:St)(x:UInt8):vE (eU s x) s:=by
 unfold eU;split
 .exact(zJ {s with at_:=s.at_+1} x.toNat).2
 exact⟨rfl,rfl,rfl,rfl⟩
theorem vF:∀(l:Bs) (s:St),vE (bI s l) s
 |[],s=>⟨rfl,rfl,rfl,rfl⟩
 |x::r,s=>by
  have h:=vF r (eU s x);have k:=GV s x;unfold vE at h k⊢;unfold bI;simp only[h,k,and_self]
theorem GX(l:Bs)(s:St):(bI s l).od=s.od:=(vF l s).1
theorem GY(l:Bs)(s:St):(bI s l).ot=s.ot:=(vF l s).2.2.1
end Go.Proofs.YtmgfijllcdadgaaGreatDoor
