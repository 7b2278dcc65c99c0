import Derived.Test.YtmgfijllcdadgaaGreatDoorNW16
import Derived.Test.YtmgfijllcdadgaaGreatDoorNW18
set_option linter.unusedVariables false
set_option linter.unusedSimpArgs false
set_option maxHeartbeats 8000000
set_option maxRecDepth 100000
namespace Go.Proofs.YtmgfijllcdadgaaGreatDoor.V
open Go.RowKit
open Mk (Bs Ev aD)
open Rf (R)
open Go.Proofs.Tryz
open Rf (dZ jP lz jA pu lX nQ)
variable {base:Nat}{w:World}{v:Value}
section
variable {f:Nat}{r:R}{t nm:Bs}{c:Int}
theorem Jw(h:¬r.at_<r.s.length):dZ nm (f+1) r t c=({r with stop:=1},false):=by
 rw[dZ,if_neg h]
theorem Jy(h:r.at_+1=r.s.length)(a:r.byte r.at_=63):dZ nm (f+1) r t c=({r with at_:=r.at_+1,stop:=1},false):=by
 rw[dZ,if_pos (by omega),if_pos (by simp[h,a])]
theorem Jz(h:r.at_+1<r.s.length)(a:r.byte r.at_=63)(b:r.byte (r.at_+1)=62):dZ nm (f+1) r t c=(Rf.tell {r with at_:=r.at_+2} ⟨5,nm,[],t,[]⟩,true):=by
 rw[dZ,if_pos (by omega),if_neg (by simp;omega),if_pos (by simp[a,b])]
theorem JA(h:r.at_+1<r.s.length)(a:r.byte r.at_=63)(b:r.byte (r.at_+1)≠62)(d:c=r.ot):dZ nm (f+1) r t c=(Rf.beyond r (r.at_+1),false):=by
 rw[dZ,if_pos (by omega),if_neg (by simp;omega),if_neg (by simp[b]),if_pos (by simp[a,d])]
theorem JB(h:r.at_<r.s.length)(a:r.byte r.at_≠63)(b:c=r.ot):dZ nm (f+1) r t c=(Rf.beyond r r.at_,false):=by
 rw[dZ,if_pos h,if_neg (by simp[a]),if_neg (by simp[a]),if_neg (by simp[a]),if_pos (by simp[b])]
theorem AU(h:r.at_<r.s.length)(a:r.byte r.at_≠63∨(r.at_+1<r.s.length∧r.byte (r.at_+1)≠62))(b:c≠r.ot):dZ nm (f+1) r t c=if(Rf.character r).2.2 then dZ nm f (Rf.character r).1 (t++(Rf.character r).2.1) (c+1)else((Rf.character r).1,false):=by
 rw[dZ,if_pos h];rcases a with a|⟨a,d⟩
 .rw[if_neg (by simp[a]),if_neg (by simp[a]),if_neg (by simp[a]),if_neg (by simpa using b)]
 rw[if_neg (by simp;omega),if_neg (by simp[d]),if_neg (by simp[b]),if_neg (by simpa using b)]
end
section
variable {w w' :World}{b:Nat}{s:R}{L:aH}
theorem JC(nm:Bs)(h:aI w b s L)(hl:bT s)(hev:s.events.length≤4*s.at_+100)(a7:s.s.length≤100000000):Calls Tryz.prog 153 #[.pointer (some ⟨b,0,none⟩),.string ⟨nm.toArray⟩] w (iC w b s L (dZ nm (s.s.length+1) s [] 0)):=by
 have HM:=aB h;have HL:=aB hl;have a4:=Kp.refl hl.at_;obtain⟨a0,O⟩:∃a0,a0=dZ nm (s.s.length+1) s [] 0:=⟨_,rfl⟩;rw[←O];have aa:=h.lt;have D:=aB O;clear h O hl;go_enter func153,ntmps153
 go_wp2_with fail
 go_loopg [5,6] (s.s.length+1) (fun g s4 s5 wx=>∃(r:R) (t:Bs) (c:Int) (L1:aH),s4=.string ⟨t.toArray⟩∧s5=.int .i64 c∧0≤c∧c≤r.ot∧a0=dZ nm g r t c∧s.s.length - r.at_<g∧Kp s r∧t.length≤r.at_∧aL w b (aR s L) wx r L1)
 case atStart=>exact⟨s,[],0,L,rfl,rfl,by omega,(aA HL).t0,aA D,by omega,a4,by simp,(aA HM).start⟩
 case round=>
  obtain⟨r,t,c,L1,rfl,rfl,p,q,hfin,hg,m,u,hm⟩:=hrel;have P:=m.ok (aA HL);obtain⟨f,rfl⟩:∃f,gk=f+1:=⟨gk - 1,by omega⟩;have h1:=P.len;have h2:=P.at_;have z:r.s.length≤100000000:=by rw[m.s];exact a7
  have Q:=aB (gy hm.rd P);have A:=aB hm;have J:=aB P;have d:r.s.length - r.at_<f+1:=by rw[m.s];exact hg
  have Y:=aB m;have l:r.events.length≤1000000000:=by
   have:=m.ev;have:=m.len;omega
  clear hm P hg HM D a4;by_cases N:r.at_<r.s.length
  .rw[show Rf.ends r=(r,false) by simp[Rf.ends,N]]at Q;obtain⟨y,K,ab,hy⟩:=bH r r.at_ N;have ad:(r.at_:Int)<(r.s.length:Int):=by omega
   by_cases E:(y.toNat:Int)=63
   .have e1:((y.toNat:Int)==63)=true:=by simpa using E
    by_cases h6:r.at_+1<r.s.length
    .obtain⟨y2,F,a9,Z⟩:=bH r (r.at_+1) h6;have ae:(r.at_:Int)+1<(r.s.length:Int):=by omega
     have af:((r.at_:Int)+1).toNat=r.at_+1:=by omega
     have eA:((r.at_:Int)+1==(r.s.length:Int))=false:=by simp;omega
     by_cases h7:(y2.toNat:Int)=62
     .have e3:((y2.toNat:Int)==62)=true:=by simpa using h7
      rw[Jz h6 (by rw[K];exact E) (by rw[F];exact h7)]at hfin;have D:=aB hfin;have HT:=aB (fun(W:World) (L' :aH) (hW:aI W b {r with at_:=r.at_+2} L')=>mV hW ⟨5,nm,[],t,[]⟩ none 0 0 (jw ⟨rfl,rfl,rfl⟩) (fun k hk=>by cases hk) l);clear hfin K hy m l d u p q z F Z E h7;go_wp2_with(go_at_call 105;refine(aA Q).mono ?_;rintro e w1 ⟨rfl,X,a⟩;have i:=aB ((aA A).call a);have n:=a.rd.cell;have G:=a.rd.frozen;have x:=a.rd.lt;clear a;unfold aF at n)
      go_quiet(fail)
      go_wp2
      go_quiet(fail)
      go_wp2
      go_quiet(fail)
      go_wp2_with(go_at_call 152;refine(aA HT _ _ (((aA i).drewN _).store 5 _ {r with at_:=r.at_+2} (by simp[aF]) rfl rfl rfl).rd).mono ?_;rintro e w3 ⟨rfl,M,o⟩)
      go_ret;rw[aA D];exact⟨rfl,M,(((aA i).drewN _).store 5 _ {r with at_:=r.at_+2} (by simp[aF]) rfl rfl rfl).call o⟩
     have e3:((y2.toNat:Int)==62)=false:=by simpa using h7
     by_cases B:c=r.ot
     .rw[JA h6 (by rw[K];exact E) (by rw[F];exact h7) B]at hfin;have e2:(c==r.ot)=true:=by simpa using B
      have D:=aB hfin;have HH:=aB h6;clear hfin K hy m l d u p q z F Z E h7 B;go_wp2_with(go_at_call 105;refine(aA Q).mono ?_;rintro e w1 ⟨rfl,X,a⟩;have i:=aB ((aA A).call a);have n:=a.rd.cell;have G:=a.rd.frozen;have x:=a.rd.lt;clear a;unfold aF at n)
      go_quiet(fail)
      go_wp2
      go_quiet(fail)
      go_wp2
      go_quiet(fail)
      go_wp2_with(go_at_call 154;refine(pG ((aA i).drewN _).rd (aA J) (r.at_+1) (aA HH)).mono ?_;rintro e w2 ⟨rfl,M,o⟩)
      go_ret;rw[aA D];exact⟨rfl,M,((aA i).drewN _).call o⟩
     rw[AU N (.inr ⟨h6,by rw[F];exact h7⟩) B]at hfin;have e2:(c==r.ot)=false:=by simpa using B
     have v:=gX N;have HC:=aB (fun(W:World) (L' :aH) (hW:aI W b r L')=>nR hW (aA J) N);generalize S:Rf.character r=ch at *;obtain⟨r3,t3,o3⟩:=ch;cases o3 with
     |false=>
      simp only[Bool.false_eq_true,if_false]at hfin;have D:=aB hfin;clear hfin K hy m l d u p q z E B v S F Z h7;go_wp2_with(go_at_call 105;refine(aA Q).mono ?_;rintro e w1 ⟨rfl,X,a⟩;have i:=aB ((aA A).call a);have n:=a.rd.cell;have G:=a.rd.frozen;have x:=a.rd.lt;clear a;unfold aF at n)
      go_quiet(fail)
      go_wp2
      go_quiet(fail)
      go_wp2
      go_quiet(fail)
      go_wp2_with(go_at_call 155;refine(aA HC _ _ ((aA i).drewN _).rd).mono ?_;rintro e w2 ⟨rfl,M,o⟩)
      go_ret;rw[aA D];exact⟨rfl,M,((aA i).drewN _).call o⟩
     |true=>
      simp only[if_true]at hfin;obtain⟨k,H,j,I,C⟩:=v.2 rfl;have a5:=lD t t3;have a6:t.length≤100000000:=by omega
      have a8:t3.length≤100000000:=by have:=C;simp at this;omega
      have HZ:=aB (And.intro hfin (And.intro v.1 (And.intro H (And.intro j (And.intro I (And.intro C (And.intro d (And.intro u (And.intro p (And.intro q B))))))))));have a1:wrap64 (c+1)=c+1:=by
       have:=(aA J).t1;unfold wrap64;omega
      clear hfin K hy m l d u p q z E B v S H j I C F Z h7;go_wp2_with(go_at_call 105;refine(aA Q).mono ?_;rintro e w1 ⟨rfl,X,a⟩;have i:=aB ((aA A).call a);have n:=a.rd.cell;have G:=a.rd.frozen;have x:=a.rd.lt;clear a;unfold aF at n)
      go_quiet(fail)
      go_wp2
      go_quiet(fail)
      go_wp2
      go_quiet(fail)
      go_wp2_with(go_at_call 155;refine(aA HC _ _ ((aA i).drewN _).rd).mono ?_;rintro e w2 ⟨rfl,M,o⟩;have a2:=aB (((aA i).drewN _).call o);clear o)
      obtain⟨hfin,v,H,j,I,C,d,u,p,q,B⟩:=aA HZ;have T:r.s=s.s:=(aA Y).s;have a3:r3.ot=r.ot:=by rw[j]
      go_roundg f
      case measure=>omega
      case rel=>exact⟨r3,t++t3,c+1,M,rfl,by rw[a1],by omega,by rw[a3];omega,hfin,by rw[j,←T];simp;omega,(aA Y).trans v,by rw[j];simp;omega,aA a2⟩
    have eA:((r.at_:Int)+1==(r.s.length:Int))=true:=by simp;omega
    rw[Jy (by omega) (by rw[K];exact E)]at hfin;have D:=aB hfin;clear hfin K hy m l d u p q z E;go_wp2_with(go_at_call 105;refine(aA Q).mono ?_;rintro e w1 ⟨rfl,X,a⟩;have i:=aB ((aA A).call a);have n:=a.rd.cell;have G:=a.rd.frozen;have x:=a.rd.lt;clear a;unfold aF at n)
    go_quiet(fail)
    go_wp2
    go_quiet(fail)
    go_wp2
    go_ret;rw[aA D];exact⟨rfl,X,(((aA i).drewN _).store 5 _ {r with at_:=r.at_+1} (by simp[aF]) rfl rfl rfl).store 6 _ {r with at_:=r.at_+1,stop:=1} rfl rfl rfl rfl⟩
   have e1:((y.toNat:Int)==63)=false:=by simpa using E
   by_cases B:c=r.ot
   .rw[JB N (by rw[K];exact E) B]at hfin;have e2:(c==r.ot)=true:=by simpa using B
    have D:=aB hfin;have HH:=aB N;clear hfin K hy m l d u p q z E B;go_wp2_with(go_at_call 105;refine(aA Q).mono ?_;rintro e w1 ⟨rfl,X,a⟩;have i:=aB ((aA A).call a);have n:=a.rd.cell;have G:=a.rd.frozen;have x:=a.rd.lt;clear a;unfold aF at n)
    go_quiet(fail)
    go_wp2_with(go_at_call 154;refine(pG ((aA i).drewN _).rd (aA J) r.at_ (aA HH)).mono ?_;rintro e w2 ⟨rfl,M,o⟩)
    go_ret;rw[aA D];exact⟨rfl,M,((aA i).drewN _).call o⟩
   rw[AU N (.inl (by rw[K];exact E)) B]at hfin;have e2:(c==r.ot)=false:=by simpa using B
   have v:=gX N;have HC:=aB (fun(W:World) (L' :aH) (hW:aI W b r L')=>nR hW (aA J) N);generalize S:Rf.character r=ch at *;obtain⟨r3,t3,o3⟩:=ch;cases o3 with
   |false=>
    simp only[Bool.false_eq_true,if_false]at hfin;have D:=aB hfin;clear hfin K hy m l d u p q z E B v S;go_wp2_with(go_at_call 105;refine(aA Q).mono ?_;rintro e w1 ⟨rfl,X,a⟩;have i:=aB ((aA A).call a);have n:=a.rd.cell;have G:=a.rd.frozen;have x:=a.rd.lt;clear a;unfold aF at n)
    go_quiet(fail)
    go_wp2_with(go_at_call 155;refine(aA HC _ _ ((aA i).drewN _).rd).mono ?_;rintro e w2 ⟨rfl,M,o⟩)
    go_ret;rw[aA D];exact⟨rfl,M,((aA i).drewN _).call o⟩
   |true=>
    simp only[if_true]at hfin;obtain⟨k,H,j,I,C⟩:=v.2 rfl;have a5:=lD t t3;have a6:t.length≤100000000:=by omega
    have a8:t3.length≤100000000:=by have:=C;simp at this;omega
    have HZ:=aB (And.intro hfin (And.intro v.1 (And.intro H (And.intro j (And.intro I (And.intro C (And.intro d (And.intro u (And.intro p (And.intro q B))))))))));have a1:wrap64 (c+1)=c+1:=by
     have:=(aA J).t1;unfold wrap64;omega
    clear hfin K hy m l d u p q z E B v S H j I C;go_wp2_with(go_at_call 105;refine(aA Q).mono ?_;rintro e w1 ⟨rfl,X,a⟩;have i:=aB ((aA A).call a);have n:=a.rd.cell;have G:=a.rd.frozen;have x:=a.rd.lt;clear a;unfold aF at n)
    go_quiet(fail)
    go_wp2_with(go_at_call 155;refine(aA HC _ _ ((aA i).drewN _).rd).mono ?_;rintro e w2 ⟨rfl,M,o⟩;have a2:=aB (((aA i).drewN _).call o);clear o)
    obtain⟨hfin,v,H,j,I,C,d,u,p,q,B⟩:=aA HZ;have T:r.s=s.s:=(aA Y).s;have a3:r3.ot=r.ot:=by rw[j]
    go_roundg f
    case measure=>omega
    case rel=>exact⟨r3,t++t3,c+1,M,rfl,by rw[a1],by omega,by rw[a3];omega,hfin,by rw[j,←T];simp;omega,(aA Y).trans v,by rw[j];simp;omega,aA a2⟩
  rw[show Rf.ends r=({r with stop:=1},true) by simp[Rf.ends,N]]at Q;rw[Jw N]at hfin;have D:=aB hfin;clear hfin m l d u p q z;go_wp2_with(go_at_call 105;refine(aA Q).mono ?_;rintro e w1 ⟨rfl,X,a⟩)
  go_ret;rw[aA D];exact⟨rfl,X,(aA A).call a⟩
end
theorem JD:(List.range 256).all (fun n=>bits .or .u8 (n:Int) 32==(((UInt8.ofNat n)|||32).toNat:Int))=true:=by decide+kernel
theorem JE(x:UInt8):bits .or .u8 (x.toNat:Int) 32=((x|||32).toNat:Int):=by
 have h:=List.all_eq_true.1 JD x.toNat (List.mem_range.2 x.toNat_lt);have a:UInt8.ofNat x.toNat=x:=UInt8.ofNat_toNat;rw[a]at h;simpa using h
theorem wC(x:UInt8)(n:Nat)(c:n<256):((x.toNat:Int) !=(n:Int))= !(x==UInt8.ofNat n):=by
 rw[Bool.eq_iff_iff];simp;constructor
 .intro h a;subst a;apply h;simp;omega
 intro h a;apply h;have b:x.toNat=n:=by omega
 rw[←b];exact UInt8.ofNat_toNat.symm
theorem JF(w:World)(a b:Nat):(w.drewN a).drewN b=w.drewN (a+b):=by simp[World.drewN,Nat.add_assoc]
theorem JG(a b c:UInt8):Rf.jq [a,b,c]=((a|||32==120)&&(b|||32==109)&&(c|||32==108)):=rfl
theorem sJ(l:Bs)(A:l.length≤100000000)(w:World):Calls Tryz.prog 150 #[.string ⟨l.toArray⟩] w fun e w' =>e=.returned (.bool (Rf.jq l))∧∃m,w' =w.drewN m:=by
 by_cases u:l.length=3
 .obtain⟨a,b,c,rfl⟩:∃a b c,l=[a,b,c]:=by
   match l,u with
   |[a,b,c],_=>exact⟨a,b,c,rfl⟩
  rw[JG];obtain⟨f,d⟩:∃f,f=((a|||32==120)&&(b|||32==109)&&(c|||32==108)):=⟨_,rfl⟩;rw[←d];have r:=aB d;clear d u A;go_enter func150,ntmps150
  go_wp2_with fail
  go_loopg [3] 3 (fun g B C=>∃(i m:Nat),i≤3∧g=3 - i∧B=.int .i64 i∧C=w.drewN m∧(0<i→(a|||32==120)=true)∧(1<i→(b|||32==109)=true)∧(2<i→(c|||32==108)=true))
  case atStart=>exact⟨0,0,by omega,rfl,rfl,rfl,fun h=>by omega,fun h=>by omega,fun h=>by omega⟩
  case round=>
   obtain⟨i,m,Q,rfl,rfl,rfl,p,s,v⟩:=hrel;by_cases D:i<3
   .obtain⟨x,k,E,F,G,H,j,q⟩:∃(x:UInt8) (k:Nat),[a,b,c][i]?=some x∧k<256∧(∀h,(ByteArray.mk [a,b,c].toArray)[i]'h=x)∧(∀h,(ByteArray.mk #[120,109,108])[i]'h=UInt8.ofNat k)∧((x|||32==UInt8.ofNat k)=false→f=false)∧((x|||32==UInt8.ofNat k)=true→(0<i+1→(a|||32==120)=true)∧(1<i+1→(b|||32==109)=true)∧(2<i+1→(c|||32==108)=true)):=by
     have:i=0∨i=1∨i=2:=by omega
     rcases this with rfl|rfl|rfl
     .exact⟨a,120,rfl,by omega,fun h=>rfl,fun h=>rfl,fun h=>by rw[aA r];have:(a|||32==120)=false:=h;simp[this],fun h=>⟨fun _=>h,fun h=>by omega,fun h=>by omega⟩⟩
     .exact⟨b,109,rfl,by omega,fun h=>rfl,fun h=>rfl,fun h=>by rw[aA r];have:(b|||32==109)=false:=h;simp[this],fun h=>⟨fun _=>p (by omega),fun _=>h,fun h=>by omega⟩⟩
     exact⟨c,108,rfl,by omega,fun h=>rfl,fun h=>rfl,fun h=>by rw[aA r];have:(c|||32==108)=false:=h;simp[this],fun h=>⟨fun _=>p (by omega),fun _=>s (by omega),fun _=>h⟩⟩
    have y:decide ((i:Int)<3)=true:=by simp;omega
    have I:(i:Int)<3:=by omega
    have J:=JE x;have n:=wC (x|||32) k F;have K:((UInt8.ofNat k).toNat:Int)=(k:Int):=by simp;omega
    have z:=aB (And.intro j q);clear p s v j q E;cases t:(x|||32==UInt8.ofNat k)
    .rw[t]at n;have o:=aB ((aA z).1 t);have L:(((x.toNat|||32:Nat):Int) !=(k:Int) % 256)=true:=by
      rw[show(k:Int) % 256=(k:Int) by omega];rw[UInt8.toNat_or]at n;exact n
     clear n;go_wp2_with fail
     go_quiet(fail)
     go_wp2
     go_ret;rw[aA o];exact⟨rfl,_,JF _ _ _⟩
    rw[t]at n;have L:(((x.toNat|||32:Nat):Int) !=(k:Int) % 256)=false:=by
     rw[show(k:Int) % 256=(k:Int) by omega];rw[UInt8.toNat_or]at n;exact n
    clear n;go_wp2_with fail
    go_quiet(fail)
    go_wp2
    obtain⟨M,N,O⟩:=(aA z).2 t;go_roundg (3 - (i+1))
    case measure=>omega
    case rel=>exact⟨i+1,_,by omega,rfl,by simp,rfl,M,N,O⟩
   have y:decide ((i:Int)<3)=false:=by simp;omega
   have o:=aB (show f=true by rw[aA r,p (by omega),s (by omega),v (by omega)];rfl);clear p s v;go_wp2
   go_ret;rw[aA o];exact⟨rfl,_,rfl⟩
 have P:Rf.jq l=false:=by
  match l,u with
  |[],_=>rfl
  |[_],_=>rfl
  |[_,_],_=>rfl
  |[_,_,_],h=>exact absurd rfl h
  |_::_::_::_::_,_=>rfl
 rw[P];have y:((l.length:Int) !=3)=true:=by simp;omega
 go_enter func150,ntmps150
 go_wp2
 go_ret;exact⟨rfl,0,rfl⟩
theorem JH(l:Bs)(x:l.length≤100000000)(w:World):Calls Tryz.prog 151 #[.string ⟨l.toArray⟩] w fun e w' =>e=.returned (.bool (Rf.dN l))∧w' =w:=by
 obtain⟨c,b⟩:∃c,c=Rf.dN l:=⟨_,rfl⟩;rw[←b];have d:=aB b;clear b;go_enter func151,ntmps151
 go_wp2_with fail
 go_loopg [3] l.length (fun g q r=>r=w∧∃i:Nat,i≤l.length∧g=l.length - i∧q=.int .i64 i∧c=Rf.dN (l.drop i))
 case atStart=>exact⟨rfl,0,by omega,rfl,rfl,aA d⟩
 case round=>
  obtain⟨n,i,z,rfl,rfl,a⟩:=hrel;obtain rfl:=n.symm;clear d;by_cases p:i<l.length
  .have s:decide ((i:Int)<(l.length:Int))=true:=by simp;omega
   have t:(i:Int)<(l.length:Int):=by omega
   obtain⟨y,k⟩:∃y,l[i]?=some y:=⟨l[i],by simp[p]⟩;have u:∀h,(ByteArray.mk l.toArray)[i]'h=y:=fun h=>by
    have:=jQ l i p h;rw[this];have:=List.getElem?_eq_some_iff.1 k;exact this.2
   rw[drop_at k]at a;have f:Rf.dN (y::l.drop (i+1))=(y==58||Rf.dN (l.drop (i+1))):=rfl;rw[f]at a;have j:=wC y 58 (by omega);cases m:(y==58)
   .rw[m]at a;simp only[Bool.false_or]at a;have v:((y.toNat:Int)==58)=false:=by
     have o:(y==UInt8.ofNat 58)=false:=m;rw[o]at j;simpa using j
    have d:=aB a;clear a j f k;go_wp2
    go_roundg (l.length - (i+1))
    case measure=>omega
    case rel=>exact⟨rfl,i+1,by omega,rfl,by simp,aA d⟩
   rw[m]at a;simp only[Bool.true_or]at a;have v:((y.toNat:Int)==58)=true:=by
    have o:(y==UInt8.ofNat 58)=true:=m;rw[o]at j;simpa using j
   have d:=aB a;clear a j f k;go_wp2
   go_ret;rw[aA d];exact⟨rfl,rfl⟩
  have s:decide ((i:Int)<(l.length:Int))=false:=by simp;omega
  rw[List.drop_of_length_le (by omega)]at a;have d:=aB (show c=false from a);clear a;go_wp2
  go_ret;rw[aA d];exact⟨rfl,rfl⟩
theorem wD(x:UInt8)(l:Bs):jP (x::l)=(if x==58 then 1 else 0)+jP l:=by
 unfold jP;rw[List.filter_cons];cases x==58
 .simp
 simp;omega
theorem tq(x:UInt8)(l:Bs)(i a:Nat):lz (x::l) i a=lz l (i+1) (if x==58 then i else a):=rfl
theorem AV:∀(l:Bs) (i a:Nat),a≤i→lz l i a≤i+l.length
 |[],i,a,h=>by simpa[lz]using h
 |x::l,i,a,h=>by
  rw[tq];have:=AV l (i+1) (if x==58 then i else a) (by split<;>omega);rw[List.length_cons];omega
theorem AX:∀(l:Bs) (i a:Nat),a≤i→0<jP l→lz l i a<i+l.length
 |[],i,a,_,h=>by simp[jP]at h
 |x::l,i,a,h,b=>by
  rw[tq];rw[wD]at b;by_cases g:0<jP l
  .have:=AX l (i+1) (if x==58 then i else a) (by split<;>omega) g;rw[List.length_cons];omega
  cases d:x==58
  .rw[d]at b;simp at b;omega
  rw[if_pos rfl];have:∀(l:Bs) (i a:Nat),jP l=0→lz l i a=a:=by
   intro l;induction l with
   |nil=>intro i a _;rfl
   |cons y l ih=>
    intro i a h;rw[wD]at h;rw[tq];cases c:y==58
    .rw[c]at h;exact ih _ _ (by simpa using h)
    rw[c]at h;simp at h
  rw[this l _ _ (by omega)];simp
theorem tu(l:Bs)(hl:l.length≤100000000)(w:World):Calls Tryz.prog 159 #[.string ⟨l.toArray⟩] w fun e w' =>e=.returned (.tuple #[.string ⟨(Rf.parts l).1.toArray⟩,.string ⟨(Rf.parts l).2.1.toArray⟩,.bool (Rf.parts l).2.2])∧∃n,w' =w.drewN n:=by
 obtain⟨k,m⟩:∃k,k=Rf.parts l:=⟨_,rfl⟩;rw[←m];obtain⟨N,z⟩:∃N,N=jP l:=⟨_,rfl⟩;obtain⟨A,t⟩:∃A,A=lz l 0 0:=⟨_,rfl⟩;have C:A≤l.length:=by rw[t];have:=AV l 0 0 (by omega);omega
 have c:0<N→A<l.length:=by intro g;rw[t];have:=AX l 0 0 (by omega) (by omega);omega
 have D:N≤l.length:=by rw[z];unfold jP;exact List.length_filter_le _ _
 have o:=aB (show k=(if N=0 then([],l,true)else if decide (1<N)||decide (A=0)||decide (A+1=l.length)|| !Rf.eC ((l.getD (A+1) 0).toNat:Int)then([],[],false)else(l.take A,l.drop (A+1),true)) by rw[m,z,t];rfl);have E:=aB z;have HA:=aB t;clear m z t;go_enter func159,ntmps159
 go_upto_block 0 with fail
 go_cut [5,6] (fun F G H=>H=w∧F=.int .i64 (N:Int)∧G=.int .i64 (A:Int))
 case first=>
  go_wp2_with fail
  go_loopg [5,6,7] l.length (fun g F G Y H=>H=w∧∃i n a:Nat,i≤l.length∧n≤i∧a≤i∧g=l.length - i∧Y=.int .i64 i∧F=.int .i64 n∧G=.int .i64 a∧Hid (N=n+jP (l.drop i)∧A=lz (l.drop i) i a))
  case atStart=>exact⟨rfl,0,0,0,by omega,by omega,by omega,rfl,rfl,rfl,rfl,⟨by rw[aA E];simp,by rw[aA HA];simp⟩⟩
  case round=>
   obtain⟨I,i,n,a,hi,hn,ha,rfl,rfl,rfl,rfl,u⟩:=hrel;obtain rfl:=I.symm;clear o E HA C c D;by_cases v:i<l.length
   .have J:decide ((i:Int)<(l.length:Int))=true:=by simp;omega
    have K:(i:Int)<(l.length:Int):=by omega
    obtain⟨y,p⟩:∃y,l[i]?=some y:=⟨l[i],by simp[v]⟩;have L:∀h,(ByteArray.mk l.toArray)[i]'h=y:=fun h=>by
     have:=jQ l i v h;rw[this];exact(List.getElem?_eq_some_iff.1 p).2
    have j:=aA u;rw[drop_at p,wD,tq]at j;have r:=wC y 58 (by omega);cases s:(y==58)
    .rw[s]at j;have M:((y.toNat:Int)==58)=false:=by
      have O:(y==UInt8.ofNat 58)=false:=s;rw[O]at r;simpa using r
     have f:=aB j;clear j u p r s;go_wp2_with fail
     go_roundg (l.length - (i+1))
     case measure=>omega
     case rel=>exact⟨rfl,i+1,n,a,by omega,by omega,by omega,rfl,by go_num,rfl,rfl,aB (by have:=aA f;simpa using this)⟩
    rw[s]at j;have M:((y.toNat:Int)==58)=true:=by
     have O:(y==UInt8.ofNat 58)=true:=s;rw[O]at r;simpa using r
    have f:=aB j;clear j u p r s;go_wp2_with fail
    go_roundg (l.length - (i+1))
    case measure=>omega
    case rel=>exact⟨rfl,i+1,n+1,i,by omega,by omega,by omega,rfl,by go_num,by go_num,rfl,aB (by have:=aA f;simp at this;exact⟨by omega,this.2⟩)⟩
   have J:decide ((i:Int)<(l.length:Int))=false:=by simp;omega
   have j:=aA u;rw[List.drop_of_length_le (by omega)]at j;have f:=aB (show n=N∧a=A from⟨by have:=j.1;simp[jP]at this;omega,j.2.symm⟩);clear j u;go_wp2_with fail
   go_meet
   exact⟨rfl,by rw[(aA f).1],by rw[(aA f).2]⟩
 case rest=>
 obtain⟨P,rfl,rfl⟩:=hcut;obtain rfl:=P.symm;clear E HA;by_cases R:N=0
 .have b:=aA o;rw[if_pos R]at b;have e0:((N:Int)==0)=true:=by simp;omega
  have d:=aB b;clear b o c;go_wp2
  go_ret3
  rw[aA d];exact⟨rfl,0,rfl⟩
 have e0:((N:Int)==0)=false:=by simp;omega
 have Z:=c (by omega);have b:=aA o;rw[if_neg R]at b;by_cases S:1<N
 .have J:decide ((1:Int)<(N:Int))=true:=by simp;omega
  rw[decide_eq_true S]at b;simp only[Bool.true_or,if_true]at b;have d:=aB b;clear b o c;go_wp2
  go_ret3
  rw[aA d];exact⟨rfl,0,rfl⟩
 have J:decide ((1:Int)<(N:Int))=false:=by simp;omega
 rw[decide_eq_false S,Bool.false_or]at b;by_cases T:A=0
 .have M:((A:Int)==0)=true:=by simp;omega
  rw[decide_eq_true T]at b;simp only[Bool.true_or,if_true]at b;have d:=aB b;clear b o c;go_wp2
  go_ret3
  rw[aA d];exact⟨rfl,0,rfl⟩
 have M:((A:Int)==0)=false:=by simp;omega
 rw[decide_eq_false T,Bool.false_or]at b;have a0:wrap64 ((l.length:Int) - 1)=(l.length:Int) - 1:=by unfold wrap64;omega
 by_cases v:A+1=l.length
 .have e3:((A:Int)==(l.length:Int) - 1)=true:=by simp;omega
  rw[decide_eq_true v]at b;simp only[Bool.true_or,if_true]at b;have d:=aB b;clear b o c;go_wp2
  go_ret3
  rw[aA d];exact⟨rfl,0,rfl⟩
 have e3:((A:Int)==(l.length:Int) - 1)=false:=by simp;omega
 rw[decide_eq_false v,Bool.false_or]at b;have x:A+1<l.length:=by omega
 obtain⟨y,p⟩:∃y,l[A+1]?=some y:=⟨l[A+1],by simp[x]⟩;have q:l.getD (A+1) 0=y:=by rw[List.getD,p];rfl
 rw[q]at b;have L:∀h,(ByteArray.mk l.toArray)[A+1]'h=y:=fun h=>by
  have:=jQ l (A+1) x h;rw[this];exact(List.getElem?_eq_some_iff.1 p).2
 have K:(A:Int)+1<(l.length:Int):=by omega
 have a1:((A:Int)+1).toNat=A+1:=by omega
 have a2:wrap64 ((A:Int)+1)=(A:Int)+1:=by unfold wrap64;omega
 have B:=aB (fun w=>pz (y.toNat:Int) w);cases X:Rf.eC (y.toNat:Int)
 .rw[X]at b B;have d:=aB (show k=([],[],false)from b);clear b o c p q;go_wp2_with(go_at_call 82;refine(aA B _).mono ?_;rintro e w' ⟨rfl,Q⟩;obtain rfl:=Q.symm)
  go_ret3
  rw[aA d];exact⟨rfl,0,rfl⟩
 rw[X]at b B;have d:=aB (show k=(l.take A,l.drop (A+1),true)from b);have a3:ByteArray.extract ⟨l.toArray⟩ 0 A=⟨(l.take A).toArray⟩:=by simpa using iS l 0 A
 have a4:ByteArray.extract ⟨l.toArray⟩ (A+1) l.length=⟨(l.drop (A+1)).toArray⟩:=by
  have:=iS l (A+1) (l.length - (A+1));rw[show A+1+(l.length - (A+1))=l.length by omega,List.take_of_length_le (by simp)]at this;exact this
 clear b o c p q;go_wp2_with(go_at_call 82;refine(aA B _).mono ?_;rintro e w' ⟨rfl,Q⟩;obtain rfl:=Q.symm)
 go_quiet(fail)
 go_wp2
 go_ret3
 rw[aA d];exact⟨rfl,_,rfl⟩
theorem tv(l:Bs)(o:l.length≤100000000)(w:World):Calls Tryz.prog 162 #[.string ⟨l.toArray⟩] w fun e w' =>e=.returned (.tuple #[.string ⟨(Rf.declaration l).1.toArray⟩,.bool (Rf.declaration l).2])∧w' =w:=by
 obtain⟨f,a⟩:∃f,f=Rf.declaration l:=⟨_,rfl⟩;rw[←a];unfold Rf.declaration at a;by_cases b:l=jA
 .rw[if_pos b]at a;have c:=aB a;subst b;clear a;go_enter func162,ntmps162
  go_wp2
  go_ret2;rw[aA c];exact⟨rfl,rfl⟩
 rw[if_neg b]at a;have p:(l==[120,109,108,110,115])=false:=by rw[beq_eq_false_iff_ne];exact b
 by_cases h:6<l.length
 .have i:decide ((6:Int)<(l.length:Int))=true:=by simp;omega
  have j:(6:Int)≤(l.length:Int):=by omega
  have k:ByteArray.extract ⟨l.toArray⟩ 0 6=⟨(l.take 6).toArray⟩:=by simpa using iS l 0 6
  have m:ByteArray.extract ⟨l.toArray⟩ 6 l.length=⟨(l.drop 6).toArray⟩:=by
   have:=iS l 6 (l.length - 6);rw[show 6+(l.length - 6)=l.length by omega,List.take_of_length_le (by simp)]at this;exact this
  by_cases d:l.take 6=jA++[58]
  .have n:(l.take 6==[120,109,108,110,115,58])=true:=by rw[beq_iff_eq];exact d
   rw[if_pos ⟨h,d⟩]at a;have c:=aB a;clear a d b;go_enter func162,ntmps162
   go_wp2
   go_ret2;rw[aA c];exact⟨rfl,rfl⟩
  have n:(l.take 6==[120,109,108,110,115,58])=false:=by rw[beq_eq_false_iff_ne];exact d
  rw[if_neg (fun g=>d g.2)]at a;have c:=aB a;clear a d b;go_enter func162,ntmps162
  go_wp2
  go_ret2;rw[aA c];exact⟨rfl,rfl⟩
 have i:decide ((6:Int)<(l.length:Int))=false:=by simp;omega
 rw[if_neg (fun g=>h g.1)]at a;have c:=aB a;clear a b;go_enter func162,ntmps162
 go_wp2
 go_ret2;rw[aA c];exact⟨rfl,rfl⟩
theorem beq_lit(v l:Bs):(v==l)=decide (v=l):=by by_cases h:v=l<;>simp[h]
theorem JI(p v:Bs)(w:World):Calls Tryz.prog 207 #[.string ⟨p.toArray⟩,.string ⟨v.toArray⟩] w fun e w' =>e=.returned (.bool (pu p v))∧∃n,w' =w.drewN n:=by
 obtain⟨c,a⟩:∃c,c=pu p v:=⟨_,rfl⟩;rw[←a];have q:(v==[104,116,116,112,58,47,47,119,119,119,46,119,51,46,111,114,103,47,88,77,76,47,49,57,57,56,47,110,97,109,101,115,112,97,99,101])=decide (v=Rf.iN):=beq_lit v Rf.iN;have r:(v==[104,116,116,112,58,47,47,119,119,119,46,119,51,46,111,114,103,47,50,48,48,48,47,120,109,108,110,115,47])=decide (v=Rf.lN):=beq_lit v Rf.lN;have s:(v==[])=decide (v=[]):=beq_lit v [];have f:(p==[120,109,108,110,115])=decide (p=jA):=beq_lit p jA;have g:(p==[120,109,108])=decide (p=lX):=beq_lit p lX;have h:(p==[])=decide (p=[]):=beq_lit p [];have b:c=(if decide (p=jA)then false else if decide (p=lX)then decide (v=Rf.iN)else if decide (p=[])then(!decide (v=Rf.iN)&& !decide (v=Rf.lN))else(!decide (v=[])&& !decide (v=Rf.iN)&& !decide (v=Rf.lN))):=by
  rw[a];unfold pu;simp
 clear a;generalize decide (v=Rf.iN)=i at *;generalize decide (v=Rf.lN)=j at *;generalize decide (v=[])=k at *;generalize decide (p=jA)=l at *;generalize decide (p=lX)=m at *;generalize decide (p=[])=o at *;have d:=aB b;clear b;cases l<;>cases m<;>cases o<;>cases i<;>cases j<;>cases k
 all_goals
  go_enter func207,ntmps207
  go_wp2_with fail
  first
   |(go_ret;rw[aA d];exact⟨rfl,0,rfl⟩)
   |(go_quiet(fail);go_wp2;go_ret;rw[aA d];exact⟨rfl,_,rfl⟩)
def Sh(l:List aD):Prop:=∀a∈l,a.name.length≤100000000
theorem JJ{a:List aD}(o:w.ownsRow base 69 3 v a.length (aV a))(s:Sh a)(p:Bs):
 Calls Tryz.prog 206 #[v,.string ⟨p.toArray⟩] w fun e w' =>e=.returned (.tuple #[.string ⟨(Rf.among a p).1.toArray⟩,.bool (Rf.among a p).2])∧∃n,w' =w.drewN n:=by
 have N:=kO o;have f:=aB (fun k E=>kN bZ (fun _=>rfl) (by decide) o rfl k E);obtain⟨O,P,rfl⟩:=b_ o;obtain⟨b,d⟩:∃b,b=Rf.among a p:=⟨_,rfl⟩;rw[←d];have t:Hid (b=Rf.among (a.drop 0) p):=d;clear o d;go_enter func206,ntmps206
 go_wp2_with fail
 go_loopg [6] a.length (fun g I J=>∃k n:Nat,J=w.drewN n∧k≤a.length∧g=a.length - k∧I=.int .i64 k∧Hid (b=Rf.among (a.drop k) p))
 case atStart=>exact⟨0,0,rfl,by omega,rfl,rfl,t⟩
 case round=>
  obtain⟨k,n,rfl,E,rfl,rfl,q⟩:=hrel;by_cases h:k<a.length
  .obtain⟨r,Q,u,_,y⟩:=(aA f) k h;injection u with u _ z;subst u;subst z;have A:=y 0 (by decide);have B:=y 2 (by decide);simp[bZ]at A B;have F:∀m,(w.drewN m).cell? ⟨r,k*3,none⟩=w.cell? ⟨r,k*3,none⟩:=fun m=>by simp only[World.cell?,heap_drewN]
   have G:∀m,(w.drewN m).cell? ⟨r,k*3+2,none⟩=w.cell? ⟨r,k*3+2,none⟩:=fun m=>by simp only[World.cell?,heap_drewN]
   have hd:Rf.among (a.drop k) p=if(Rf.declaration a[k].name).2&&decide ((Rf.declaration a[k].name).1=p)then(a[k].val,true)else Rf.among (a.drop (k+1)) p:=by
    rw[List.drop_eq_getElem_cons h];rfl
   have c:=aB ((aA q).trans hd);have i:=s a[k] (List.getElem_mem h);clear y f t q hd;generalize a[k]=x at *;have C:=aB (fun w=>tv x.name i w);generalize Rf.declaration x.name=K at *;obtain⟨D,L⟩:=K;have M:decide ((k:Int)<(a.length:Int))=true:=by simp;omega
   cases L with
   |false=>
    simp only[Bool.false_and,Bool.false_eq_true,if_false]at c;go_wp2_with(go_at_call 162;refine(aA C _).mono ?_;rintro e w' ⟨rfl,j⟩;obtain rfl:=j.symm)
    go_roundg (a.length - (k+1))
    case measure=>omega
    case rel=>exact⟨k+1,n,rfl,by omega,rfl,by go_num,c⟩
   |true=>
    cases H:(D==p)
    .have l:decide (D=p)=false:=by simpa using H
     simp only[l,Bool.and_false,Bool.false_eq_true,if_false]at c;clear l;go_wp2_with(go_at_call 162;refine(aA C _).mono ?_;rintro e w' ⟨rfl,j⟩;obtain rfl:=j.symm)
     go_roundg (a.length - (k+1))
     case measure=>omega
     case rel=>exact⟨k+1,n,rfl,by omega,rfl,by go_num,c⟩
    have l:decide (D=p)=true:=by simpa using H
    simp only[l,Bool.and_self,if_true]at c;clear l;go_wp2_with(go_at_call 162;refine(aA C _).mono ?_;rintro e w' ⟨rfl,j⟩;obtain rfl:=j.symm)
    go_ret2;exact⟨by rw[aA c];rfl,_,rfl⟩
  have M:decide ((k:Int)<(a.length:Int))=false:=by simp;omega
  have hfin:Hid (b=([],false)):=(show b=([],false) by rw[aA q,List.drop_of_length_le (by omega)];rfl);clear f t q;go_wp2
  go_ret2;exact⟨by rw[aA hfin];rfl,_,rfl⟩
theorem wE:∀(b:List (List aD×Value)),b.flatMap (fun q=>[q.2])=b.map (·.2)
 |[]=>rfl
 |a::l=>by rw[List.flatMap_cons,wE l];rfl
structure mX(w:World)(base:Nat)(v:Value)(gs:List (List aD×Value)):Prop where
 row:w.ownsRow base 63 1 v gs.length (gs.map (·.2))
 tag:∀p∈gs,w.ownsRow base 69 3 p.2 p.1.length (aV p.1)∧Sh p.1
theorem mY{e:TypeId}{size:Nat}{n:Nat}{a:List Value}(h:w.ownsRow base e size v n a)(m:Nat):(w.drewN m).ownsRow base e size v n a:=
 fP (r:=⟨e,size,v,n,a⟩) h fun k _=>by rw[heap_drewN]
theorem mX.drewN{w:World}{base:Nat}{v:Value}{a:List (List aD×Value)}(h:mX w base v a)(m:Nat):mX (w.drewN m) base v a:=
 ⟨mY h.row m,fun p b=>⟨mY (h.tag p b).1 m,(h.tag p b).2⟩⟩
theorem tC{a:List (List aD×Value)}(h:mX w base v a)(p:Bs):
 Calls Tryz.prog 160 #[v,.string ⟨p.toArray⟩] w fun e w' =>e=.returned (.tuple #[.string ⟨(Rf.bound (a.map (·.1)) p).1.toArray⟩,.bool (Rf.bound (a.map (·.1)) p).2])∧∃n,w' =w.drewN n:=by
 have X:=kO h.row;have hrow:w.ownsRow base 63 1 v a.length (a.flatMap fun q=>[q.2]):=by
  have:a.flatMap (fun q=>[q.2])=a.map (·.2):=wE a;rw[this];exact h.row
 have i:=aB (fun k r=>kN (fun q:List aD×Value=>[q.2]) (fun _=>rfl) (by decide) hrow rfl k r);have HA:=aB (fun(k:Nat) (r:k<a.length) (m:Nat)=>JJ (mY (h.tag a[k] (List.getElem_mem r)).1 m) (h.tag a[k] (List.getElem_mem r)).2 p);have j:=fun(k:Nat) (r:k<a.length)=>b_ (h.tag a[k] (List.getElem_mem r)).1
 obtain⟨Y,Z,rfl⟩:=b_ h.row;obtain⟨d,b⟩:∃d,d=Rf.bound (a.map (·.1)) p:=⟨_,rfl⟩;rw[←b];unfold Rf.bound at b;have u:(p==[120,109,108])=decide (p=lX):=beq_lit p lX;have C:(p==[])=decide (p=[]):=beq_lit p [];clear h hrow;by_cases t:p=lX
 .rw[if_pos t]at b;rw[decide_eq_true t]at u;have y:=aB b;clear b t C i HA j;go_enter func160,ntmps160
  go_wp2
  go_ret2;exact⟨by rw[aA y];rfl,0,rfl⟩
 rw[if_neg t]at b;rw[decide_eq_false t]at u;generalize J:decide (p=[])=K at *;have y:=aB b;clear b t;go_enter func160,ntmps160
 go_wp2_with fail
 go_loopg [6,7,8] a.length (fun g L M N O=>∃(k n:Nat) (c:Bs) (o:Bool),O=w.drewN n∧k≤a.length∧g=a.length - k∧L=.string ⟨c.toArray⟩∧M=.bool o∧N=.int .i64 k∧Hid (d=nQ p ((a.drop k).map (·.1)) c o))
 case atStart=>exact⟨0,0,[],K,rfl,by omega,rfl,rfl,rfl,rfl,y⟩
 case round=>
  obtain⟨k,n,c,o,rfl,r,rfl,rfl,rfl,rfl,B⟩:=hrel;by_cases l:k<a.length
  .obtain⟨F,d1,D,_,G⟩:=(aA i) k l;injection D with D _ E;subst D;subst E;have z:=G 0 (by decide);simp at z;have H:∀m,(w.drewN m).cell? ⟨F,k,none⟩=w.cell? ⟨F,k,none⟩:=fun m=>by simp only[World.cell?,heap_drewN]
   have hd:nQ p ((a.drop k).map (·.1)) c o=if(Rf.among a[k].1 p).2 then nQ p ((a.drop (k+1)).map (·.1)) (Rf.among a[k].1 p).1 true else nQ p ((a.drop (k+1)).map (·.1)) c o:=by
    rw[List.drop_eq_getElem_cons l];rfl
   have f:=aB ((aA B).trans hd);have s:=aB (aA HA k l);obtain⟨av,cv,I⟩:=j k l;clear G i y B hd HA j;generalize a[k]=x at *;obtain⟨P,xv⟩:=x;simp only at I;subst I;simp only at f s z;generalize Rf.among P p=Q at *;obtain⟨R,A⟩:=Q;have S:decide ((k:Int)<(a.length:Int))=true:=by simp;omega
   cases A with
   |false=>
    simp only[Bool.false_eq_true,if_false]at f;go_wp2_with(go_at_call 206;refine(aA s _).mono ?_;rintro e w' ⟨rfl,T,rfl⟩)
    go_roundg (a.length - (k+1))
    case measure=>omega
    case rel=>exact⟨k+1,_,c,o,rfl,by omega,rfl,rfl,rfl,by go_num,f⟩
   |true=>
    simp only[if_true]at f;go_wp2_with(go_at_call 206;refine(aA s _).mono ?_;rintro e w' ⟨rfl,T,rfl⟩)
    go_roundg (a.length - (k+1))
    case measure=>omega
    case rel=>exact⟨k+1,_,R,true,rfl,by omega,rfl,rfl,rfl,by go_num,f⟩
  have S:decide ((k:Int)<(a.length:Int))=false:=by simp;omega
  have hfin:Hid (d=(c,o)):=(show d=(c,o) by rw[aA B,List.drop_of_length_le (by omega)];rfl);clear i y B HA j;go_wp2
  go_ret2;exact⟨by rw[aA hfin];rfl,_,rfl⟩
theorem oQ{f:List (List aD×Value)}(h:mX w base v f)(p:Bs):
 Calls Tryz.prog 163 #[v,.string ⟨p.toArray⟩] w fun e w' =>e=.returned (.string ⟨(Rf.aZ (f.map (·.1)) p).toArray⟩)∧∃n,w' =w.drewN n:=by
 have i:=aB (tC h p);obtain⟨j,k,rfl⟩:=b_ h.row;obtain⟨c,a⟩:∃c,c=Rf.aZ (f.map (·.1)) p:=⟨_,rfl⟩;rw[←a];unfold Rf.aZ at a;have d:(p==[])=decide (p=[]):=beq_lit p [];by_cases b:p=[]
 .rw[if_pos b]at a;rw[decide_eq_true b]at d;have g:=aB a;clear a h b;go_enter func163,ntmps163
  go_wp2
  go_ret;exact⟨by rw[aA g];rfl,0,rfl⟩
 rw[if_neg b]at a;rw[decide_eq_false b]at d;have g:=aB a;clear a h b;go_enter func163,ntmps163
 go_wp2_with(go_at_call 160;refine(aA i).mono ?_;rintro e w' ⟨rfl,l,rfl⟩)
 go_ret;exact⟨by rw[aA g];rfl,_,rfl⟩
end Go.Proofs.YtmgfijllcdadgaaGreatDoor.V
