import Derived.Test.YtmgfijllcdadgaaGreatDoorUW10
set_option linter.all false
set_option maxHeartbeats 8000000
set_option maxRecDepth 100000
namespace Go.Proofs.YtmgfijllcdadgaaGreatDoor.V
open Go.RowKit
open Go.Proofs.Tryz
open Rf
open Mk (U Ev aI)
section
variable {f:Nat}{r:R}{t:U}{c:Int}
def ZN(h:¬r.A<r.s.length):jE (f+1) r t c=({r with stop:=1},false):=by
 rw[jE,M h]
def ZO(h:r.A<r.s.length)(a:r.E r.A≠45)(b:c=r.S):jE (f+1) r t c=(mO r r.A,false):=by
 rw[jE,J h,J<|by simpa using a,J<|by simpa using b]
def ZP(h:r.A<r.s.length)(a:r.E r.A≠45)(b:c≠r.S):jE (f+1) r t c=if(bF r).2.2 then jE f (bF r).1 (t++(bF r).2.1) (c+1)else((bF r).1,false):=by
 rw[jE,J h,J<|by simpa using a,M<|by simpa using b]
def NV(h:r.A<r.s.length)(a:r.E r.A=45)(b:r.A+1=r.s.length\/(r.A+2=r.s.length/\r.E (r.A+1)=45)):jE (f+1) r t c=(qQ r,false):=by
 rw[jE,J h,M<|by simpa using a,J b]
def ZQ(h:r.A+2<r.s.length)(a:r.E r.A=45)(b:r.E (r.A+1)=45):jE (f+1) r t c=if r.E (r.A+2) !=62 then(Rf.eZ {r with A:=r.A+2} 3,false)else(Rf.gS {r with A:=r.A+3} ⟨4,[],[],t,[]⟩,true):=by
 rw[jE,J,M<|by simpa using a,M,J<|by simpa using b]
def ZR(h:r.A+1<r.s.length)(b:r.E r.A=45)(a:r.E (r.A+1)≠45):jE (f+1) r t c=if c==r.S then(mO r (r.A+1),false)else jE f {r with A:=r.A+1} (t++[45]) (c+1):=by
 rw[jE,J,M<|by simpa using b,M<|by simp[a];omega,M<|by simpa using a]
end
def xA(a b:U):(⟨a.toArray⟩:ByteArray)++(⟨b.toArray⟩:ByteArray)=⟨(a++b).toArray⟩:=by
 apply rF;simp
def Kp.ok{s r:R}(h:Kp s r)(a:iW s):iW r:=⟨by rw[h.s];exact a.len,by rw[h.s];exact h.len,by rw[h.S];exact a.t0,by rw[h.S];exact a.t1⟩
section
variable {w w' :World}{b:Nat}{s:R}{L:bA}
def NW(h:bD w b s L)(hl:iW s)(hev:s.y.length<=4*s.A+100)(ai:s.s.length<=100000000):Calls prog 108 #[.pointer (some ⟨b,0,none⟩)] w (qR w b s L (pQ s)):=by
 have HM:=Y h;have HL:=Y hl;have HD:=Y (vL h hl 45 (by decide) (by decide));have hk:=mX hl.A 45;obtain⟨ad,x⟩:=aj8 (pQ s);rw[<-x];have hd:pQ s=if(bW s 45).2 then jE (s.s.length+1) (bW s 45).1 [] 0 else((bW s 45).1,false):=rfl;rw[hd]at x;have aj:=h.lt;clear h hd;obtain⟨r1,o1⟩:bW s 45=((bW s 45).1,(bW s 45).2):=rfl;generalize hm:bW s 45=m at *;obtain⟨r,o⟩:=m;cases o with
 |false=>
  simp only[cK,cE]at x;have D:=Y x;clear x hk hm;go_enter func108,ntmps108;go_wp2_with(go_at_call 107;go_call HD.u as e w1 ⟨rfl,L1,a1⟩);go_ret;rw[D.u];exact⟨rfl,L1,a1⟩
 |true=>
  simp only[bY]at x;have D:=Y x;have HK:=Y hk;clear x hk hm hl;go_enter func108,ntmps108;go_wp2_with(go_at_call 107;go_call HD.u as e w1 ⟨rfl,L1,a1⟩;have A:=Y a1;clear a1);go_loopg [4,5] (s.s.length+1) λg s4 s5 wx=>∃(r:R) (t:U) (c:Int) (L1:bA),s4=.string ⟨t.toArray⟩/\s5=.int .i64 c/\0<=c/\c<=r.S/\ad=jE g r t c/\s.s.length - r.A<g/\Kp s r/\t.length<=r.A/\bL w b (cO s L) wx r L1;case atStart=>exact⟨r,[],0,L1,rfl,rfl,by omega,by rw[HK.u.1.S];exact HL.u.t0,D.u,by omega,HK.u.1,by simp,A.u⟩
  case round=>
   obtain⟨r,t,c,L1,rfl,rfl,p,q,hfin,hg,l,v,hm⟩:=hrel;have N:=l.ok HL.u;obtain⟨f,rfl⟩:∃f,gk=f+1:=⟨gk - 1,by omega⟩;have h1:=N.len;have h2:=N.A;have C:r.s.length<=100000000:=by rwa[l.s]
   have O:=Y (pu hm.X N);have A:=Y hm;have P:=Y N;have d:r.s.length - r.A<f+1:=by rwa[l.s]
   have a2:=Y l;have j:r.y.length<=1000000000:=by
    have:=l.ev;have:=l.len;omega
   clear hm N hg HM HD HK D;by_cases Q:r.A<r.s.length;focus
    rw[show b_ r=(r,false) by simp[b_,Q]]at O;obtain⟨y,G,ak,hy⟩:=gP r r.A Q;have al:(r.A:Int)<(r.s.length:Int):=by omega
    by_cases S:(y.toNat:Int)=45;focus
     have e1:((y.toNat:Int) !=45)=false:=by simpa using S
     by_cases h6:r.A+1<r.s.length;focus
      obtain⟨y2,E,ag,T⟩:=gP r (r.A+1) h6;have H:(r.A:Int)+1<(r.s.length:Int):=by omega
      have am:((r.A:Int)+1).toNat=r.A+1:=by omega
      have eA:((r.s.length:Int) - (r.A:Int)==1)=false:=by simp;omega
      by_cases h7:(y2.toNat:Int)=45;focus
       have e3:=aka h7;by_cases h8:r.A+2<r.s.length
       .obtain⟨y3,a6,ah,a9⟩:=gP r (r.A+2) h8;have a3:(r.A:Int)+2<(r.s.length:Int):=by omega
        have an:((r.A:Int)+2).toNat=r.A+2:=by omega
        have eB:((r.s.length:Int) - (r.A:Int)==2)=false:=by simp;omega
        rw[ZQ h8 (by rwa[G]) (by rwa[E]),a6]at hfin;by_cases h9:(y3.toNat:Int)=62
        .have e4:((y3.toNat:Int) !=62)=false:=by simpa using h9
         rw[e4]at hfin;simp only[cK,cE]at hfin;have D:=Y hfin;have HT:=Y λ(W:World) (L' :bA) (hW:bD W b {r with A:=r.A+3} L')=>vN hW ⟨4,[],[],t,[]⟩ none 0 0 (qo ⟨rfl,rfl,rfl⟩) (λk hk=>by cases hk) j;have ao:wrap64 ((r.A:Int)+3)=((r.A+3:Nat):Int):=by unfold wrap64;omega
         clear hfin G hy l j d v p q C E T a6 a9 S h7 h9;go_wp2_with(go_at_call 105;go_call O.u as e w1 ⟨rfl,X,a⟩;have i:=Y (A.u.call a);obtain⟨n,I,B⟩:=a.X.zzv;clear a;unfold aR at n);go_quiet(fail);go_wp2;go_quiet(fail);go_wp2;go_quiet(fail);go_wp2;go_quiet(fail);go_wp2;go_quiet(fail);go_wp2_with(go_at_call 152;go_call(HT.u _ _ ((i.u.drewN _).store 5 _ {r with A:=r.A+3} (by simp[aR]) rfl rfl rfl).X)as e w3 ⟨rfl,L3,z⟩);go_ret;rw[D.u];exact⟨rfl,L3,((i.u.drewN _).store 5 _ {r with A:=r.A+3} (by simp[aR]) rfl rfl rfl).call z⟩
        have e4:((y3.toNat:Int) !=62)=true:=by simpa using h9
        rw[e4]at hfin;simp only[bY]at hfin;have D:=Y hfin;clear hfin G hy l j d v p q C E T a6 a9 S h7 h9;go_wp2_with(go_at_call 105;go_call O.u as e w1 ⟨rfl,X,a⟩;have i:=Y (A.u.call a);obtain⟨n,I,B⟩:=a.X.zzv;clear a;unfold aR at n);go_quiet(fail);go_wp2;go_quiet(fail);go_wp2;go_quiet(fail);go_wp2;go_quiet(fail);go_wp2;go_quiet(fail);go_wp2_with(go_at_call 83;go_call(kM ((i.u.drewN _).store 5 _ {r with A:=r.A+2} (by simp[aR]) rfl rfl rfl).X 3)as e w3 ⟨rfl,L3,z⟩);go_ret;rw[D.u];exact⟨rfl,L3,((i.u.drewN _).store 5 _ {r with A:=r.A+2} (by simp[aR]) rfl rfl rfl).call z⟩
       have eB:((r.s.length:Int) - (r.A:Int)==2)=true:=by simp;omega
       rw[NV Q (by rwa[G]) (.inr ⟨by omega,by rwa[E]⟩)]at hfin;have D:=Y hfin;clear hfin G hy l j d v p q C E T S h7
      rotate_left
      .have e3:=aj7 h7;rw[ZR h6 (by rwa[G]) (by rwa[E])]at hfin;obtain⟨eb,eB⟩:=akb (((r.s.length:Int) - (r.A:Int)==2));by_cases F:c=r.S
       .have e2:=aka F;rw[e2]at hfin;simp only[bY]at hfin;have D:=Y hfin;have HH:=Y h6;clear hfin G hy l j d v p q C E T S h7 F;cases eb;all_goals
         go_wp2_with(go_at_call 105;go_call O.u as e w1 ⟨rfl,X,a⟩;have i:=Y (A.u.call a);obtain⟨n,I,B⟩:=a.X.zzv;clear a;unfold aR at n);go_quiet(fail);go_wp2;go_quiet(fail);go_wp2;go_quiet(fail);go_wp2;go_quiet(fail);go_wp2_with(go_at_call 154;go_call(Bm (i.u.drewN _).X P.u (r.A+1) HH.u)as e w2 ⟨rfl,L3,z⟩);go_ret;rw[D.u];exact⟨rfl,L3,(i.u.drewN _).call z⟩
       have e2:=aj7 F;rw[e2]at hfin;simp only[cK,cE]at hfin;have a5:=xA t [45];have aa:t.length<=100000000:=by omega
       have a7:wrap64 (c+1)=c+1:=by
        have:=P.u.t1;unfold wrap64;omega
       have HZ:=Y (ajN hfin (ajN d (ajN v (ajN p (ajN q F)))));clear hfin G hy l j d v p q C E T S h7 F;cases eb;all_goals
        go_wp2_with(go_at_call 105;go_call O.u as e w1 ⟨rfl,X,a⟩;have i:=Y (A.u.call a);obtain⟨n,I,B⟩:=a.X.zzv;clear a;unfold aR at n);go_quiet(fail);go_wp2;go_quiet(fail);go_wp2;go_quiet(fail);go_wp2;go_quiet(fail);go_wp2;obtain⟨hfin,d,v,p,q,F⟩:=HZ.u;have a0:r.s=s.s:=a2.u.s;go_roundg f;case measure=>omega
        case rel=>exact⟨{r with A:=r.A+1},t++[45],c+1,X,by rw[<-a5],by rw[a7],by omega,by show c+1<=r.S;omega,hfin,by rw[<-a0];simp;omega,a2.u.trans (.to),by simp;omega,(i.u.drewN _).store 5 _ {r with A:=r.A+1} (by simp[aR]) rfl rfl rfl⟩
     rotate_left;focus
      have eA:((r.s.length:Int) - (r.A:Int)==1)=true:=by simp;omega
      rw[NV Q (by rwa[G]) (.inl<|by omega)]at hfin;have D:=Y hfin;clear hfin G hy l j d v p q C S
    rotate_left 2
    .have e1:((y.toNat:Int) !=45)=true:=by simpa using S
     by_cases F:c=r.S
     .rw[ZO Q (by rwa[G]) F]at hfin;have e2:=aka F;have D:=Y hfin;have HH:=Y Q;clear hfin S G hy F l j d v p q C;go_wp2_with(go_at_call 105;go_call O.u as e w1 ⟨rfl,X,a⟩;have i:=Y (A.u.call a);obtain⟨n,I,B⟩:=a.X.zzv;clear a;unfold aR at n);go_quiet(fail);go_wp2_with(go_at_call 154;go_call(Bm (i.u.drewN _).X P.u r.A HH.u)as e w2 ⟨rfl,L3,z⟩);go_ret;rw[D.u];exact⟨rfl,L3,(i.u.drewN _).call z⟩
     rw[ZP Q (by rwa[G]) F]at hfin;have e2:=aj7 F;have K:=oC Q;have HC:=Y λ(W:World) (L' :bA) (hW:bD W b r L')=>zi hW P.u Q;generalize ab:bF r=ch at *;obtain⟨r3,t3,o3⟩:=ch;cases o3 with
     |false=>
      simp only[cK,cE]at hfin;have D:=Y hfin;clear hfin S G hy F l j d v p q C K ab;go_wp2_with(go_at_call 105;go_call O.u as e w1 ⟨rfl,X,a⟩;have i:=Y (A.u.call a);obtain⟨n,I,B⟩:=a.X.zzv;clear a;unfold aR at n);go_quiet(fail);go_wp2_with(go_at_call 155;go_call(HC.u _ _ (i.u.drewN _).X)as e w2 ⟨rfl,L3,z⟩);go_ret;rw[D.u];exact⟨rfl,L3,(i.u.drewN _).call z⟩
     |true=>
      simp only[bY]at hfin;obtain⟨k,a8,H,a3,a4⟩:=K.2 rfl;have a5:=xA t t3;have aa:t.length<=100000000:=by omega
      have ap:t3.length<=100000000:=by have:=a4;simp at this;omega
      have HZ:=Y (ajN hfin (ajN K.1 (ajN a8 (ajN H (ajN a3 (ajN a4 (ajN d (ajN v (ajN p (ajN q F))))))))));have a7:wrap64 (c+1)=c+1:=by
       have:=P.u.t1;unfold wrap64;omega
      clear hfin S G hy F l j d v p q C K ab a8 H a3 a4;go_wp2_with(go_at_call 105;go_call O.u as e w1 ⟨rfl,X,a⟩;have i:=Y (A.u.call a);obtain⟨n,I,B⟩:=a.X.zzv;clear a;unfold aR at n);go_quiet(fail);go_wp2_with(go_at_call 155;go_call(HC.u _ _ (i.u.drewN _).X)as e w2 ⟨rfl,L3,z⟩;have ae:=Y ((i.u.drewN _).call z);clear z);obtain⟨hfin,K,a8,H,a3,a4,d,v,p,q,F⟩:=HZ.u;have a0:r.s=s.s:=a2.u.s;have af:r3.S=r.S:=by rw[H]
      go_roundg f;case measure=>omega
      case rel=>exact⟨r3,t++t3,c+1,L3,rfl,by rw[a7],by omega,by rw[af];omega,hfin,by rw[H,<-a0];simp;omega,a2.u.trans K,by rw[H];simp;omega,ae.u⟩
   rotate_left 2
   .rw[show b_ r=({r with stop:=1},true) by simp[b_,Q]]at O;rw[ZN Q]at hfin;have D:=Y hfin;clear hfin l j d v p q C;go_wp2_with(go_at_call 105;go_call O.u as e w1 ⟨rfl,X,a⟩);go_ret;rw[D.u];exact⟨rfl,X,A.u.call a⟩
   all_goals
    go_wp2_with(go_at_call 105;go_call O.u as e w1 ⟨rfl,X,a⟩;have i:=Y (A.u.call a);obtain⟨n,I,B⟩:=a.X.zzv;clear a;unfold aR at n);go_quiet(fail);go_wp2;go_quiet(fail);go_wp2;go_quiet(fail);go_wp2;go_ret;rw[D.u];exact⟨rfl,X,((i.u.drewN _).store 5 _ {r with A:=r.s.length} rfl rfl rfl rfl).store 6 _ (qQ r) rfl rfl rfl rfl⟩
end
