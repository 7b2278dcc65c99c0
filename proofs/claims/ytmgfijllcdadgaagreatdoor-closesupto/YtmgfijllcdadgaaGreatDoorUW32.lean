import Derived.Test.YtmgfijllcdadgaaGreatDoorUW29
set_option linter.all false
set_option maxHeartbeats 8000000
set_option maxRecDepth 100000
namespace Go.Proofs.YtmgfijllcdadgaaGreatDoor.V
open Go.RowKit
open Go.Proofs.Tryz
open Rf
open Mk (U Ev aI)
variable {f:Nat}{r:R}
section
variable {w w' :World}{b:Nat}{s:R}{L:bA}
def Bz(h:bD w b s L)(t:U)(a:s.y.length<=1000000000):Calls prog 167 #[.pointer (some ⟨b,0,none⟩),.string ⟨t.toArray⟩] w λe w' =>e=.returned (.tuple #[])/\∃c,bL w b (cO s L) w' (Rf.text s t) c:=by
 have d:=Y (vN h ⟨3,[],[],t,[]⟩ none 0 0 (qo ⟨rfl,rfl,rfl⟩) (λk f=>by cases f) a);clear h a;go_enter func167,ntmps167;go_wp2_with(go_at_call 152;go_call d.u as e j ⟨rfl,g,i⟩);go_end0
 exact⟨rfl,g,i⟩
theorem Ih(x:UInt8)(l:U)(r:R):kU (x::l) r=if r.A<r.s.length then(if r.E r.A !=(x.toNat:Int)then(eZ r 5,false)else kU l {r with A:=r.A+1})else({r with stop:=1},false):=rfl
def BA(r:R):R×Bool:=if decide (r.A<r.s.length)&&dL (r.E r.A)then(eZ r 5,false)else bW (aV r) 62
def OD(r:R)(a:U):jX r a=if(kU a {r with A:=r.A+2}).2 then BA (kU a {r with A:=r.A+2}).1 else((kU a {r with A:=r.A+2}).1,false):=by
 unfold jX BA;simp only;cases(kU a {r with A:=r.A+2}).2<;>rfl
def aaT(a:U)(h:bD w b s L)(T:iW s)(hn:a.length<=100000000)(a9:s.s.length<=100000000)(h2:s.A+2<=s.s.length):Calls prog 114 #[.pointer (some ⟨b,0,none⟩),.string ⟨a.toArray⟩] w (qR w b s L (jX s a)):=by
 obtain⟨hc,hf,X⟩:=h.zzv;have HM:=Y h;have HL:=Y T;have h1:=T.len;obtain⟨a0,m⟩:=aj8 (jX s a);rw[<-m];rw[OD]at m;have p:=Y m;unfold aR at hc;clear h T m;go_enter func114,ntmps114;go_wp2_with fail;clear hc hf;go_loopg [5] a.length λg s5 wx=>∃(i k:Nat) (L1:bA),i<=a.length/\g=a.length - i/\s5=.int .i64 i/\s.A+2<=k/\k<=s.s.length/\kU a {s with A:=s.A+2}=kU (a.drop i) {s with A:=k}/\bL w b (cO s L) wx {s with A:=k} L1;case atStart=>exact⟨0,s.A+2,L,by omega,rfl,rfl,by omega,h2,rfl,HM.u.start.store 5 _ {s with A:=s.A+2} (by simp[aR]) rfl rfl rfl⟩
 case round=>
  obtain⟨i,k,L1,hi,rfl,rfl,aa,a1,v,N⟩:=hrel;have z:iW {s with A:=k}:=⟨HL.u.len,a1,HL.u.t0,HL.u.t1⟩;have l:=Y N;have D:=Y (pu N.X z);have A:=Y z;obtain⟨ab,ad,a8⟩:=N.X.zzw;clear N z HM X;have c:=p.u;rw[v]at c;have F:=Y v;clear v p;by_cases h5:i<a.length
  .have e0:decide ((i:Int)<(a.length:Int))=true:=aj_;have ae:(i:Int)<(a.length:Int):=by omega
   obtain⟨x,hx⟩:∃x,a[i]?=some x:=⟨a[i],by simp[h5]⟩;have af:∀h,(ByteArray.mk a.toArray)[i]'h=x:=λh=>by
    have O:=qT a i h5 h;rw[O];exact(List.getElem?_eq_some_iff.1 hx).2
   rw[drop_at hx,Ih]at c;by_cases o:k<s.s.length
   .obtain⟨y,B,a2,G⟩:=gP s k o;have a3:(k:Int)<(s.s.length:Int):=by omega
    have j:R.E {s with A:=k} k=(y.toNat:Int):=B;simp only[o,bY,j]at c;rw[show b_ {s with A:=k}=({s with A:=k},false) by simp[b_,o]]at D;by_cases P:(y.toNat:Int)=(x.toNat:Int)
    .have E:((y.toNat:Int) !=(x.toNat:Int))=false:=by simpa using P
     simp only[E,cK,cE]at c;have ag:wrap64 ((k:Int)+1)=((k+1:Nat):Int):=by unfold wrap64;omega
     have HZ:=Y (show kU a {s with A:=s.A+2}=kU (a.drop (i+1)) {s with A:=k+1} by
      rw[F.u,drop_at hx,Ih]
      simp only[o,bY,j,E,cK,cE])
     clear c B G P hx j;go_wp2_with(go_at_call 105;go_call D.u as e w1 ⟨rfl,Q,f⟩;have q:=Y (l.u.call f);obtain⟨C,a4,H⟩:=f.X.zzv;clear f;unfold aR at C);go_quiet(fail);go_wp2;go_roundg (a.length - (i+1));case measure=>omega
     case rel=>exact⟨i+1,k+1,Q,by omega,rfl,by simp,by omega,by omega,HZ.u,(q.u.drewN _).store 5 _ {s with A:=k+1} (by simp[aR]) rfl rfl rfl⟩
    have E:((y.toNat:Int) !=(x.toNat:Int))=true:=by simpa using P
    simp only[E,bY,cK,cE]at c;have p:=Y c;clear c B G P hx j;go_wp2_with(go_at_call 105;go_call D.u as e w1 ⟨rfl,Q,f⟩;have q:=Y (l.u.call f);obtain⟨C,a4,H⟩:=f.X.zzv;clear f;unfold aR at C);go_quiet(fail);go_wp2_with(go_at_call 83;go_call(kM (q.u.drewN _).X 5)as e w2 ⟨rfl,S,n⟩);go_ret;rw[p.u];exact⟨rfl,S,(q.u.drewN _).call n⟩
   rw[show b_ {s with A:=k}=({s with A:=k,stop:=1},true) by simp[b_,o]]at D;simp only[o,cE,cK]at c;have p:=Y c;clear c hx;go_wp2_with(go_at_call 105;go_call D.u as e w1 ⟨rfl,Q,f⟩);go_ret;rw[p.u];exact⟨rfl,Q,l.u.call f⟩
  have e0:decide ((i:Int)<(a.length:Int))=false:=aj9;rw[iF]at c;have d:a0=BA {s with A:=k}:=c;clear c F D;unfold BA at d;have a5:=Y λ(W:World) (L' :bA) (hW:bD W b {s with A:=k} L')=>zh hW A.u;have I:=nE A.u.A;have t:iW (aV {s with A:=k}):=I.ok A.u;have a6:=Y λ(W:World) (L' :bA) (hW:bD W b (aV {s with A:=k}) L')=>vL hW t 62 (by decide) (by decide);clear I t;by_cases o:k<s.s.length;focus
   obtain⟨y,B,a2,G⟩:=gP s k o;have a3:(k:Int)<(s.s.length:Int):=by omega
   have E:=nR o;have j:R.E {s with A:=k} k=(y.toNat:Int):=B;simp only[o,ajO,ja,j]at d;have r:=Y λw=>Hl (y.toNat:Int) w;cases O:dL (y.toNat:Int);focus
    rw[O]at d r;simp only[cK,cE]at d;have p:=Y d;clear d B G j;go_wp2_with fail;go_quiet((go_at_call 156;refine Calls.quiet_of_same (r.u _)))
   rotate_left
   .rw[O]at d r;simp only[bY]at d;have p:=Y d;clear d B G j;go_wp2_with fail;go_quiet((go_at_call 156;refine Calls.quiet_of_same (r.u _)));go_wp2_with(go_at_call 83;go_call(kM (l.u.drewN _).X 5)as e w2 ⟨rfl,S,n⟩);go_ret;rw[p.u];exact⟨rfl,S,(l.u.drewN _).call n⟩
  rotate_left;focus
   have E:=pV o;simp only[o,decide_false,iL,cK,cE]at d;have p:=Y d;clear d;go_wp2_with fail;go_quiet(fail)
  all_goals
   go_wp2_with(first
    |(go_at_call 104;go_call(a5.u _ _ (l.u.drewN _).X)as e w2 ⟨rfl,S,n⟩;have K:=Y ((l.u.drewN _).call n);clear n)
    |(go_at_call 107;go_call(a6.u _ _ K.u.X)as e w3 ⟨rfl,L5,a7⟩))
   go_ret;rw[p.u];exact⟨rfl,L5,K.u.call a7⟩
end
def kC:U:=[91,67,68,65,84,65,91]
theorem Ee(x:UInt8)(l:U)(r:R):kL (x::l) r=if(bW r (x.toNat:Int)).2 then kL l (bW r (x.toNat:Int)).1 else((bW r (x.toNat:Int)).1,false):=rfl
theorem Ii(r:R):rK r=if(kL kC r).2 then jN (r.s.length+1) (kL kC r).1 else((kL kC r).1,false):=rfl
def aaU(h:¬r.A<r.s.length):jN (f+1) r=({r with stop:=1},false):=by
 rw[jN,M h]
def OE(h:r.A<r.s.length)(b:r.E r.A=93)(a:r.s.drop r.A=[93]\/r.s.drop r.A=[93,93]):jN (f+1) r=(qQ r,false):=by
 rw[jN,J h];simp only;rw[J<|by obtain a|a:=a<;>simp[b,a]]
def aaV(h:r.A<r.s.length)(a:r.E r.A=93)(b:r.s.drop r.A≠[93])(c:r.s.drop r.A≠[93,93])(d:r.E (r.A+1)=93)(e:r.E (r.A+2)=62):jN (f+1) r=({r with A:=r.A+3},true):=by
 rw[jN,J h];simp only;rw[M<|by simp[b,c],J<|by simp[a,d,e]]
def Ij(h:r.A<r.s.length)(a:r.E r.A≠93\/(r.s.drop r.A≠[93]/\r.s.drop r.A≠[93,93]/\¬(r.E (r.A+1)=93/\r.E (r.A+2)=62))):jN (f+1) r=if(bF r).2.2 then jN f (Rf.text (bF r).1 (bF r).2.1)else((bF r).1,false):=by
 rw[jN,J h];simp only;obtain a|⟨a,b,c⟩:=a
 .rw[M<|by simp[a],M<|by simp[a]]
 rw[M<|by simp[a,b],M<|by simp;intro _ d;exact λe=>c ⟨d,e⟩]
section
variable {w w' :World}{b:Nat}{s:R}{L:bA}
def aaW(h:bD w b s L)(hl:iW s)(hev:s.y.length<=4*s.A+100)(ay:s.s.length<=100000000):Calls prog 208 #[.pointer (some ⟨b,0,none⟩)] w (qR w b s L (rK s)):=by
 have HM:=Y h;have HL:=Y hl;have ag:=Kp.refl hl.A;obtain⟨G,a0⟩:=aj8 (rK s);rw[<-a0];rw[Ii]at a0;have F:=Y a0;clear h hl a0;go_enter func208,ntmps208;go_wp2_with fail;go_loopg [4] 7 λg s4 wx=>∃(i:Nat) (r:R) (L1:bA),i<=7/\g=7 - i/\s4=.int .i64 i/\kL kC s=kL (kC.drop i) r/\Kp s r/\bL w b (cO s L) wx r L1;case atStart=>exact⟨0,s,L,by omega,rfl,rfl,rfl,ag,HM.u.start⟩
 case round=>
  obtain⟨i,r,L1,hi,rfl,rfl,aa,j,hm⟩:=hrel;have A:=j.ok HL.u;have p:=Y hm;have ah:=Y A;have ab:=Y j;have N:=F.u;rw[aa]at N;have ad:=Y aa;clear aa F ag HM;by_cases h5:i<7
  .have e0:decide ((i:Int)<7)=true:=aj_;have az:(i:Int)<7:=by omega
   obtain⟨x,hx⟩:∃x,kC[i]?=some x:=⟨kC[i]'(by show i<7;exact h5),by simp[kC,h5]⟩;have b0:∀h,(ByteArray.mk #[91,67,68,65,84,65,91])[i]'h=x:=λh=>by
    have h6:=qT kC i (by show i<7;exact h5) h;have h7:=(List.getElem?_eq_some_iff.1 hx).2;exact h6.trans h7
   have ae:=xu x;rw[drop_at hx,Ee]at N;have ai:=Y (vL hm.X A (x.toNat:Int) ae.1 ae.2);have af:=mX A.A (x.toNat:Int);have a9:=Y (show kL kC s=if(bW r (x.toNat:Int)).2 then kL (kC.drop (i+1)) (bW r (x.toNat:Int)).1 else((bW r (x.toNat:Int)).1,false) by rw[ad.u,drop_at hx,Ee]);generalize ap:bW r (x.toNat:Int)=mu at *;obtain⟨r2,o⟩:=mu;clear hx ae ap ad;cases o with
   |false=>
    have F:=Y (show G=(r2,false)from N);clear N af hm A j;go_wp2_with(go_at_call 107;go_call ai.u as e w3 ⟨rfl,L4,a6⟩);go_ret;rw[F.u];exact⟨rfl,L4,p.u.call a6⟩
   |true=>
    have HZ:=Y (ajN (show kL kC s=kL (kC.drop (i+1)) r2 from a9.u) (j.trans af.1));clear N af hm A j a9;go_wp2_with(go_at_call 107;go_call ai.u as e w3 ⟨rfl,L4,a6⟩;have aq:=Y (p.u.call a6);clear a6);go_roundg (7 - (i+1));case measure=>omega
    case rel=>exact⟨i+1,r2,L4,by omega,rfl,by simp,HZ.u.1,HZ.u.2,aq.u⟩
  have e0:decide ((i:Int)<7)=false:=aj9;rw[iF<|by show 7<=i;omega]at N;have aj:G=jN (s.s.length+1) r:=N;have F:=Y aj;clear N aj ad hm A;go_wp2_with fail;go_loopg [] (s.s.length+1) λg wx=>∃(r:R) (L1:bA),G=jN g r/\s.s.length - r.A<g/\Kp s r/\bL w b (cO s L) wx r L1;case atStart=>exact⟨r,L1,F.u,by omega,ab.u,p.u⟩
  case round=>
   obtain⟨r,L1,hfin,hg,j,hm⟩:=hrel;have A:=j.ok HL.u;obtain⟨f,rfl⟩:∃f,gk=f+1:=⟨gk - 1,by omega⟩;have h1:=A.len;have h2:=A.A;have E:r.s.length<=100000000:=by rwa[j.s]
   have HE:=Y (pu hm.X A);have p:=Y hm;have ah:=Y A;have d:r.s.length - r.A<f+1:=by rwa[j.s]
   have ab:=Y j;have n:r.y.length<=1000000000:=by
    have:=j.ev;have:=j.len;omega
   clear hm A hg;by_cases h3:r.A<r.s.length;focus
    rw[show b_ r=(r,false) by simp[b_,h3]]at HE;obtain⟨y,hb,b1,hy⟩:=gP r r.A h3;have b2:(r.A:Int)<(r.s.length:Int):=by omega
    have B:=oC h3;have HC:=Y λ(W:World) (L' :bA) (hW:bD W b r L')=>zi hW ah.u h3;by_cases h4:(y.toNat:Int)=93;focus
     have e1:=aka h4;have b3:ByteArray.extract ⟨r.s.toArray⟩ r.A r.s.length=⟨(r.s.drop r.A).toArray⟩:=by
      have:=pE r.s r.A (r.s.length - r.A);rwa[show r.A+(r.s.length - r.A)=r.s.length by omega,nZ<|by rw[lm];omega]at this
     have D:r.s.drop r.A=y::r.s.drop (r.A+1):=drop_at hy;have q:y=93:=by
      apply UInt8.toNat_inj.1;show y.toNat=93;omega
     cases ak:(r.s.drop r.A==[93]);focus
      cases al:(r.s.drop r.A==[93,93]);focus
       have H:r.s.drop r.A≠[93]:=by simpa using ak
       have I:r.s.drop r.A≠[93,93]:=by simpa using al
       have h6:r.A+1<r.s.length:=by
        have:¬r.A+1=r.s.length:=λh=>H (by rw[D,iF,q]);omega
       obtain⟨y2,X,au,a1⟩:=gP r (r.A+1) h6;have O:=drop_at a1;have b4:∀h,(ByteArray.mk (r.s.drop r.A).toArray)[1]'h=y2:=λh=>by
        have h7:=qT (r.s.drop r.A) 1 (by rw[lm];omega) h;rw[h7];simp only[D,O];rfl
       have b5:(1:Int)<((r.s.length - r.A:Nat):Int):=by omega
       have av:1<r.s.length - r.A:=by omega
       by_cases h7:(y2.toNat:Int)=93;focus
        have e2:=aka h7;have K:y2=93:=by
         apply UInt8.toNat_inj.1;show y2.toNat=93;omega
        have h8:r.A+2<r.s.length:=by
         have:¬r.A+2=r.s.length:=λh=>I (by rw[D,O,iF,q,K]);omega
        obtain⟨y3,a2,aw,a7⟩:=gP r (r.A+2) h8;have a8:r.s.drop (r.A+1+1)=y3::r.s.drop (r.A+3):=drop_at a7;have b6:∀h,(ByteArray.mk (r.s.drop r.A).toArray)[2]'h=y3:=λh=>by
         have h9:=qT (r.s.drop r.A) 2 (by rw[lm];omega) h;rw[h9];simp only[D,O,a8];rfl
        have b7:(2:Int)<((r.s.length - r.A:Nat):Int):=by omega
        have ax:2<r.s.length - r.A:=by omega
        by_cases h9:(y3.toNat:Int)=62
        .have e3:=aka h9;rw[aaV h3 (by rwa[hb]) H I (by rwa[X]) (by rwa[a2])]at hfin;have F:=Y hfin;clear hfin hb hy h4 j n d E B X a2 a1 a7 D O a8 h7 h9 q K H I;go_wp2_with(go_at_call 105;go_call HE.u as e w1 ⟨rfl,L2,a⟩;have l:=Y (p.u.call a);obtain⟨m,P,t⟩:=a.X.zzv;clear a;unfold aR at m);go_quiet(fail);go_wp2_with fail;go_quiet(fail);go_wp2;go_ret;rw[F.u];exact⟨rfl,L2,(l.u.drewN _).store 5 _ {r with A:=r.A+3} (by simp[aR]) rfl rfl rfl⟩
        have e3:=aj7 h9;rw[Ij h3 (.inr ⟨H,I,λh=>h9<|by rw[<-a2];exact h.2⟩)]at hfin;generalize Q:bF r=ch at *;obtain⟨C,t3,o3⟩:=ch;cases o3
        .have F:=Y (show G=(C,false)from hfin);clear hfin hb hy h4 j n d E B Q X a2 a1 a7 D O a8 h7 h9 q K H I;go_wp2_with(go_at_call 105;go_call HE.u as e w1 ⟨rfl,L2,a⟩;have l:=Y (p.u.call a);obtain⟨m,P,t⟩:=a.X.zzv;clear a;unfold aR at m);go_quiet(fail);go_wp2_with fail;go_quiet(fail);go_wp2_with(go_at_call 155;go_call(HC.u _ _ (l.u.drewN _).X)as e w2 ⟨rfl,L3,S⟩);go_ret;rw[F.u];exact⟨rfl,L3,(l.u.drewN _).call S⟩
        obtain⟨k,a3,c,a4,a5⟩:=B.2 rfl;have c:C={r with A:=r.A+k}:=c;have T:Kp r (Rf.text C t3):=by rw[c];exact xG (by omega) (by omega) _
        have v:C.y.length<=1000000000:=by rwa[c]
        have HT:=Y λ(W:World) (L' :bA) (hW:bD W b C L')=>Bz hW t3 v;have z:r.A<(Rf.text C t3).A:=by rw[c];show r.A<r.A+k;omega
        have HZ:=Y (ajN (show G=jN f (Rf.text C t3)from hfin) (ajN (j.trans T) (ajN z d)));clear hfin hb hy h4 j n d E B Q a3 c a4 a5 T v z X a2 a1 a7 D O a8 h7 h9 q K H I;go_wp2_with(go_at_call 105;go_call HE.u as e w1 ⟨rfl,L2,a⟩;have l:=Y (p.u.call a);obtain⟨m,P,t⟩:=a.X.zzv;clear a;unfold aR at m);go_quiet(fail);go_wp2_with fail
       rotate_left;focus
        have e2:=aj7 h7;rw[Ij h3 (.inr ⟨H,I,λh=>h7<|by rw[<-X];exact h.1⟩)]at hfin;generalize Q:bF r=ch at *;obtain⟨C,t3,o3⟩:=ch;cases o3
        .have F:=Y (show G=(C,false)from hfin);clear hfin hb hy h4 j n d E B Q X a1 D O h7 q H I;go_wp2_with(go_at_call 105;go_call HE.u as e w1 ⟨rfl,L2,a⟩;have l:=Y (p.u.call a);obtain⟨m,P,t⟩:=a.X.zzv;clear a;unfold aR at m);go_quiet(fail);go_wp2_with fail;go_quiet(fail);go_wp2_with(go_at_call 155;go_call(HC.u _ _ (l.u.drewN _).X)as e w2 ⟨rfl,L3,S⟩);go_ret;rw[F.u];exact⟨rfl,L3,(l.u.drewN _).call S⟩
        obtain⟨k,a3,c,a4,a5⟩:=B.2 rfl;have c:C={r with A:=r.A+k}:=c;have T:Kp r (Rf.text C t3):=by rw[c];exact xG (by omega) (by omega) _
        have v:C.y.length<=1000000000:=by rwa[c]
        have HT:=Y λ(W:World) (L' :bA) (hW:bD W b C L')=>Bz hW t3 v;have z:r.A<(Rf.text C t3).A:=by rw[c];show r.A<r.A+k;omega
        have HZ:=Y (ajN (show G=jN f (Rf.text C t3)from hfin) (ajN (j.trans T) (ajN z d)));clear hfin hb hy h4 j n d E B Q a3 c a4 a5 T v z X a1 D O h7 q H I;go_wp2_with(go_at_call 105;go_call HE.u as e w1 ⟨rfl,L2,a⟩;have l:=Y (p.u.call a);obtain⟨m,P,t⟩:=a.X.zzv;clear a;unfold aR at m);go_quiet(fail);go_wp2_with fail
      rotate_left 2
      .rw[OE h3 (by rwa[hb]) (.inr<|by simpa using al)]at hfin;have F:=Y hfin;clear hfin hb hy h4 j n d E B D q;go_wp2_with(go_at_call 105;go_call HE.u as e w1 ⟨rfl,L2,a⟩;have l:=Y (p.u.call a);obtain⟨m,P,t⟩:=a.X.zzv;clear a;unfold aR at m);go_quiet(fail);go_wp2_with fail;go_quiet(fail);go_wp2;go_ret;rw[F.u];exact⟨rfl,L2,((l.u.drewN _).store 5 _ {r with A:=r.s.length} rfl rfl rfl rfl).store 6 _ (qQ r) rfl rfl rfl rfl⟩
     rotate_left 2
     .rw[OE h3 (by rwa[hb]) (.inl<|by simpa using ak)]at hfin;have F:=Y hfin;clear hfin hb hy h4 j n d E B D q;go_wp2_with(go_at_call 105;go_call HE.u as e w1 ⟨rfl,L2,a⟩;have l:=Y (p.u.call a);obtain⟨m,P,t⟩:=a.X.zzv;clear a;unfold aR at m);go_quiet(fail);go_wp2_with fail;go_quiet(fail);go_wp2;go_ret;rw[F.u];exact⟨rfl,L2,((l.u.drewN _).store 5 _ {r with A:=r.s.length} rfl rfl rfl rfl).store 6 _ (qQ r) rfl rfl rfl rfl⟩
    rotate_left 2;focus
     have e1:=aj7 h4;rw[Ij h3 (.inl<|by rwa[hb])]at hfin;generalize Q:bF r=ch at *;obtain⟨C,t3,o3⟩:=ch;cases o3
     .have F:=Y (show G=(C,false)from hfin);clear hfin hb hy h4 j n d E B Q;go_wp2_with(go_at_call 105;go_call HE.u as e w1 ⟨rfl,L2,a⟩;have l:=Y (p.u.call a);obtain⟨m,P,t⟩:=a.X.zzv;clear a;unfold aR at m);go_quiet(fail);go_wp2_with(go_at_call 155;go_call(HC.u _ _ (l.u.drewN _).X)as e w2 ⟨rfl,L3,S⟩);go_ret;rw[F.u];exact⟨rfl,L3,(l.u.drewN _).call S⟩
     obtain⟨k,a3,c,a4,a5⟩:=B.2 rfl;have c:C={r with A:=r.A+k}:=c;have T:Kp r (Rf.text C t3):=by rw[c];exact xG (by omega) (by omega) _
     have v:C.y.length<=1000000000:=by rwa[c]
     have HT:=Y λ(W:World) (L' :bA) (hW:bD W b C L')=>Bz hW t3 v;have z:r.A<(Rf.text C t3).A:=by rw[c];show r.A<r.A+k;omega
     have HZ:=Y (ajN (show G=jN f (Rf.text C t3)from hfin) (ajN (j.trans T) (ajN z d)));clear hfin hb hy h4 j n d E B Q a3 c a4 a5 T v z;go_wp2_with(go_at_call 105;go_call HE.u as e w1 ⟨rfl,L2,a⟩;have l:=Y (p.u.call a);obtain⟨m,P,t⟩:=a.X.zzv;clear a;unfold aR at m)
   rotate_left 3
   .rw[show b_ r=({r with stop:=1},true) by simp[b_,h3]]at HE;rw[aaU h3]at hfin;have F:=Y hfin;clear hfin j n d E;go_wp2_with(go_at_call 105;go_call HE.u as e w1 ⟨rfl,L2,a⟩);go_ret;rw[F.u];exact⟨rfl,L2,p.u.call a⟩
   all_goals
    go_quiet(fail)
    go_wp2_with(first
     |(go_at_call 155;go_call(HC.u _ _ (l.u.drewN _).X)as e w2 ⟨rfl,L3,S⟩;have am:=Y ((l.u.drewN _).call S);clear S)
     |(go_at_call 167;go_call(HT.u _ _ am.u.X)as e w4 ⟨rfl,L5,an⟩;have ar:=Y (am.u.call an);clear an))
    obtain⟨z1,z2,z3,z4⟩:=HZ.u;have ao:r.s=s.s:=ab.u.s;go_roundg f;case measure=>omega
    case rel=>exact⟨Rf.text C t3,L5,z1,by rw[<-ao];omega,z2,ar.u⟩
end
