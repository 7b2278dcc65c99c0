import Derived.Test.YtmgfijllcdadgaaGreatDoorUW24
set_option linter.all false
set_option maxHeartbeats 8000000
set_option maxRecDepth 100000
namespace Go.Proofs.YtmgfijllcdadgaaGreatDoor.V
open Go.RowKit
open Go.Proofs.Tryz
open Rf
open Mk (U Ev aI)
def Ir(t:U):U:=if t=[10]\/t=[9]then[32]else t
section
variable {f:Nat}{r:R}{t:U}{c q:Int}
def aa3(h:¬r.A<r.s.length):iD q (f+1) r t c=({r with stop:=1},[],false):=by
 rw[iD,M h]
def aa4(h:r.A<r.s.length)(a:r.E r.A=q):iD q (f+1) r t c=({r with A:=r.A+1},t,true):=by
 rw[iD,J h];simp[a]
def aa5(h:r.A<r.s.length)(a:r.E r.A≠q)(b:r.E r.A=60):iD q (f+1) r t c=(eZ r 3,[],false):=by
 rw[iD,J h];dsimp only;rw[M<|by simpa using a,J<|by simpa using b]
def aa6(h:r.A<r.s.length)(a:r.E r.A≠q)(b:r.E r.A≠60)(d:c=r.S):iD q (f+1) r t c=(Rf.mO r r.A,[],false):=by
 rw[iD,J h];dsimp only;rw[M<|by simpa using a,M<|by simpa using b,J<|by simpa using d]
def aa7(h:r.A<r.s.length)(b:r.E r.A≠q)(a:r.E r.A=38)(d:c≠r.S):iD q (f+1) r t c=if(iT r).2.2 then iD q f (iT r).1 (t++(iT r).2.1) (c+1)else((iT r).1,[],false):=by
 rw[iD,J h];dsimp only;rw[M<|by simpa using b,M<|by simp[a],M<|by simpa using d];have e:=aka a;simp only[e,bY]
def aa8(h:r.A<r.s.length)(a:r.E r.A≠q)(b:r.E r.A≠60)(d:r.E r.A≠38)(g:c≠r.S):iD q (f+1) r t c=if(bF r).2.2 then iD q f (bF r).1 (t++Ir (bF r).2.1) (c+1)else((bF r).1,[],false):=by
 rw[iD,J h];dsimp only;rw[M<|by simpa using a,M<|by simpa using b,M<|by simpa using g];have e:=aj7 d;simp only[e,cK,cE];rfl
end
section
variable {w w' :World}{b:Nat}{s:R}{L:bA}
def OQ(h:bD w b s L)(hl:iW s)(hi:s.A<s.s.length)(hq:s.E s.A=34\/s.E s.A=39)(ao:s.s.length<=100000000)(hG:gQ w)(a5:0<b):Calls prog 158 #[.pointer (some ⟨b,0,none⟩)] w (xw w b s L (iD (s.E s.A) (s.s.length+1) {s with A:=s.A+1} [] 0)):=by
 obtain⟨y0,a6,a7,ag⟩:=gP s s.A hi;rw[a6]at hq⊢;have HM:=Y h;have HL:=Y hl;have h1:=hl.len;have a8:=Y (Kp.to (r:=s) (k:=s.A+1) (by omega) (by omega));obtain⟨ah,P⟩:=aj8 (iD (y0.toNat:Int) (s.s.length+1) {s with A:=s.A+1} [] 0);rw[<-P];have ai:=h.lt;have hc:=h.cell;have hf:=h.frozen;unfold aR at hc;have H:=Y P;have HG:=Y hG;have a9:(s.A:Int)<(s.s.length:Int):=by omega
 have aa:Hid (∀n,bL w b (cO s L) ((w.drewN n).setCell ⟨b,5,none⟩ (.int .i64 ((s.A:Int)+1))) {s with A:=s.A+1} L):=λn=>(HM.u.start.drewN n).store 5 _ {s with A:=s.A+1} (by simp[aR]) rfl rfl rfl;have aj:wrap64 ((s.A:Int)+1)=((s.A+1:Nat):Int):=by unfold wrap64;omega
 obtain hq|hq:=hq;focus
  have q3:((y0.toNat:Int) !=34)=false:=by rw[hq];rfl
  have q4:((y0.toNat:Int) !=39)=true:=by rw[hq];rfl
 rotate_left;focus
  have q3:((y0.toNat:Int) !=34)=true:=by rw[hq];rfl
  have q4:((y0.toNat:Int) !=39)=false:=by rw[hq];rfl
 all_goals
  clear h P hl hG hq ag a6;go_enter func158,ntmps158;go_wp2;go_quiet(fail);go_wp2_with fail;go_loopg [5,6] (s.s.length+1) λg s5 s6 wx=>∃(r:R) (t:U) (c:Int) (L1:bA),s5=.string ⟨t.toArray⟩/\s6=.int .i64 c/\0<=c/\c<=r.S/\ah=iD (y0.toNat:Int) g r t c/\s.s.length - r.A<g/\Kp s r/\t.length<=4*r.A/\bL w b (cO s L) wx r L1;case atStart=>exact⟨{s with A:=s.A+1},[],0,L,rfl,rfl,by omega,HL.u.t0,H.u,by show s.s.length - (s.A+1)<_;omega,a8.u,by simp,aa.u _⟩
  case round=>
   obtain⟨r,t,c,L1,rfl,rfl,p,q,hfin,hg,v,x,hm⟩:=hrel;have Q:=v.ok HL.u;obtain⟨f,rfl⟩:∃f,gk=f+1:=⟨gk - 1,by omega⟩;have h1:=Q.len;have h2:=Q.A;have A:r.s.length<=100000000:=by rwa[v.s]
   have HE:=Y (pu hm.X Q);have D:=Y hm;have a0:=Y Q;have d:r.s.length - r.A<f+1:=by rwa[v.s]
   have a1:=Y v;have ak:=Y A;clear hm Q hg H aa a8 hc hf ai a9 a7 q3 q4 aj hi;by_cases I:r.A<r.s.length
   .rw[show b_ r=(r,false) by simp[b_,I]]at HE;obtain⟨y,E,ap,hy⟩:=gP r r.A I;have a9:(r.A:Int)<(r.s.length:Int):=by omega
    by_cases h4:(y.toNat:Int)=(y0.toNat:Int)
    .rw[aa4 I<|by rwa[E]]at hfin;have e1:=aka h4;have H:=Y hfin;have aq:wrap64 ((r.A:Int)+1)=((r.A+1:Nat):Int):=by unfold wrap64;omega
     clear hfin E hy v d x p q A h4;go_wp2_with(go_at_call 105;go_call HE.u as e w1 ⟨rfl,L2,a⟩;have i:=Y (D.u.call a);obtain⟨l,O,z⟩:=a.X.zzv;clear a;unfold aR at l);go_quiet(fail);go_wp2;go_ret2;rw[H.u];exact⟨rfl,L2,(i.u.drewN _).store 5 _ {r with A:=r.A+1} (by simp[aR]) rfl rfl rfl⟩
    have e1:=aj7 h4;by_cases h5:(y.toNat:Int)=60
    .rw[aa5 I (by rwa[E]) (by rwa[E])]at hfin;have e2:=aka h5;have H:=Y hfin;clear hfin E hy v d x p q A h4 h5;go_wp2_with(go_at_call 105;go_call HE.u as e w1 ⟨rfl,L2,a⟩;have i:=Y (D.u.call a);obtain⟨l,O,z⟩:=a.X.zzv;clear a;unfold aR at l);go_quiet(fail);go_wp2_with(go_at_call 83;go_call(kM (i.u.drewN _).X 3)as e w2 ⟨rfl,S,m⟩);go_ret2;rw[H.u];exact⟨rfl,S,(i.u.drewN _).call m⟩
    have e2:=aj7 h5;by_cases K:c=r.S
    .rw[aa6 I (by rwa[E]) (by rwa[E]) K]at hfin;have e3:=aka K;have H:=Y hfin;have HH:=Y I;clear hfin E hy v d x p q A h4 h5 K;go_wp2_with(go_at_call 105;go_call HE.u as e w1 ⟨rfl,L2,a⟩;have i:=Y (D.u.call a);obtain⟨l,O,z⟩:=a.X.zzv;clear a;unfold aR at l);go_quiet(fail);go_wp2_with(go_at_call 154;go_call(Bm (i.u.drewN _).X a0.u r.A HH.u)as e w2 ⟨rfl,S,m⟩);go_ret2;rw[H.u];exact⟨rfl,S,(i.u.drewN _).call m⟩
    have e3:=aj7 K;have ab:wrap64 (c+1)=c+1:=by
     have:=a0.u.t1;unfold wrap64;omega
    by_cases h7:(y.toNat:Int)=38
    .rw[aa7 I (by rwa[E]) (by rwa[E]) K]at hfin;have e4:=aka h7;have o:=vQ I;have HC:=Y λ(W:World) (L' :bA) (hW:bD W b r L') (al:gQ W)=>NZ hW a0.u I ak.u al a5;have ad:=Y λ(W:World) (r' :R) (L' :bA) (hm:bL w b (cO s L) W r' L')=>HG.u.mv HM.u hm a5;generalize T:iT r=ch at *;obtain⟨r3,N,o3⟩:=ch;cases o3 with
     |false=>
      simp only[cK,cE]at hfin;have H:=Y hfin;clear hfin E hy v d x p q A h4 h5 K h7 o T;go_wp2_with(go_at_call 105;go_call HE.u as e w1 ⟨rfl,L2,a⟩;have i:=Y (D.u.call a);obtain⟨l,O,z⟩:=a.X.zzv;clear a;unfold aR at l);go_quiet(fail);go_wp2_with(go_at_call 166;go_call(HC.u _ _ (i.u.drewN _).X (ad.u _ _ _ (i.u.drewN _)))as e w2 ⟨rfl,S,m⟩);go_ret2;rw[H.u];exact⟨rfl,S,(i.u.drewN _).call m⟩
     |true=>
      simp only[bY]at hfin;obtain⟨k,G,j,B,C⟩:=o.2 rfl;have ae:=xA t N;have af:t.length<=400000000:=by omega
      have am:N.length<=100000000:=by simp only at C;omega
      have HZ:=Y (ajN hfin (ajN o.1 (ajN G (ajN j (ajN B (ajN C (ajN d (ajN x (ajN p (ajN q K))))))))));clear hfin E hy v d x p q A h4 h5 K h7 o T G j B C;go_wp2_with(go_at_call 105;go_call HE.u as e w1 ⟨rfl,L2,a⟩;have i:=Y (D.u.call a);obtain⟨l,O,z⟩:=a.X.zzv;clear a;unfold aR at l);go_quiet(fail);go_wp2_with(go_at_call 166;go_call(HC.u _ _ (i.u.drewN _).X (ad.u _ _ _ (i.u.drewN _)))as e w2 ⟨rfl,S,m⟩;have a2:=Y ((i.u.drewN _).call m);clear m);obtain⟨hfin,o,G,j,B,C,d,x,p,q,K⟩:=HZ.u;have X:r.s=s.s:=a1.u.s;have a3:r3.S=r.S:=by rw[B]
      have F:r3.A=k:=by rw[B]
      go_roundg f;case measure=>omega
      case rel=>exact⟨r3,t++N,c+1,S,rfl,by rw[ab],by omega,by rw[a3];omega,hfin,by rw[F,<-X];omega,a1.u.trans o,by rw[F,bT];omega,a2.u⟩
    rw[aa8 I (by rwa[E]) (by rwa[E]) (by rwa[E]) K]at hfin;have e4:=aj7 h7;have o:=oC I;have HC:=Y λ(W:World) (L' :bA) (hW:bD W b r L')=>zi hW a0.u I;generalize T:bF r=ch at *;obtain⟨r3,N,o3⟩:=ch;have a4:Ir N=if(N==[10])||(N==[9])then[32]else N:=by simp[Ir]
    simp only[a4]at hfin;cases o3 with
    |false=>
     simp only[cK,cE]at hfin;have H:=Y hfin;cases v1:(N==[10])<;>cases v2:(N==[9]);all_goals
      clear hfin E hy v d x p q A h4 h5 K h7 o T a4;go_wp2_with(go_at_call 105;go_call HE.u as e w1 ⟨rfl,L2,a⟩;have i:=Y (D.u.call a);obtain⟨l,O,z⟩:=a.X.zzv;clear a;unfold aR at l);go_quiet(fail);go_wp2_with(go_at_call 155;go_call(HC.u _ _ (i.u.drewN _).X)as e w2 ⟨rfl,S,m⟩);go_ret2;rw[H.u];exact⟨rfl,S,(i.u.drewN _).call m⟩
    |true=>
     simp only[bY]at hfin;obtain⟨k,G,j,B,C⟩:=o.2 rfl;have ae:=xA t N;have an:=xA t [32];have af:t.length<=400000000:=by omega
     have am:N.length<=100000000:=by simp only at C;omega
     have HZ:=Y (ajN hfin (ajN o.1 (ajN G (ajN j (ajN B (ajN C (ajN d (ajN x (ajN p (ajN q K))))))))));cases v1:(N==[10])<;>cases v2:(N==[9]);all_goals
      clear hfin E hy v d x p q A h4 h5 K h7 o T G j B C a4;go_wp2_with(go_at_call 105;go_call HE.u as e w1 ⟨rfl,L2,a⟩;have i:=Y (D.u.call a);obtain⟨l,O,z⟩:=a.X.zzv;clear a;unfold aR at l);go_quiet(fail);go_wp2_with(go_at_call 155;go_call(HC.u _ _ (i.u.drewN _).X)as e w2 ⟨rfl,S,m⟩;have a2:=Y ((i.u.drewN _).call m);clear m);obtain⟨hfin,o,G,j,B,C,d,x,p,q,K⟩:=HZ.u;rw[v1,v2]at hfin;simp only[Au,oU,cK,cE,bY]at hfin;have X:r.s=s.s:=a1.u.s;have a3:r3.S=r.S:=by rw[j]
      have F:r3.A=r.A+k:=by rw[j]
      go_roundg f;case measure=>omega
      case rel=>exact⟨r3,_,c+1,S,rfl,by rw[ab],by omega,by rw[a3];omega,hfin,by rw[F,<-X];omega,a1.u.trans o,by rw[F,bT];(try simp only[cT,fB]);omega,a2.u⟩
   rw[show b_ r=({r with stop:=1},true) by simp[b_,I]]at HE;rw[aa3 I]at hfin;have H:=Y hfin;clear hfin v d x p q A;go_wp2_with(go_at_call 105;go_call HE.u as e w1 ⟨rfl,L2,a⟩);go_ret2;rw[H.u];exact⟨rfl,L2,D.u.call a⟩
def AZ(h:bD w b s L)(i:iW s)(j:s.A<s.s.length)(f:s.s.length<=100000000)(l:gQ w)(g:0<b):Calls prog 158 #[.pointer (some ⟨b,0,none⟩)] w (xw w b s L (iA s)):=by
 by_cases c:s.E s.A=34
 .have e:iA s=iD (s.E s.A) (s.s.length+1) {s with A:=s.A+1} [] 0:=by simp[iA,c]
  rw[e];exact OQ h i j (.inl c) f l g
 by_cases d:s.E s.A=39
 .have e:iA s=iD (s.E s.A) (s.s.length+1) {s with A:=s.A+1} [] 0:=by simp[iA,d]
  rw[e];exact OQ h i j (.inr d) f l g
 have e:iA s=(eZ s 3,[],false):=by simp[iA,c,d]
 rw[e];have o:=Y h;have q:=h.lt;have r:=h.cell;have x:=h.frozen;unfold aR at r;have y:=i.len;have t:(s.A:Int)<(s.s.length:Int):=by omega
 obtain⟨k,a,p,m⟩:=gP s s.A j;have z:((k.toNat:Int)==34)=false:=by rw[<-a];simpa using c
 have A:((k.toNat:Int)==39)=false:=by rw[<-a];simpa using d
 have B:((k.toNat:Int) !=34)=true:=by rw[<-a];simpa using c
 have C:((k.toNat:Int) !=39)=true:=by rw[<-a];simpa using d
 clear h i j l a m c d;go_enter func158,ntmps158;go_wp2;go_quiet(fail);go_wp2_with(go_at_call 83;go_call(kM (o.u.start.drewN _).X 3)as e w2 ⟨rfl,v,n⟩);go_ret2;exact⟨rfl,v,(o.u.start.drewN _).call n⟩
end
