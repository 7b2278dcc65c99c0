import Derived.Test.YtmgfijllcdadgaaGreatDoorUW12
set_option linter.all false
namespace Go.Proofs.YtmgfijllcdadgaaGreatDoor.Q
open List
open Rf
open Mk hiding Rf
variable {on:Bool}{m:Z}
def aiQ:∀(f:Nat) (r:R) (k m:Z) (run:Nat),k.H=1->k.I≠[]->Jb r k->Br r run k->run<=r.A->r.A<=r.s.length->r.s.length<r.A+f->Lk k m->Rt r m->vh r k m (dK f r run):=by
 intro f;induction f using Nat.strongRecOn with
 |_ f ih=>
  intro r k m run B P b Q ao hl hf hm hr;cases f with
  |zero=>omega
  |succ f=>
   have S:=ih f (by omega);have u:=b.cl.t;have y:=b.cl.rp;have a4:¬k.I.length=0:=λg=>P (length_eq_zero_iff.1 g);have a5:1<=r.S:=by have:=b.b2;omega
   unfold dK;by_cases v:r.A<r.s.length
   .rw[J v];dsimp only;by_cases C:r.E r.A=60
    .rw[J<|by simpa using C];have a9:Does k 60 [] {k with bG:=0,H:=3}:=by
      intro L T a r l c e;rw[FF (k:={k with C:=L,F:=T,A:=a,K:=l,aN:=c,O:=r,j:=e}) B u y];simp[fw,bM]
     obtain⟨m1,D,a2,a6⟩:=nM 60 v hm hr (by decide) (by decide) C a9;by_cases he:r.A+1=r.s.length
     .rw[J he];refine .inr ⟨_,rfl,Fin.of D ?_⟩;have:=jS (r:={r with A:=r.A+1}) he a2 b.I (by show r.whole=_;rw[b.wh];exact(lU<|by intro g;cases g).symm);obtain⟨E,W,kk,N,g4,g5,g6⟩|⟨g,_⟩:=this
      .exact .inl ⟨rfl,W,kk,N,g4,g5,g6⟩
      cases g
     rw[M he];have F:r.A+1<r.s.length:=by omega
     by_cases X:r.E (r.A+1)=47
     .rw[J<|by simpa using X];exact .inl ⟨r,m,k,rfl,dF.refl hl,rfl,rfl,hr,hm,B,b,rfl,rfl,F,C,X⟩
     rw[M<|by simpa using X];by_cases z:Rf.fq (r.E (r.A+1))=true
     .rw[J z];cases f with
      |zero=>omega
      |succ f=>
       have aa:Jb r {k with bG:=0,H:=3}:=⟨⟨u,y,b.cl.tk,b.cl.ct,b.cl.hd⟩,b.I,b.ov,b.od,b.oa,b.S,b.on,b.ats,b.nm,b.off,b.wh,b.dp,b.b2,b.b0⟩;rcases UK f (ih f<|by omega) r {k with bG:=0,H:=3} m1 rfl rfl aa F z (by omega) a2 (Rt.of a6)with⟨O,m', k', q1,q2,q3,q4,q5,q6,G,q8,q9,h,ab,ad,ap⟩|⟨O,q1,q2⟩
       .rw[q1];dsimp only;rw[J rfl];have n:=D.trans q2;have a7:¬r.I.length=0:=by rwa[b.I]
        obtain⟨o1,o2,o3,o4,_⟩:=n.o;have ae:Jb O k' :=by
         refine⟨G,by rw[q3,h.I];exact b.I,by rw[q9];simpa using a7,by rw[h.od,o1];exact b.od,by rw[h.oa,o2];exact b.oa,by rw[h.S,o3];exact b.S,by rw[h.on,o4];exact b.on,ab,λg=>?_,λg=>?_,n.wh b.wh,by rw[q3,o1];exact b.dp,by rw[o3];exact b.b2,by rw[o2];exact b.b0⟩
         .rw[q4,h.m,h.T];exact b.nm (by rwa[<-o4])
         rw[h.T];exact b.off (by rwa[<-o4])
        refine vh.of n q3 q4 h.m h.T (S O k' m' O.A (by rw[q8,M a7]) (by rwa[h.I]) ae (Br.zero ad) (a_ _) (by rw[n.s];exact n.lt) (by rw[n.s];omega) q6 (Rt.of q5))
       rw[q1];exact .inr ⟨O,rfl,Fin.of D q2⟩
     rw[M z];have af:=aiw (r:=r) (k:={k with bG:=0,H:=3}) (m:=m1) rfl ⟨u,y,b.cl.tk,b.cl.ct,b.cl.hd⟩ b.S b.on a5 P b.I b.wh F X (by simpa using z) a2 (Rt.of a6);obtain⟨O,m', k', q1,q2,q3,q4,q5,q6,G,q8,q9,h⟩|⟨O,q1,q2⟩:=af
     .rw[q1];dsimp only;rw[J rfl];have n:=D.trans q2;have w:Sa k k' :=⟨G.od,G.oa,G.S,G.on,G.I,G.over,G.m,G.T,G.f⟩;have ag:=q2.le;refine vh.of n q3 q4 w.m w.T (S O k' m' O.A (by rw[q9];show(if k.I.length=0 then(0:Int)else 1)=1;rw[M a4]) (by rwa[w.I]) (b.sa w q8 n q3 q4) (Br.zero h) (a_ _) (by rw[n.s];exact n.lt) (by rw[n.s];simp at ag;omega) q6 (Rt.of q5))
     rw[q1];exact .inr ⟨O,rfl,Fin.of D q2⟩
    rw[M<|by simpa using C];by_cases a0:r.E r.A=38
    .rw[J<|by simpa using a0];have ah:Does k 38 [] (iY {k with bG:=0} 1 [] 0):=by
      intro L T a r l c e;rw[FF (k:={k with C:=L,F:=T,A:=a,K:=l,aN:=c,O:=r,j:=e}) B u y];simp[fw,bM,iY,Mk.kZ]
     obtain⟨c,m1,a,E,W,N,g4,g5,g6,g7⟩|⟨r1,E,W⟩:=Ue (k:={k with bG:=0}) (ahX u (by unfold bI;simp[B]) (by show k.H≠0;rw[B];decide)) v a0 ah hm hr b.I b.wh
     .rw[E];dsimp only;rw[J rfl];have e1:Rf.text {r with A:=a} (dB c)={r with A:=a,y:=r.y++[gu (dB c)]}:=rfl;rw[e1];have w:Sa k (iY {k with bG:=0} 7 [] c):=⟨rfl,rfl,rfl,rfl,rfl,rfl,rfl,rfl,rfl⟩;exact vh.of N rfl rfl rfl rfl (S {r with A:=a,y:=r.y++[gu (dB c)]} (iY {k with bG:=0} 7 [] c) m1 a B P (b.sa w ⟨u,by show Mk.aZ 7=false;decide,b.cl.tk,b.cl.ct,b.cl.hd⟩ N rfl rfl) (Br.zero (r:={r with A:=a,y:=r.y++[gu (dB c)]}) rfl) (a_ _) N.lt (by show r.s.length<a+f;omega) g4 (Rt.of g5))
     rw[E];dsimp only;rw[M];exact .inr ⟨r1,rfl,W⟩
    rw[M<|by simpa using a0];have ai:nb (r.s.getD r.A 0)≠38:=pO (by decide) a0;by_cases p:r.E r.A=62/\k.bG=2
    .have aj:=Q.2.1.1 p.2;rw[J<|by simp[p.1,aj]];refine .inr ⟨_,rfl,f_ v hm hr ?_⟩;have:nb (r.s.getD r.A 0)=62:=by rw[fo<|by rw[p.1];decide,p.1]
     rw[this];intro L T a r l c e;rw[FF (k:={k with C:=L,F:=T,A:=a,K:=l,aN:=c,O:=r,j:=e}) B u y];simp[fw,p.2]
    have ak:(r.E r.A==62&&decide (run+2<=r.A)&&r.E (r.A - 2)==93&&r.E (r.A - 1)==93)=false:=by
     rw[wU];intro g;simp at g;exact p ⟨g.1.1.1,Q.2.1.2 ⟨g.1.1.2,g.2,g.1.2⟩⟩
    rw[ak,M];obtain⟨A,H⟩:∃A:Int,A=if r.E r.A=93 then(if k.bG=0 then 1 else 2)else 0:=⟨_,rfl⟩;have al:Lg k {k with bG:=A} (nb (r.s.getD r.A 0)) (nb (r.s.getD r.A 0)):=by
     intro L T a rr l c e;rw[FF (k:={k with C:=L,F:=T,A:=a,K:=l,aN:=c,O:=rr,j:=e}) B u y,fw,M<|by simpa using(pO (by decide) C),M<|by simpa using ai];by_cases I:r.E r.A=62
     .have nq:nb (r.s.getD r.A 0)=62:=by rw[fo<|by rw[I];decide,I]
      have hb:k.bG≠2:=λg=>p ⟨I,g⟩;have q:A=0:=by rw[H,I,M]
      rw[nq,q];simp[hb]
     have nq:nb (r.s.getD r.A 0)≠62:=pO (by decide) I;rw[M<|by simpa using nq];by_cases d:r.E r.A=93
     .have a3:nb (r.s.getD r.A 0)=93:=by rw[fo<|by rw[d];decide,d]
      have q:A=if k.bG=0 then 1 else 2:=by rw[H,J d]
      rw[a3,q];simp
     have a3:nb (r.s.getD r.A 0)≠93:=pO (by decide) d;have q:A=0:=by rw[H,M d]
     rw[M<|by simpa using a3,q]
    obtain⟨c,m1,j,t,E,W,N,g4,g5,g6,g7,g8⟩|⟨r1,E,g0,W⟩:=Cs (Uv al (by unfold bI;simp[B]) (by show ∀x∈k.D,x.toNat<128;rw[b.cl.hd];intro x hx;cases hx) (by show k.H≠0;rw[B];decide) rfl) (.inl rfl) b.I b.wh v hm hr
    .have ht:dB c=t:=by
      obtain g|g:=g8
      .exact g.2
      exfalso;omega
     rw[E];dsimp only;rw[J rfl];have e0:((({k with bG:=A}:Z).D.map λx=>gu [x])++[gu (dB c)])=[gu t]:=by
      show(k.D.map λx=>gu [x])++[gu (dB c)]=[gu t];rw[b.cl.hd,ht];rfl
     rw[e0]at N g5;have e1:Rf.text {r with A:=r.A+j} t={r with A:=r.A+j,y:=r.y++[gu t]}:=rfl;rw[e1];have w:Sa k {k with bG:=A,D:=[],pc:=c,t:=0}:=⟨rfl,rfl,rfl,rfl,rfl,rfl,rfl,rfl,rfl⟩;have a8:Br {r with A:=r.A+j,y:=r.y++[gu t]} run {k with bG:=A,D:=[],pc:=c,t:=0}:=by
      have am:∀i,({r with A:=r.A+j,y:=r.y++[gu t]}:R).E i=r.E i:=λ_=>rfl;unfold Br;simp only[am];by_cases d:r.E r.A=93
      .have an:j=1:=by
        have:=KG v (by rw[d];decide) (by rw[d];decide) (by rw[d];decide) (by rw[d];decide);rw[this]at E;simp only[Prod.mk.injEq,R.mk.injEq]at E;omega
       subst an;have q:A=if k.bG=0 then 1 else 2:=by rw[H,J d]
       rw[show r.A+1 - 1=r.A by omega,show r.A+1 - 2=r.A - 1 by omega];by_cases a1:k.bG=0
       .rw[q,J a1];have:=Q.2.2.1 a1;refine⟨.inr (.inl rfl),⟨λg=>by omega,λg=>?_⟩,⟨λg=>by omega,λg=>?_⟩⟩
        .exact aj6 ⟨by omega,g.2.2⟩ this
        exact aj6 ⟨by omega,d⟩ g
       rw[q,M a1];have hh:run+1<=r.A/\r.E (r.A - 1)=93:=by
        by_cases g:run+1<=r.A/\r.E (r.A - 1)=93
        .exact g
        exact aj6 (Q.2.2.2 g) a1
       refine⟨.inr (.inr rfl),⟨λ_=>⟨by omega,d,hh.2⟩,λ_=>rfl⟩,⟨λg=>by omega,λg=>?_⟩⟩;exact aj6 ⟨by omega,d⟩ g
      have q:A=0:=by rw[H,M d]
      have K:=aiF v W E g6 g7 ht d;rw[q];refine⟨.inl rfl,⟨λg=>by omega,λg=>aj6 g.2.1 K⟩,⟨λ_ g=>aj6 g.2 K,λ_=>rfl⟩⟩
     exact vh.of N rfl rfl rfl rfl (S {r with A:=r.A+j,y:=r.y++[gu t]} {k with bG:=A,D:=[],pc:=c,t:=0} m1 run B P (b.sa w ⟨rfl,y,b.cl.tk,b.cl.ct,rfl⟩ N rfl rfl) a8 (by show run<=r.A+j;omega) N.lt (by show r.s.length<r.A+j+f;omega) g4 g5)
    rw[E];dsimp only;rw[M];have e0:(({k with bG:=A}:Z).D.map λx=>gu [x])=[]:=by show(k.D.map λx=>gu [x])=[];rw[b.cl.hd];rfl
    rw[e0,aj1,<-g0]at W;exact .inr ⟨r1,rfl,W⟩
   rw[M v];exact .inr ⟨_,rfl,jS (by omega) hm b.I (by rw[b.wh,lU<|by rw[B];decide])⟩
def UM{k:Z}(m:k.H=3)(d:Cl k)(f:k.I=[]){b:Int}(i:b≠33)(j:b≠63)(h:Mk.dP b=false\/k.over=true):fQ k b 3:=by
 intro L T a r l c e;rw[yp (k:={k with C:=L,F:=T,A:=a,K:=l,aN:=c,O:=r,j:=e}) m d.t d.rp,Mk.eG,M<|by simpa using i,M<|by simpa using j,M (by rintro⟨_,g⟩;have:k.I.length=0:=(by rw[f];rfl);have n:0<k.I.length:=g;omega),M<|by obtain g|g:=h<;>simp[g]]
def UN{g h i:Int}(d1:1<=g)(t1:8<=i)(a1:0<=h)(s:U):Fin (gT g h i on s) (bB g h i on) (lY (gT g h i on s)):=by
 obtain⟨b,p⟩:=akb (gT g h i on s);obtain⟨a,f⟩:=akb (bB g h i on);rw[p,f];have W:Lk a a:=by rw[<-f];exact⟨_,_,_,_,_,_,rfl⟩
 have q:Cl a:=by rw[<-f];exact⟨rfl,rfl,rfl,rfl,rfl⟩
 have X:a.H=0/\a.I=[]/\a.over=false/\a.S=i/\a.on=on/\a.od=g/\a.oa=h/\a.O=false/\a.f=[]/\a.bG=0/\a.m=[(Mk.qP,Mk.lu)]/\a.T=[]:=by rw[<-f];exact⟨rfl,rfl,rfl,rfl,rfl,rfl,rfl,rfl,rfl,rfl,rfl,rfl⟩
 obtain⟨s1,I,K,y,z,s6,s7,s8,s9,A,B,u⟩:=X;have e2:b.od=g/\b.oa=h/\b.S=i/\b.on=on/\b.A=0/\b.I=[]/\b.whole=false/\b.P=[]:=by rw[<-p];exact⟨rfl,rfl,rfl,rfl,rfl,rfl,rfl,rfl⟩
 obtain⟨L,N,n,C,z5,z6,O,z8⟩:=e2;unfold lY Rf.ig;obtain⟨r1,m1,k1,q1,q2,q3,q4,q5,q6,q7,q8,q9,Cu,l,KX,KY,q14,q15⟩|⟨r1,q1,q2⟩:=TX false (b.s.length+1) b a a s1 q I K (by rw[y,n]) (by rw[z,C]) (by rw[n];omega) z6 O (by rw[z5];omega) (by omega) W (Rt.of s8)
 .rw[q1];dsimp only;rw[M];have v:r1.s=b.s:=q2.s;rw[<-v]at l;have j:k1.I=[]:=by rw[q7.I,I]
  obtain⟨m2,D,w,x⟩:=nM 60 (by omega) q6 q5 (by decide) (by decide) KX (KM q9 q8);have e:=q2.trans D;by_cases c:Rf.fq (r1.E (r1.A+1))=true
  .rw[M<|by simp[c]];obtain⟨P,Q,S,o4,o5⟩:=q2.o;have hJ:Jb r1 {k1 with H:=3}:=by
    refine⟨q8.st 3,by rw[q3,j],by rw[q7.over,K],by rw[q7.od,s6,P,L],by rw[q7.oa,s7,Q,N],by rw[q7.S,y,S,n],by rw[q7.on,z,o4,C],by rw[q7.f,s9],λ_=>?_,λ_=>by rw[q7.T,u],Cu,by rw[q3,P,L];simp;omega,by rw[S,n];omega,by rwa[Q,N]⟩;rw[q4,z8,q7.m,q7.T,B,u];exact⟨rfl,rfl,λt ht=>by cases ht⟩
   have E:k1.bG=0:=by rw[q15,A]
   rw[show 2*b.s.length+2=(2*b.s.length+1)+1 from rfl];rcases UK (2*b.s.length+1) (aiQ _) r1 {k1 with H:=3} m2 rfl E hJ l c (by rw[v];omega) w (Rt.of x)with⟨r3,m3,k3,p1,p2,p3,p4,p5,p6,p7,p8,p9,wM,KO,TY,T_⟩|⟨r3,p1,p2⟩
   .rw[p1];dsimp only;rw[M];have d:=e.trans p2;have m:r1.I.length=0:=by rw[q3];rfl
    obtain⟨u1,u2,T,u4,u5⟩:=d.o;obtain⟨r4,m4,k4,w1,w2,w3,w4,w5,w6,w7,w8,w9,OU,Iu,OW,w13,w14,w15⟩|⟨r4,w1,w2⟩:=TX true (r3.s.length+1) r3 k3 m3 (by rw[p8,J m]) p7 (by rwa[wM.I]) (by rw[p9];simpa using m) (by rw[wM.S];rw[q7.S,y,T,n]) (by rw[wM.on];rw[q7.on,z,u4,C]) (by rw[T,n];omega) (by rw[p3,q3]) (d.wh O) (by rw[d.s];exact d.lt) (by omega) p6 (Rt.of p5)
    .rw[w1];dsimp only;rw[J rfl];rw[<-w2.s]at Iu;obtain⟨m5,F,G,H⟩:=nM 60 (by omega) w6 w5 (by decide) (by decide) OW (KM w9 w8);refine Fin.of ((d.trans w2).trans F) (f_ (r:={r4 with A:=r4.A+1}) Iu G (Rt.of H) ?_ (by decide));exact UM (k:={k4 with H:=3}) rfl (w8.st 3) (by rwa[w7.I,wM.I]) (pO (by decide) w13) (pO (by decide) w14) (.inr<|by rw[w7.over,p9];simpa using m)
    rw[w1];exact Fin.of d w2
   rw[p1];exact Fin.of e p2
  rw[J<|by simpa using c];refine Fin.of e (f_ (r:={r1 with A:=r1.A+1}) l w (Rt.of x) ?_ (by decide));exact UM (k:={k1 with H:=3}) rfl (q8.st 3) j (pO (by decide) KY) (pO (by decide) q14) (.inl<|by rw[<-letter_eq];show Rf.fq (nb (r1.s.getD (r1.A+1) 0))=false;rw[KJ];simpa[R.E]using c)
 rw[q1];exact q2
def wN:∀(l:U) (m:Z),m.j≠0->aQ m l=m
 |[],m,_=>rfl
 |x::l,m,h=>by
  have e:aS m x=m:=by rw[aS,M h]
  rw[aQ,e];exact wN l m h
def Lk.I{k m:Z}(h:Lk k m):m.I=k.I:=by obtain⟨L,T,a,l,c,r,rfl⟩:=h;rfl
def Lk.doc{k:Z}(h:Lk k m):fO m=fO k:=by obtain⟨L,T,a,l,c,r,rfl⟩:=h;rfl
def UO(r:R)(n:Nat)(h:r.A=0):seg r r.A n=r.s.take n:=by rw[seg,h];simp
def yu{a b c:Int}(x:1<=a)(y:8<=c)(z:0<=b)(s:U):
 ((aQ (bB a b c on) s).j=0/\fN a b c on s=⟨tE (bB a b c on) s,0,fO (aQ (bB a b c on) s),s.length,(aQ (bB a b c on) s).I,(Rf.place s s.length).1,(Rf.place s s.length).2⟩
  /\Un (bB a b c on) s)\/
 (∃n,n<s.length/\(aQ (bB a b c on) (s.take n)).j=0/\(aS (aQ (bB a b c on) (s.take n)) (s.getD n 0)).j≠0/\
  fN a b c on s=⟨tE (bB a b c on) (s.take n),(aS (aQ (bB a b c on) (s.take n)) (s.getD n 0)).j,false,n+1,(aQ (bB a b c on) (s.take n)).I,(Rf.place s n).1,(Rf.place s n).2⟩
  /\Un (bB a b c on) (s.take n)/\(∀L T,(aS {aQ (bB a b c on) (s.take n)with C:=L,F:=T} (s.getD n 0)).j=(aS (aQ (bB a b c on) (s.take n)) (s.getD n 0)).j)):=by
 have F:=UN (on:=on) x y z s;have e0:(gT a b c on s).s=s/\(gT a b c on s).A=0/\(gT a b c on s).err=0/\(gT a b c on s).y=[]/\(gT a b c on s).whole=false:=⟨rfl,rfl,rfl,rfl,rfl⟩;obtain⟨t,A,E,G,H⟩:=e0;obtain⟨u,v,k,f,g,l,B,q⟩|⟨u,v,f,⟨k,g⟩,l,B,q,C⟩:=F
 .left;rw[t,A,wX]at f g q;rw[G,ul]at g;rw[E]at v;refine⟨f.en,?_,q⟩;unfold fN;rw[M<|by rw[u];decide,g,v,l,B,f.I,f.doc]
 right;rw[UO _ _ A,t]at g l C;rw[t]at f;have d:(aS (aQ (bB a b c on) (s.take (lY (gT a b c on s)).A)) (s.getD (lY (gT a b c on s)).A 0)).j=(lY (gT a b c on s)).err:=l _ _;refine⟨(lY (gT a b c on s)).A,f,g.en,by rwa[d],?_,C,λL T=>by rw[d];exact l L T⟩;unfold fN;dsimp only;rw[J u,d,q H];clear d l;have I:=UN (on:=on) x y z (s.take (lY (gT a b c on s)).A);generalize(lY (gT a b c on s)).A=n at *;obtain⟨K,N,O,m,o,r,D,P⟩|⟨K,N,m,⟨O,o⟩,r,D,P,R⟩:=I
 .have h:(gT a b c on (s.take n)).s=s.take n/\(gT a b c on (s.take n)).A=0/\(gT a b c on (s.take n)).y=[]:=⟨rfl,rfl,rfl⟩;rw[h.1,h.2.1,wX]at m o;rw[h.2.2,ul]at o;rw[o,r,<-m.I]
 exfalso;have h:(gT a b c on (s.take n)).s=s.take n/\(gT a b c on (s.take n)).A=0:=⟨rfl,rfl⟩;rw[UO _ _ h.2,h.1]at o r;rw[h.1]at m;generalize(lY (gT a b c on (s.take n))).A=j at *;have w:s.take n=(s.take n).take j++((s.take n).getD j 0::(s.take n).drop (j+1)):=by
  have:=ol j (s.take n);rw[gB m]at this;have e:(s.take n)[j]=(s.take n).getD j 0:=by simp only[List.getD,l_ m,AK]
  rw[e]at this;exact this.symm
 have i:=g.en;rw[w,qj]at i;have Q:aQ (aQ (bB a b c on) ((s.take n).take j)) ((s.take n).getD j 0::(s.take n).drop (j+1))=aQ (aS (aQ (bB a b c on) ((s.take n).take j)) ((s.take n).getD j 0)) ((s.take n).drop (j+1)):=rfl;have p:(aS (aQ (bB a b c on) ((s.take n).take j)) ((s.take n).getD j 0)).j=(lY (gT a b c on (s.take n))).err:=r _ _;rw[Q,wN _ _<|by rwa[p],p]at i;exact D i
def FG:∀(X:List Ev) (t:U) (o:List Ev),mW X t o=(if(bM (o,t) X).2.length=0 then(bM (o,t) X).1 else(bM (o,t) X).1++[gu (bM (o,t) X).2])
 |[],t,o=>by
  unfold mW bM;by_cases h:t=[]
  .simp[h]
  .rw[M h,M<|by simpa using h];rfl
 |e::X,t,o=>by
  unfold mW;by_cases a:e.kind=3
  .have b:bM (o,t) (e::X)=bM (o,t++e.val) X:=by rw[bM,J a]
   rw[J<|by simpa using a,b];exact FG X _ _
  rw[M<|by simpa using a];by_cases h:t=[]
  .have b:bM (o,t) (e::X)=bM (o++[e],[]) X:=by rw[bM,M a,J<|by simp[h]]
   rw[J h,b];exact FG X _ _
  have b:bM (o,t) (e::X)=bM (o++[gu t,e],[]) X:=by rw[bM,M a,M<|by simpa using h];simp
  rw[M h,b];exact FG X _ _
def Lr{l:U}(h:Un m l)(b:m.C=[])(c:m.F=[]):(bK (aQ m l)).C=Ar (tE m l):=by
 have:=h.out [] [];have e:({m with C:=[],F:=[]}:Z)=m:=by rw[<-b,<-c]
 rw[e]at this;have a:(aQ m l).C=(bM ([],[]) (tE m l)).1:=by rw[this]
 have d:(aQ m l).F=(bM ([],[]) (tE m l)).2:=by rw[this]
 rw[Ar,FG,bK,a,d];split
 .exact a
 rfl
def Ls:∀(l:U) (m:Z) (L:List Ev) (T:U),Un m l->tE {m with C:=L,F:=T} l=tE m l
 |[],_,_,_,_=>rfl
 |b::l,m,L,T,h=>by
  show tb m b++tE (aS {m with C:=L,F:=T} b) l=_;rw[h.1 L T,Ls l _ _ _ h.2];rfl
def Un.set:∀{l:U} {m:Z} (L:List Ev) (T:U),Un m l->Un {m with C:=L,F:=T} l
 |[],_,_,_,_=>trivial
 |b::l,m,L,T,h=>by
  refine⟨λa c=>?_,?_⟩
  .show aS {m with C:=a,F:=c} b=_;rw[h.1 a c,h.1 L T];rfl
  rw[h.1 L T];exact Un.set _ _ h.2
def CH{s more:U}{n:Nat}(b:(aQ m s).j=0)(h:(aS (aQ m ((s++more).take n)) ((s++more).getD n 0)).j≠0)(i:n<(s++more).length):s.length<=n:=by
 by_cases g:s.length<=n
 .exact g
 exfalso;have a:n<s.length:=by omega
 have c:(s++more).getD n 0=s.getD n 0:=by simp[List.getD,pW,a]
 rw[(CX<|by omega),c]at h;have e:s=s.take n++(s.getD n 0::s.drop (n+1)):=by
  have:=ol n s;rw[gB a]at this;have d:s[n]=s.getD n 0:=by simp[List.getD,a]
  rw[d]at this;exact this.symm
 rw[e,qj]at b;have f:aQ (aQ m (s.take n)) (s.getD n 0::s.drop (n+1))=aQ (aS (aQ m (s.take n)) (s.getD n 0)) (s.drop (n+1)):=rfl;rw[f,wN _ _ h]at b;exact h b
def took(m:Z)(l:U)(k:Nat):Prop:=((aQ m l).j=0/\k=l.length)\/(∃n,n<l.length/\(aQ m (l.take n)).j=0/\(aS (aQ m (l.take n)) (l.getD n 0)).j≠0/\aQ m l=aS (aQ m (l.take n)) (l.getD n 0)/\k=n+1)
def Lt{c d f:Int}(H:1<=c)(I:8<=f)(K:0<=d)(s more:U)(O:(aQ (bB c d f on) s).j=0)(m:Z)(h:m={aQ (bB c d f on) s with C:=[],F:=[]}):
 (aU c d f on s more).y=(dM m more).2.1/\(aU c d f on s more).err=(dM m more).2.2/\∃k,took m more k/\(aU c d f on s more).A=s.length+k/\k<=more.length:=by
 obtain⟨a,i⟩:=akb (aQ (bB c d f on) s);rw[i]at O h;have v:m.j=0:=by rwa[h]
 have w:m.C=[]:=by rw[h]
 have x:m.F=[]:=by rw[h]
 have P:(fN c d f on s).y=tE (bB c d f on) s:=by
  obtain⟨_,q,_⟩|⟨n,y,z,p,A,_⟩:=yu (on:=on) H I K s
  .rw[q]
  exfalso;have:=CH (more:=[]) (by rwa[i]) (by rwa[aj1]) (by rwa[aj1]);omega
 unfold aU;dsimp only;have r:dM m more=(Mk.qL (aQ m more),(bK (aQ m more)).C,(aQ m more).j):=by unfold dM;rw[J v]
 rw[r,P];obtain⟨y,z,p⟩|⟨n,y,z,p,A,L,B⟩:=yu (on:=on) H I K (s++more)
 .have t:Un a more:=by rw[<-i];exact p.right
  have u:Un m more:=by rw[h];exact Un.set _ _ t
  rw[z];dsimp only;have D:tE (bB c d f on) (s++more)=tE (bB c d f on) s++tE a more:=by rw[Co,i]
  have E:tE m more=tE a more:=by rw[h];exact Ls more a [] [] t
  have C:(aQ m more).j=0:=by
   rw[h,t.out [] []];rwa[qj,i]at y
  rw[D,bT,Nat.min_eq_left<|by omega,drop_left,<-E,Lr u w x,C];exact⟨rfl,rfl,more.length,.inl ⟨C,rfl⟩,by simp,a_ _⟩
 have Q:=CH (by rwa[i]) p y;obtain⟨j,R⟩:∃j,n=s.length+j:=⟨n - s.length,by omega⟩;subst R;have l:j<more.length:=by simp at y;omega
 have F:(s++more).getD (s.length+j) 0=more.getD j 0:=by rw[List.getD,List.getD,Aw<|by omega,Nat.add_sub_cancel_left]
 rw[(take_length_add_append j)]at z p A L B;rw[F]at p A B;rw[qj,i]at z p A B;have t:Un a (more.take j):=by rw[<-i];exact L.right
 have u:Un m (more.take j):=by rw[h];exact Un.set _ _ t
 have E:tE m (more.take j)=tE a (more.take j):=by rw[h];exact Ls _ a [] [] t
 have N:aQ m (more.take j)={aQ a (more.take j)with C:=(bM ([],[]) (tE a (more.take j))).1,F:=(bM ([],[]) (tE a (more.take j))).2}:=by rw[h];exact t.out [] []
 have o:(aQ m (more.take j)).j=0:=by rwa[N]
 have b:(aS (aQ m (more.take j)) (more.getD j 0)).j=(aS (aQ a (more.take j)) (more.getD j 0)).j:=by
  rw[N];exact B _ _
 have g:aQ m more=aS (aQ m (more.take j)) (more.getD j 0):=by
  have e:more=more.take j++(more.getD j 0::more.drop (j+1)):=by
   have:=ol j more;rw[gB l]at this;have C:more[j]=more.getD j 0:=by simp[List.getD,l]
   rw[C]at this;exact this.symm
  conv=>lhs;rw[e,qj]
  exact wN _ _ (by rwa[b])
 have G:=J_ (aQ m (more.take j)) (more.getD j 0) o (by rwa[b]);rw[A];dsimp only;have D:tE (bB c d f on) (s++more.take j)=tE (bB c d f on) s++tE a (more.take j):=by rw[Co,i]
 have S:(bK (aQ m more)).C=(bK (aQ m (more.take j))).C:=by
  rw[g];unfold bK;rw[G.1,G.2];split
  .exact G.1
  rfl
 rw[D,bT,Nat.min_eq_left<|by omega,drop_left,<-E,S,Lr u w x,g,b];exact⟨rfl,rfl,j+1,.inr ⟨j,l,o,by rwa[b],g,rfl⟩,by omega,l⟩
