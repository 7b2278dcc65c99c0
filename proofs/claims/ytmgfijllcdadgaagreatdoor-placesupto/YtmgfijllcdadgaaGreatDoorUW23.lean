import Derived.Test.YtmgfijllcdadgaaGreatDoorUW19
set_option linter.all false
set_option maxHeartbeats 8000000
set_option maxRecDepth 100000
namespace Go.Proofs.YtmgfijllcdadgaaGreatDoor.V
open Go.RowKit
open Go.Proofs.Tryz
open Rf
open Mk (U Ev aI)
def Ea{r:R}(h:(cF r).2.2=true):∃k,(cF r).1={r with A:=r.A+k}/\r.A+k<r.s.length/\(cF r).2.1=(r.s.drop r.A).take k:=by
 unfold cF at h⊢;simp only at h⊢;split at h
 .cases h
 rename_i b;rw[M b];have a:=DR (r:={r with A:=r.A+Rf.iK Rf.dL (r.s.drop r.A)}) (by simpa using h);exact⟨_,a.1,a.2,rfl⟩
def Bp(r:R)(a:U):R×Bool:=
 if r.E r.A !=63&& !Rf.bJ (r.E r.A)then(eZ r 3,false)
 else if Rf.jg a then(eZ r 3,false)
 else if r.on&&Rf.cW a then(eZ r 8,false)
 else if r.E r.A==63 then
  (if(bW {r with A:=r.A+1} 62).2 then Rf.gS (bW {r with A:=r.A+1} 62).1 ⟨5,a,[],[],[]⟩else(bW {r with A:=r.A+1} 62).1,(bW {r with A:=r.A+1} 62).2)
 else Rf.jF a (r.s.length+1) (aV r) [] 0
theorem Oq(r:R):pq r=if r.A<r.s.length then(if !Rf.fq (r.E r.A)then(eZ r 3,false)else if !(cF r).2.2 then((cF r).1,false)else Bp (cF r).1 (cF r).2.1)else({r with stop:=1},false):=rfl
section
variable {w w' :World}{b:Nat}{s:R}{L:bA}
def Ot(h:bD w b s L)(hl:iW s)(hev:s.y.length<=4*s.A+100)(x:s.s.length<=100000000):Calls prog 106 #[.pointer (some ⟨b,0,none⟩)] w (qR w b s L (pq s)):=by
 have HM:=Y h;have HL:=Y hl;have O:=Y (pu h hl);obtain⟨F,a⟩:=aj8 (pq s);rw[<-a];rw[Oq]at a;have ak:=h.lt;have h2:=hl.A;clear h hl;by_cases R:s.A<s.s.length;focus
  rw[J R]at a;rw[show b_ s=(s,false) by simp[b_,R]]at O;obtain⟨y,hb,al,hy⟩:=gP s s.A R;have am:(s.A:Int)<(s.s.length:Int):=by omega
  rw[hb]at a;have S:=Y λw=>ze (y.toNat:Int) w;cases h4:Rf.fq (y.toNat:Int)
  .rw[h4]at S a;have G:=Y (show F=(eZ s 3,false)from a);clear a hb hy hev x;go_enter func106,ntmps106;go_wp2_with(go_at_call 105;go_call O.u as e w1 ⟨rfl,L2,f⟩;have g:=Y f;obtain⟨q,T,C⟩:=f.X.zzv;clear f;unfold aR at q);go_quiet((go_at_call 82;refine Calls.quiet_of_same (S.u _)));go_wp2_with(go_at_call 83;go_call(kM (g.u.drewN _).X 3)as e w2 ⟨rfl,L3,j⟩);go_ret;rw[G.u];exact⟨rfl,L3,(g.u.drewN _).call j⟩
  rw[h4]at S a;simp only[gz,cK,cE]at a;have HW:=Y λ(W:World) (z:bA) (A:bD W b s z)=>Ht A HL.u;have H:=Ea (r:=s);generalize X:cF s=wd at *;obtain⟨c,D,o⟩:=wd;cases o
  .have G:=Y (show F=(c,false)from a);clear a hb hy hev x H X;go_enter func106,ntmps106;go_wp2_with(go_at_call 105;go_call O.u as e w1 ⟨rfl,L2,f⟩;have g:=Y f;obtain⟨q,T,C⟩:=f.X.zzv;clear f;unfold aR at q);go_quiet((go_at_call 82;refine Calls.quiet_of_same (S.u _)));go_wp2_with(go_at_call 109;go_call(HW.u _ _ (g.u.drewN _).X)as e w2 ⟨rfl,L3,j⟩);go_ret;rw[G.u];exact⟨rfl,L3,(g.u.drewN _).call j⟩
  obtain⟨k,l,hk,I⟩:=H rfl;simp only at l I a;have a:F=Bp c D:=a;have t:iW c:=by rw[l];exact⟨HL.u.len,by simp;omega,HL.u.t0,HL.u.t1⟩
  have a0:c.s=s.s:=by rw[l]
  have ag:c.y.length<=4*c.A+100:=by rw[l];simp;omega
  have a1:c.A<c.s.length:=by rwa[l]
  have K:D.length<=100000000:=by rw[I,iB,lm];omega
  have ah:c.s.length<=100000000:=by rwa[a0]
  obtain⟨y2,a2,ai,a8⟩:=gP c c.A a1;have an:(c.A:Int)<(c.s.length:Int):=by omega
  have a3:=Y λw=>DL (y2.toNat:Int) w;have HX:=Y λw=>Dx D K w;have a4:=Y λw=>aay D K w;have v:=Y t;rw[Bp,a2]at a;obtain⟨sp,h7⟩:=akb (Rf.bJ (y2.toNat:Int));obtain⟨xm,h8⟩:=akb (Rf.jg D);obtain⟨P,h9⟩:=akb (Rf.cW D);obtain⟨on,B⟩:=akb c.on;rw[h7]at a3 a;rw[h8]at HX a;rw[h9]at a4 a;clear H X l I hk hb hy a2 a8 hev x K h2 a0 h7 h8 h9;by_cases Q:(y2.toNat:Int)=63;focus
   have e1:((y2.toNat:Int) !=63)=false:=by simpa using Q
   have e2:=aka Q;rw[e1,e2]at a;simp only[iL,cK,cE,bY]at a;clear Q;cases xm;focus
    simp only[cK,cE]at a;by_cases d:(c.on&&P)=true;focus
     rw[J d]at a;obtain⟨rfl,rfl⟩:on=true/\P=true:=by rw[B]at d;simpa using d
     clear d
    rotate_left;focus
     rw[M d]at a;have ao:wrap64 ((c.A:Int)+1)=((c.A+1:Nat):Int):=by
      have:=t.len;unfold wrap64;omega
     have a9:=Y λ(W:World) (z:bA) (A:bD W b {c with A:=c.A+1} z)=>vL A ⟨v.u.len,by simp;omega,v.u.t0,v.u.t1⟩ 62 (by decide) (by decide);have a5:=mX (r:={c with A:=c.A+1}) (by simp;omega) 62;generalize aa:bW {c with A:=c.A+1} 62=mu at *;obtain⟨r2,o2⟩:=mu
     have HT:=Y (λ(W:World) (z:bA) (A:bD W b r2 z) (ho:o2=true)=>vN A ⟨5,D,[],[],[]⟩ none 0 0 (qo ⟨rfl,rfl,rfl⟩) (λk hk=>by cases hk) (by
      have ab:r2={c with A:=c.A+1+1}:=(a5.2 ho).1
      rw[ab]
      show c.y.length<=1000000000
      omega))
     clear a5 aa;rw[B]at d;cases on<;>cases P;any_goals(exact aj6 rfl d)
     all_goals
      clear d;cases o2
  rotate_left 8;focus
   have e1:((y2.toNat:Int) !=63)=true:=by simpa using Q
   have e2:=aj7 Q;rw[e1,e2]at a;clear Q;cases sp;rotate_left;simp only[gz,kx,cK,cE]at a;cases xm;focus
    simp only[cK,cE]at a;by_cases d:(c.on&&P)=true;focus
     rw[J d]at a;obtain⟨rfl,rfl⟩:on=true/\P=true:=by rw[B]at d;simpa using d
     clear d
    rotate_left;focus
     rw[M d]at a;have N:=nE t.A;have ad:=Y λ(W:World) (z:bA) (A:bD W b c z)=>zh A v.u;have a6:(aV c).s=c.s:=rfl;have E:(aV c).y.length<=4* (aV c).A+100:=by
      have:=N.ev;omega
     have ae:=Y λ(W:World) (z:bA) (A:bD W b (aV c) z)=>aat D A (N.ok v.u) E (by rwa[a6]);clear N E a6;rw[B]at d;cases on<;>cases P;any_goals(exact aj6 rfl d)
     all_goals clear d
 rotate_left 14
 .rw[M R]at a;rw[show b_ s=({s with stop:=1},true) by simp[b_,R]]at O;have G:=Y a;clear a hev x;go_enter func106,ntmps106;go_wp2_with(go_at_call 105;go_call O.u as e w1 ⟨rfl,L2,f⟩);go_ret;rw[G.u];exact⟨rfl,L2,f⟩
 all_goals
  have G:=Y a;clear a;go_enter func106,ntmps106;go_wp2_with(go_at_call 105;go_call O.u as e w1 ⟨rfl,L2,f⟩;have g:=Y f;obtain⟨q,T,C⟩:=f.X.zzv;clear f;unfold aR at q);go_quiet((go_at_call 82;refine Calls.quiet_of_same (S.u _)));go_wp2_with(go_at_call 109;go_call(HW.u _ _ (g.u.drewN _).X)as e w2 ⟨rfl,L3,j⟩;have n:=Y ((g.u.drewN _).call j);obtain⟨af,ap,aj⟩:=j.X.zzv;clear j;unfold aR at af);go_quiet(fail)
  go_wp2_with(first
   |(go_at_call 149;go_call(a3.u _)as e w' ⟨rfl,hw⟩;obtain rfl:=hw.symm)
   |(go_at_call 150;go_call(HX.u _)as e w' ⟨rfl,m,rfl⟩)
   |(go_at_call 151;go_call(a4.u _)as e w' ⟨rfl,hw⟩;obtain rfl:=hw.symm)
   |(go_at_call 83;go_call(kM (n.u.drewN _).X _)as e w3 ⟨rfl,L4,i⟩;have p:=Y ((n.u.drewN _).call i);clear i)
   |(go_at_call 107;go_call(a9.u _ _ ((n.u.drewN _).store 5 _ {c with A:=c.A+1} (by simp[aR]) rfl rfl rfl).X)as e w3 ⟨rfl,L4,i⟩;have p:=Y (((n.u.drewN _).store 5 _ {c with A:=c.A+1} (by simp[aR]) rfl rfl rfl).call i);clear i)
   |(go_at_call 104;go_call(ad.u _ _ (n.u.drewN _).X)as e w3 ⟨rfl,L4,i⟩;have p:=Y ((n.u.drewN _).call i);clear i)
   |(go_at_call 152;go_call(HT.u _ _ p.u.X<|by simp)as e w4 ⟨rfl,L5,a7⟩)
   |(go_at_call 153;go_call(ae.u _ _ p.u.X)as e w4 ⟨rfl,L5,a7⟩))
  go_ret;rw[G.u];first
   |exact⟨rfl,L5,p.u.call a7⟩
   |exact⟨rfl,L4,p.u⟩
end
