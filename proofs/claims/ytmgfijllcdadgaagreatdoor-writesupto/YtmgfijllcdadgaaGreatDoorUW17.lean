import Derived.Test.YtmgfijllcdadgaaGreatDoorUW09
import Derived.Test.YtmgfijllcdadgaaGreatDoorUW14
set_option linter.all false
set_option maxHeartbeats 8000000
set_option maxRecDepth 100000
namespace Go.Proofs.YtmgfijllcdadgaaGreatDoor.V
open Go.RowKit
open Go.Proofs.Tryz
open Rf
open Mk
section
variable {f first:Nat}{r:R}{n base:Int}
def ZS(h:¬r.A<r.s.length):mV base first (f+1) r n=({r with stop:=1},[],false):=by
 rw[mV,M h]
def ZT(h:r.A<r.s.length)(a:r.E r.A=59):mV base first (f+1) r n=if decide (r.A=first)|| !nY n n then(eZ r 4,[],false)else({r with A:=r.A+1},uK n,true):=by
 rw[mV,J h];simp[a]
def ZU(h:r.A<r.s.length)(a:r.E r.A≠59):mV base first (f+1) r n=if decide (ni (r.E r.A) base<0)||decide (1114111<n*base+ni (r.E r.A) base)then(eZ r 4,[],false)else mV base first f {r with A:=r.A+1} (n*base+ni (r.E r.A) base):=by
 rw[mV,J h];simp[a]
def Dm(c base:Int)(b:0<=c)(d:c<=255)(a:base=10\/base=16): -1<=ni c base/\ni c base<=15:=by
 unfold ni;obtain rfl|rfl:=a
 .simp;repeat' split
  all_goals omega
 simp;repeat' split
 all_goals omega
end
section
variable {w w' :World}{b:Nat}{s:R}{L:bA}
def ZV(h:bD w b s L)(hl:iW s)(hi:s.A<s.s.length)(aj:s.s.length<=100000000):Calls prog 209 #[.pointer (some ⟨b,0,none⟩)] w (xw w b s L (rX s)):=by
 have HM:=Y h;have HL:=Y hl;have h1:=hl.len;obtain⟨o,j⟩:=aj8 (rX s);rw[<-j];unfold rX at j;have a9:=h.lt;have hc:=h.cell;have hf:=h.frozen;unfold aR at hc;have aa:wrap64 ((s.A:Int)+1)=((s.A+1:Nat):Int):=by unfold wrap64;omega
 have t:Hid (∀n,bL w b (cO s L) ((w.setCell ⟨b,5,none⟩ (.int .i64 ((s.A:Int)+1))).drewN n) {s with A:=s.A+1} L):=λn=>(HM.u.start.store 5 _ {s with A:=s.A+1} (by simp[aR]) rfl rfl rfl).drewN n;clear h hl;by_cases hx:s.A+1<s.s.length;focus
  obtain⟨y1,H,W,X⟩:=gP s (s.A+1) hx;have e1:decide ((s.A:Int)+1<(s.s.length:Int))=true:=aj_;have ab:(s.A:Int)+1<(s.s.length:Int):=by omega
  have ad:((s.A:Int)+1).toNat=s.A+1:=by omega
  by_cases v:s.E (s.A+1)=120;focus
   rw[J<|by simp[hx];exact v]at j;have e2:((y1.toNat:Int)==120)=true:=by rw[<-H,v];rfl
   have Q:wrap64 ((s.A:Int)+1+1)=((s.A+2:Nat):Int):=by unfold wrap64;omega
   have t:Hid (∀n,bL w b (cO s L) (((w.setCell ⟨b,5,none⟩ (.int .i64 ((s.A:Int)+1))).drewN n).setCell ⟨b,5,none⟩ (.int .i64 ((s.A:Int)+1+1))) {s with A:=s.A+1+1} L):=λn=>(t.u n).store 5 _ {s with A:=s.A+1+1} (by simp[aR]) rfl rfl rfl;obtain⟨B,F,G,HB⟩:∃(B:Int) (F:Nat) (G:Int),Hid (16=B/\s.A+1+1=F/\(s.A:Int)+1+1=G):=⟨_,_,_,rfl,rfl,rfl⟩;clear H X v
  rotate_left;rw[M<|by simp[hx];exact v]at j;have e2:((y1.toNat:Int)==120)=false:=by rw[<-H];simpa using v
  clear H X v
 rotate_left 2;focus
  rw[M<|by simp[hx]]at j;have e1:decide ((s.A:Int)+1<(s.s.length:Int))=false:=aj9
 iterate 2
  obtain⟨B,F,G,HB⟩:∃(B:Int) (F:Nat) (G:Int),Hid (10=B/\s.A+1=F/\(s.A:Int)+1=G):=⟨_,_,_,rfl,rfl,rfl⟩;rotate_left
 all_goals
  have HF:=Y j;clear j;go_enter func209,ntmps209;go_wp2;go_quiet(fail);go_wp2_with fail;obtain⟨hB,hF,a0⟩:=HB.u;have R:B=10\/B=16:=by rw[<-hB];decide
  have a1:Hid (G=(F:Int)):=(show G=F by omega);have a2:F<=s.s.length:=by omega
  rw[a0]at t⊢;rw[hF]at t HF;rw[hB]at HF⊢;clear hB hF a0 HB;try clear e2 W ab ad
  try clear Q
  clear e1 hx;go_loopg [6] (s.s.length+1) λg s6 wx=>∃(k:Nat) (n:Int) (L1:bA),s6=.int .i64 n/\0<=n/\n<=1114111/\o=mV B F g {s with A:=k} n/\F<=k/\k<=s.s.length/\s.s.length - k<g/\bL w b (cO s L) wx {s with A:=k} L1;case atStart=>exact⟨F,0,L,rfl,by decide,by decide,HF.u,a_ _,a2,by omega,t.u _⟩
  case round=>
   obtain⟨k,n,L1,rfl,x,z,hfin,A,p,T,hm⟩:=hrel;obtain⟨f,rfl⟩:∃f,gk=f+1:=⟨gk - 1,by omega⟩;have ae:iW {s with A:=k}:=⟨HL.u.len,p,HL.u.t0,HL.u.t1⟩;have N:=Y (pu hm.X ae);have C:=Y hm;have ai:=hm.X.lt;have a3:=Y (ajN A (ajN p T));clear hm hc hf a9 HF HM t aa hi a2;by_cases D:k<s.s.length;focus
    rw[show b_ {s with A:=k}=({s with A:=k},false) by simp[b_,D]]at N;obtain⟨y,O,ak,hy⟩:=gP {s with A:=k} k D;have al:(k:Int)<(s.s.length:Int):=by omega
    have l:=xu y;have af:=Y D;by_cases S:(y.toNat:Int)=59
    .have e1:=aka S;rw[ZT (r:={s with A:=k}) D (by rwa[O])]at hfin;have HS:=Y λw=>Ho n n w;cases a4:nY n n with
     |false=>
      rw[a4]at HS hfin;have c:=Y (show o=(eZ {s with A:=k} 4,[],false) by rw[hfin];simp);cases e2:((k:Int)==G);all_goals
       clear A p T D hfin O hy x z S l;go_wp2_with(go_at_call 105;go_call N.u as e w1 ⟨rfl,P,a⟩;have i:=Y (C.u.call a);obtain⟨m,I,q⟩:=a.X.zzv;clear a;unfold aR at m);go_quiet(fail)
       go_wp2_with(first
        |(go_at_call 116;go_call(HS.u _)as e w' ⟨rfl,K⟩;obtain rfl:=K.symm)
        |(go_at_call 83;go_call(kM (i.u.drewN _).X 4)as e w2 ⟨rfl,L3,E⟩))
       go_ret2;rw[c.u];exact⟨rfl,L3,(i.u.drewN _).call E⟩
     |true=>
      rw[a4]at HS hfin;by_cases h5:k=F
      .have c:=Y (show o=(eZ {s with A:=k} 4,[],false) by rw[hfin];simp[h5]);have e2:((k:Int)==G)=true:=by rw[a1.u,h5];simp
       clear A p T D hfin O hy x z S l h5;go_wp2_with(go_at_call 105;go_call N.u as e w1 ⟨rfl,P,a⟩;have i:=Y (C.u.call a);obtain⟨m,I,q⟩:=a.X.zzv;clear a;unfold aR at m);go_quiet(fail)
       go_wp2_with(first
        |(go_at_call 116;go_call(HS.u _)as e w' ⟨rfl,K⟩;obtain rfl:=K.symm)
        |(go_at_call 83;go_call(kM (i.u.drewN _).X 4)as e w2 ⟨rfl,L3,E⟩))
       go_ret2;rw[c.u];exact⟨rfl,L3,(i.u.drewN _).call E⟩
      have c:=Y (show o=({s with A:=k+1},uK n,true) by rw[hfin];simp[h5]);have e2:((k:Int)==G)=false:=by rw[a1.u];simp;omega
      have Q:wrap64 ((k:Int)+1)=((k+1:Nat):Int):=by unfold wrap64;omega
      have HW:=Y λw=>Hp n x z w;clear A p T D hfin O hy x z S l h5;go_wp2_with(go_at_call 105;go_call N.u as e w1 ⟨rfl,P,a⟩;have i:=Y (C.u.call a);obtain⟨m,I,q⟩:=a.X.zzv;clear a;unfold aR at m);go_quiet(fail)
      go_wp2_with(first
       |(go_at_call 116;go_call(HS.u _)as e w' ⟨rfl,K⟩;obtain rfl:=K.symm)
       |(go_at_call 228;go_call(HW.u _)as e w2 ⟨rfl,a5⟩;have ag:=Y a5;clear a5))
      go_ret2;rw[c.u];exact⟨rfl,P,((i.u.drewN _).store 5 _ {s with A:=k+1} (by simp[aR]) rfl rfl rfl).below ag.u⟩
    have e1:=aj7 S;rw[ZU (r:={s with A:=k}) D (by rwa[O]),O]at hfin;have HD:=Y λw=>ZB (y.toNat:Int) l.1 l.2 B R w;have a6:=Dm (y.toNat:Int) B l.1 l.2 R;generalize ni (y.toNat:Int) B=d at *;have a7:wrap64 (n*B)=n*B/\0<=n*B/\wrap64 (n*B+d)=n*B+d:=by unfold wrap64;obtain e|e:=R<;>rw[e]<;>omega
    obtain⟨a7,a8,ah⟩:=a7;cases e3:decide (d<0);focus
     cases e4:decide (1114111<n*B+d)
     .have c:=Y (show o=mV B F f {s with A:=k+1} (n*B+d) by rw[hfin,e3,e4];rfl);have Q:wrap64 ((k:Int)+1)=((k+1:Nat):Int):=by unfold wrap64;omega
      have HZ:Hid (0<=n*B+d/\n*B+d<=1114111):=⟨by simp at e3;omega,by simp at e4;omega⟩;clear A p T D hfin O hy x z S l a6 a8;go_wp2_with(go_at_call 105;go_call N.u as e w1 ⟨rfl,P,a⟩;have i:=Y (C.u.call a);obtain⟨m,I,q⟩:=a.X.zzv;clear a;unfold aR at m);go_quiet(fail);go_wp2_with(go_at_call 227;go_call(HD.u _)as e w' ⟨rfl,K⟩;obtain rfl:=K.symm);go_roundg f;case measure=>omega
      case rel=>exact⟨k+1,n*B+d,P,by rw[ah],HZ.u.1,HZ.u.2,c.u,by have:=a3.u.1;omega,by have:=af.u;omega,by have:=a3.u.2.2;omega,(i.u.drewN _).store 5 _ {s with A:=k+1} (by simp[aR]) rfl rfl rfl⟩
     have c:=Y (show o=(eZ {s with A:=k} 4,[],false) by rw[hfin,e3,e4];rfl)
    rotate_left;focus
     have c:=Y (show o=(eZ {s with A:=k} 4,[],false) by rw[hfin,e3];rfl)
   rotate_left 2
   .rw[show b_ {s with A:=k}=({s with A:=k,stop:=1},true) by simp[b_,D]]at N;rw[ZS (r:={s with A:=k}) D]at hfin;have c:=Y hfin;clear hfin;go_wp2_with(go_at_call 105;go_call N.u as e w1 ⟨rfl,P,a⟩);go_ret2;rw[c.u];exact⟨rfl,P,C.u.call a⟩
   all_goals
    clear A p T D hfin O hy x z S l a6 a8;go_wp2_with(go_at_call 105;go_call N.u as e w1 ⟨rfl,P,a⟩;have i:=Y (C.u.call a);obtain⟨m,I,q⟩:=a.X.zzv;clear a;unfold aR at m);go_quiet(fail)
    go_wp2_with(first
     |(go_at_call 227;go_call(HD.u _)as e w' ⟨rfl,K⟩;obtain rfl:=K.symm)
     |(go_at_call 83;go_call(kM (i.u.drewN _).X 4)as e w2 ⟨rfl,L3,E⟩))
    go_ret2;rw[c.u];exact⟨rfl,L3,(i.u.drewN _).call E⟩
end
