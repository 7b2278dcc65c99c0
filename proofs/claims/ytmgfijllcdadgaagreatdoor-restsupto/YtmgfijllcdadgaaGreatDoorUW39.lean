import Derived.Test.YtmgfijllcdadgaaGreatDoorUW38
import Derived.Test.YtmgfijllcdadgaaGreatDoorUW37
set_option linter.all false
set_option maxHeartbeats 16000000
set_option maxRecDepth 100000
namespace Go.Proofs.YtmgfijllcdadgaaGreatDoor.V
open Go.RowKit
open Go.Proofs.Tryz
open Rf
open Mk (U Ev aI)
def abr:EC 0:=by
 intro w b s L h a c d e f;omega
def OX:∀f,EC f
 |0=>abr
 |f+1=>abq f (abk f λa _=>OX a)
def abt(f:Nat):EC f:=OX f
section
variable {w w' :World}{b:Nat}{s:R}{L:bA}
def O_(h:bD w b s L)(f:Fit s)(hG:gQ w)(P:0<b):Calls prog 62 #[.pointer (some ⟨b,0,none⟩)] w λe w' =>e=.returned (.tuple #[])/\∃F,bL w b (cO s L) w' (lY s) F:=by
 have a6:=Y h;have p:=Y (OC false h f.ok f.ev f.sl);have G:=Y λ(W:World) (r:R) (F:bA) (hm:bL w b (cO s L) W r F)=>hG.mv h hm P;have i:=BD false f.ok.A f.ok.t0;have a7:=f.sl;obtain⟨j,a⟩:=aj8 (lY s);rw[<-a];rw[Iy]at a;have k:=Y (f.kp i.1);have C:=i.1.s;have D:=i.2;clear i;generalize ig false s=mm at *;obtain⟨m,o⟩:=mm;simp only at k C D;clear h f hG;cases o with
 |false=>
  have E:=Y (show j=m from a);clear a D;go_enter func62,ntmps62;go_wp2_with(go_at_call 81;go_call p.u as e w1 ⟨rfl,Q,c⟩);refine bodyPost_ret (CU rfl _ _ _) rfl ?_;rw[E.u];exact⟨rfl,Q,c⟩
 |true=>
  have S:m.A+1<m.s.length:=by rw[C];exact D rfl
  have a:j=zq (2*s.s.length+2) m:=a;have a8:m.s.length<=100000000:=k.u.sl;obtain⟨y,hb,a9,hy⟩:=gP m (m.A+1) S;have aa:=xu y;have ab:(m.A:Int)+1<(m.s.length:Int):=by omega
  have l:=Y λW=>ze (y.toNat:Int) W;rw[zq,hb]at a;have a2:=Y C;clear D hy hb C;cases hl:Rf.fq (y.toNat:Int)with
  |false=>
   rw[hl,M]at a;rw[hl]at l;have E:=Y a;clear a;go_enter func62,ntmps62;go_wp2_with(go_at_call 81;go_call p.u as e w1 ⟨rfl,Q,c⟩;have d:=Y c;obtain⟨H,I,t⟩:=c.X.zzw;clear c);have v:IntKind.i64.wrap ((m.A:Int)+1)=(m.A:Int)+1:=by rw[uy];omega
   go_region_with (go_at_call 82;go_call(l.u _)as e w2 ⟨rfl,K⟩;obtain rfl:=K.symm);all_goals
    go_wp2_with(go_at_call 83;go_call(kM (d.u.drew.store 5 _ {m with A:=m.A+1} (by simp[aR]) rfl rfl rfl).X 3)as e w3 ⟨rfl,T,g⟩);refine bodyPost_ret (CU rfl _ _ _) rfl ?_;rw[E.u];exact⟨rfl,T,(d.u.drew.store 5 _ {m with A:=m.A+1} (by simp[aR]) rfl rfl rfl).call g⟩
  |true=>
   rw[hl,J rfl]at a;rw[hl]at l;have N:=Y λ(W:World) (F:bA) (hW:bD W b m F) (a3:gQ W)=>abt (2*s.s.length+2) W b m F hW k.u a3 P (by omega) (by rw[a2.u];omega);have z:=(rM (2*s.s.length+2)).1 m (by omega) k.u.S k.u.sl;unfold Eh at z;generalize Rf.je (2*s.s.length+2) m=el at *;obtain⟨q,o⟩:=el;simp only at a z;cases o with
   |false=>
    have E:=Y (show j=q from a);clear a z;go_enter func62,ntmps62;go_wp2_with(go_at_call 81;go_call p.u as e w1 ⟨rfl,Q,c⟩;have d:=Y c;obtain⟨H,I,t⟩:=c.X.zzw;clear c);have v:IntKind.i64.wrap ((m.A:Int)+1)=(m.A:Int)+1:=by rw[uy];omega
    go_region_with (go_at_call 82;go_call(l.u _)as e w2 ⟨rfl,K⟩;obtain rfl:=K.symm);all_goals
     go_wp2_with(go_at_call 84;go_call(N.u _ _ d.u.drew.X (G.u _ _ _ d.u.drew))as e w3 ⟨rfl,T,g⟩);refine bodyPost_ret (CU rfl _ _ _) rfl ?_;rw[E.u];exact⟨rfl,T,d.u.drew.call g⟩
   |true=>
    have a:j=BF (ig true q):=a;have X:=(z rfl).1;have n:=Y (k.u.kp X);have a0:=Y λ(W:World) (F:bA) (hW:bD W b q F)=>OC true hW n.u.ok n.u.ev n.u.sl;have i:=BD true n.u.ok.A n.u.ok.t0;have O:=Y (n.u.kp i.1);clear z X i;generalize ig true q=xx at *;obtain⟨x,o⟩:=xx;simp only at O;have ad:=O.u.sl;have ae:=O.u.ok.A;cases o with
    |false=>
     have E:=Y (show j=x from a);clear a;go_enter func62,ntmps62
     go_wp2_with(first
      |(go_at_call 81;go_call p.u as e w1 ⟨rfl,Q,c⟩;have d:=Y c;obtain⟨H,I,t⟩:=c.X.zzw;clear c))
     have v:IntKind.i64.wrap ((m.A:Int)+1)=(m.A:Int)+1:=by rw[uy];omega
     go_region_with (go_at_call 82;go_call(l.u _)as e w2 ⟨rfl,K⟩;obtain rfl:=K.symm);all_goals
      go_wp2_with(first
       |(go_at_call 84;go_call(N.u _ _ d.u.drew.X (G.u _ _ _ d.u.drew))as e w3 ⟨rfl,T,g⟩;have A:=Y (d.u.drew.call g);clear g)
       |(go_at_call 81;go_call(a0.u _ _ A.u.X)as e w4 ⟨rfl,L4,B⟩))
      go_end0
      rw[E.u];exact⟨rfl,L4,A.u.call B⟩
    |true=>
     have E:=Y (show j=Rf.eZ {x with A:=x.A+1} 3 from a);clear a;go_enter func62,ntmps62
     go_wp2_with(first
      |(go_at_call 81;go_call p.u as e w1 ⟨rfl,Q,c⟩;have d:=Y c;obtain⟨H,I,t⟩:=c.X.zzw;clear c))
     have v:IntKind.i64.wrap ((m.A:Int)+1)=(m.A:Int)+1:=by rw[uy];omega
     go_region_with (go_at_call 82;go_call(l.u _)as e w2 ⟨rfl,K⟩;obtain rfl:=K.symm);all_goals
      go_wp2_with(first
       |(go_at_call 84;go_call(N.u _ _ d.u.drew.X (G.u _ _ _ d.u.drew))as e w3 ⟨rfl,T,g⟩;have A:=Y (d.u.drew.call g);clear g)
       |(go_at_call 81;go_call(a0.u _ _ A.u.X)as e w4 ⟨rfl,L4,B⟩;have a1:=Y (A.u.call B);obtain⟨af,ag,a5⟩:=B.X.zzw;clear B)
       |(go_at_call 83;go_call(kM (a1.u.store 5 _ {x with A:=x.A+1} (by simp[aR]) rfl rfl rfl).X 3)as e w5 ⟨rfl,L5,a4⟩))
      go_end0
      rw[E.u];exact⟨rfl,L5,(a1.u.store 5 _ {x with A:=x.A+1} (by simp[aR]) rfl rfl rfl).call a4⟩
end
