import Derived.Test.YtmgfijllcdadgaaGreatDoorUW35
import Derived.Deep.RegionWith
set_option linter.all false
set_option maxHeartbeats 16000000
set_option maxRecDepth 100000
namespace Go.Proofs.YtmgfijllcdadgaaGreatDoor.V
open Go.RowKit
open Go.Proofs.Tryz
open Rf
open Mk (U Ev aI)
variable {f k:Nat}{r:R}
def aba(h:¬r.A<r.s.length):dK (f+1) r k=({r with stop:=1},false):=by
 rw[dK,M h]
def abb(h:r.A<r.s.length)(a:(r.E r.A==60)=true)(b:r.A+1=r.s.length):dK (f+1) r k=({r with stop:=1},false):=by
 rw[dK,J h];simp only;rw[J a,J b]
def abd(h:r.A<r.s.length)(a:(r.E r.A==60)=true)(b:¬r.A+1=r.s.length)(c:(r.E (r.A+1)==47)=true):dK (f+1) r k=(r,true):=by
 rw[dK,J h];simp only;rw[J a,M b,J c]
def abe(h:r.A<r.s.length)(a:(r.E r.A==60)=true)(b:¬r.A+1=r.s.length)(c:(r.E (r.A+1)==47)=false):dK (f+1) r k=if(rN f r (r.E (r.A+1))).2 then dK f (rN f r (r.E (r.A+1))).1 (rN f r (r.E (r.A+1))).1.A else((rN f r (r.E (r.A+1))).1,false):=by
 rw[dK,J h];simp only;rw[J a,M b,M<|by rw[c];decide];rfl
def abf(h:r.A<r.s.length)(b:(r.E r.A==60)=false)(a:(r.E r.A==38)=true):dK (f+1) r k=if(iT r).2.2 then dK f (Rf.text (iT r).1 (iT r).2.1) (iT r).1.A else((iT r).1,false):=by
 rw[dK,J h];simp only;rw[M<|by rw[b];decide,J a]
def abg(h:r.A<r.s.length)(b:(r.E r.A==60)=false)(a:(r.E r.A==38)=false)(hx:(r.E r.A==62&&decide (k+2<=r.A)&&r.E (r.A - 2)==93&&r.E (r.A - 1)==93)=true):dK (f+1) r k=(Rf.eZ r 3,false):=by
 rw[dK,J h];simp only;rw[M<|by rw[b];decide,M<|by rw[a];decide,J hx]
def abh(h:r.A<r.s.length)(b:(r.E r.A==60)=false)(a:(r.E r.A==38)=false)(hx:(r.E r.A==62&&decide (k+2<=r.A)&&r.E (r.A - 2)==93&&r.E (r.A - 1)==93)=false):dK (f+1) r k=if(bF r).2.2 then dK f (Rf.text (bF r).1 (bF r).2.1) k else((bF r).1,false):=by
 rw[dK,J h];simp only;rw[M<|by rw[b];decide,M<|by rw[a];decide,M<|by rw[hx];decide]
def abj{c:Int}(a:Fit r)(h:r.A+2<=r.s.length)(e:(rN f r c).2=true):Kp r (rN f r c).1/\r.A<(rN f r c).1.A:=by
 unfold rN at e⊢;split at e
 .rename_i b;rw[J b];exact(rM f).1 r (by omega) a.S a.sl e
 rename_i b;rw[M b];have:=BB h (by have:=a.S;omega) c;exact⟨this.1,this.2 e⟩
def OT{s:U}{a:Nat}(h:2<=a)(e:a<=s.length){y z:UInt8}(c:s[a - 2]?=some y)(d:s[a - 1]?=some z):ByteArray.extract ⟨s.toArray⟩ (a - 2) a=⟨#[y,z]⟩:=by
 have b:=pE s (a - 2) 2;rw[show a - 2+2=a by omega]at b;rw[b,drop_at c,show a - 2+1=a - 1 by omega,drop_at d];rfl
section
variable {w w' :World}{b:Nat}{s:R}{L:bA}
def abk(f:Nat)(hE:∀f' <f,EC f'):CC f:=by
 intro w b s L h a6 hG aj ar;have HM:=Y h;have b3:=Y a6;have a7:=Y λ(W:World) (r:R) (T:bA) (hm:bL w b (cO s L) W r T)=>hG.mv h hm aj;have X:=Kp.refl a6.ok.A;have b4:=Y hE;obtain⟨K,a8⟩:=aj8 (dK f s s.A);rw[<-a8];have H:=Y a8;obtain⟨b5,hf,b6⟩:=h.zzw;clear h a6 a8 hG hE;go_enter func113,ntmps113;go_wp2_with fail;go_loopg [3] f λg s3 wx=>∃(r:R) (L1:bA) (k:Nat),s3=.int .i64 k/\g<=f/\Hid (K=dK g r k)/\s.s.length<r.A+g/\k<=r.A/\Hid (Kp s r)/\Hid (bL w b (cO s L) wx r L1);case atStart=>exact⟨s,L,s.A,rfl,a_ _,H,ar,a_ _,Y X,Y HM.u.start⟩
 case round=>
  obtain⟨r,L1,k,rfl,A,au,hg,hk,a9,v⟩:=hrel;have aa:=b3.u.kp a9.u;have ab:=aa.ok;have h1:=ab.len;have h2:=ab.A;have b7:=aa.sl;have B:r.s.length=s.s.length:=by rw[a9.u.s]
  obtain⟨g,b8⟩:∃g,gk=g+1:=⟨gk - 1,by omega⟩;subst b8;have z:=Y (pu v.u.X ab);have l:r.y.length<=1000000000:=by
   have:=aa.ev;omega
  have ah:=Y aa;have av:=Y ab;have i:r.s.length<r.A+g+1:=by omega
  have hfin:=au.u;have aw:=a7.u _ _ _ v.u;have bk:=Y aw;have N:=Y (ajN l (ajN i (ajN B A)));clear aa ab aw au b5 hf b6 X H ar;by_cases I:r.A<r.s.length;focus
   rw[show b_ r=(r,false) by simp[b_,I]]at z;obtain⟨y,O,bl,hy⟩:=gP r r.A I;have bm:(r.A:Int)<(r.s.length:Int):=by omega
   cases bn:((y.toNat:Int)==60);focus
    have m:(r.E r.A==60)=false:=by rwa[O]
    cases bo:((y.toNat:Int)==38);focus
     have ad:(r.E r.A==38)=false:=by rwa[O]
     have ax:=Y λ(W:World) (T:bA) (hW:bD W b r T)=>zi hW av.u I;have ae:=zl (r:=r) I;have af:=(oC I).2;cases n:(r.E r.A==62&&decide (k+2<=r.A)&&r.E (r.A - 2)==93&&r.E (r.A - 1)==93);focus
      rw[abh I m ad n]at hfin;have bp:(k:Int)<=(r.A:Int):=by omega
      cases b9:((y.toNat:Int)==62);rotate_left;focus
       by_cases ba:k+2<=r.A;focus
        have ak:2<=r.A:=by omega
        obtain⟨y3,a0,Q,a1⟩:=gP r (r.A - 2) (by omega);obtain⟨y4,a2,S,a3⟩:=gP r (r.A - 1) (by omega);have bb:=OT ak h2 a1 a3;have d1:decide ((r.A:Int) - k>=2)=true:=aj_;have d2:decide ((2:Int)<=(r.A:Int) - k)=true:=aj_;have n1:(2:Int)<=(r.A:Int):=by omega
        have n2:((r.A:Int) - 2).toNat=r.A - 2:=by omega
        have n3:(0:Int)<=(r.A:Int) - 2:=by omega
        have n4:(r.A:Int) - 2<=(r.A:Int):=by omega
        have n5:(r.A:Int)<=(r.s.length:Int):=by omega
        have al:¬(y3=93/\y4=93):=by
         rintro⟨rfl,rfl⟩;rw[O,b9,a0,a2]at n;simp only[ba,ajO,AO,ja,Bool.and_eq_false_iff]at n;obtain h|h:=n<;>exact aj6 h
        by_cases ay:y3=93;focus
         subst ay;have bc:¬y4=93:=λh=>al ⟨rfl,h⟩;have bd:=aj7 bc;clear a0 a2 a1 a3 Q S al
        rotate_left;focus
         have bd:=aj7 ay;clear a0 a2 a1 a3 Q S al
       rotate_left 2;focus
        have d1:decide ((r.A:Int) - k>=2)=false:=aj9;have d2:decide ((2:Int)<=(r.A:Int) - k)=false:=aj9
     rotate_left 4
     .rw[abg I m ad n]at hfin;have H:=Y hfin;simp only[nQ,wS]at n;obtain⟨⟨⟨x1,x2⟩,x3⟩,x4⟩:=n;rw[O]at x1;have ak:2<=r.A:=by omega
      obtain⟨y3,a0,Q,a1⟩:=gP r (r.A - 2) (by omega);obtain⟨y4,a2,S,a3⟩:=gP r (r.A - 1) (by omega);rw[a0]at x3;rw[a2]at x4;have be:y3=93:=UInt8.toNat_inj.1 (by have:=beq_iff_eq.1 x3;show y3.toNat=93;omega);have bf:y4=93:=UInt8.toNat_inj.1 (by have:=beq_iff_eq.1 x4;show y4.toNat=93;omega);subst be bf;have bb:=OT ak h2 a1 a3;have d1:decide ((r.A:Int) - k>=2)=true:=aj_;have d2:decide ((2:Int)<=(r.A:Int) - k)=true:=aj_;have n1:(2:Int)<=(r.A:Int):=by omega
      have n2:((r.A:Int) - 2).toNat=r.A - 2:=by omega
      have n3:(0:Int)<=(r.A:Int) - 2:=by omega
      have n4:(r.A:Int) - 2<=(r.A:Int):=by omega
      have n5:(r.A:Int)<=(r.s.length:Int):=by omega
      have bg:=Y λ(W:World) (T:bA) (hW:bD W b r T)=>kM hW 3;clear hfin O hy m ad i hg B l A ae af a0 a2 a1 a3 x3 x4 Q S;go_wp2_with(go_at_call 105;go_call z.u as e w2 ⟨rfl,L3,a⟩;have d:=Y (v.u.call a);obtain⟨E,F,p⟩:=a.X.zzw;clear a);go_region;go_wp2_with fail;go_quiet(fail);go_wp2_with(go_at_call 83;go_call(bg.u _ _ (d.u.drewN _).X)as e w4 ⟨rfl,L4,j⟩);go_ret;have hF:=H.u;subst hF;exact⟨rfl,L4,(d.u.drewN _).call j⟩
    rotate_left 4
    .rw[abf I m<|by rwa[O]]at hfin;have HC:=Y λ(W:World) (T:bA) (hW:bD W b r T) (am:gQ W)=>NZ hW av.u I b7 am aj;have X:=Ef (r:=r) I;have an:=(vQ I).2;generalize iT r=x at *;obtain⟨q,t,o⟩:=x;cases o with
     |false=>
      have H:=Y (show K=(q,false)from hfin);clear hfin O hy m i hg B l A hk X an;go_wp2_with(go_at_call 105;go_call z.u as e w2 ⟨rfl,L3,a⟩;have d:=Y (v.u.call a);obtain⟨E,F,p⟩:=a.X.zzw;clear a);go_region;go_wp2_with(go_at_call 166;go_call(HC.u _ _ d.u.drew.X (a7.u _ _ _ d.u.drew))as e w4 ⟨rfl,L4,j⟩;have C:=Y (d.u.drew.call j);obtain⟨az,b0,ai⟩:=j.X.zzw;clear j);go_ret;have hF:=H.u;subst hF;exact⟨rfl,L4,C.u⟩
     |true=>
      have D:=X rfl;have G:q.y.length<=1000000000:=by
       obtain⟨kk,_,_,P,_⟩:=an rfl;have P:q=_:=P;rwa[P]
      have HT:=Y λ(W:World) (T:bA) (hW:bD W b q T)=>Bz hW t G;have HZ:=Y (ajN (show K=dK g (Rf.text q t) q.A from hfin) (ajN (a9.u.trans D.1) D.2));clear hfin O hy m i hg B l A hk X an D G;go_wp2_with(go_at_call 105;go_call z.u as e w2 ⟨rfl,L3,a⟩;have d:=Y (v.u.call a);obtain⟨E,F,p⟩:=a.X.zzw;clear a);go_region
      go_wp2_with(first
       |(go_at_call 166;go_call(HC.u _ _ d.u.drew.X (a7.u _ _ _ d.u.drew))as e w4 ⟨rfl,L4,j⟩;have C:=Y (d.u.drew.call j);clear j)
       |(go_at_call 167;go_call(HT.u _ _ C.u.X)as e w5 ⟨rfl,L5,a4⟩;have ao:=Y (C.u.call a4);obtain⟨bh,bq,bi⟩:=a4.X.zzv;unfold aR Rf.text gS at bh;clear a4))
      obtain⟨z1,z2,z3⟩:=HZ.u;obtain⟨z4,z5,z6,z7⟩:=N.u;have z8:q.A<=(Rf.text q t).A:=a_ _;go_roundg g;case measure=>omega
      case rel=>exact⟨Rf.text q t,L5,q.A,rfl,by omega,Y z1,by omega,z8,Y z2,ao⟩
   rotate_left 4
   .have m:(r.E r.A==60)=true:=by rwa[O]
    by_cases h4:r.A+1=r.s.length
    .rw[abb I m h4]at hfin;have H:=Y hfin;have e4:((r.A:Int)+1==(r.s.length:Int))=true:=by simp;omega
     have HQ:=Y h4;clear hfin O hy h4 m i hg B l A hk;go_wp2_with(go_at_call 105;go_call z.u as e w2 ⟨rfl,L3,a⟩;have d:=Y (v.u.call a);obtain⟨E,F,p⟩:=a.X.zzw;clear a);go_region;go_wp2_with fail;go_region;go_wp2;go_ret;have hF:=H.u;subst hF;exact⟨rfl,L3,(d.u.drew.drew).store 6 _ {r with stop:=1} (by simp[aR]) rfl rfl rfl⟩
    have h5:r.A+1<r.s.length:=by omega
    have e4:((r.A:Int)+1==(r.s.length:Int))=false:=by simp;omega
    obtain⟨y2,a5,bj,ap⟩:=gP r (r.A+1) h5;have br:(r.A:Int)+1<(r.s.length:Int):=by omega
    cases bs:((y2.toNat:Int)==47)with
    |true=>
     rw[abd I m h4<|by rwa[a5]]at hfin;have H:=Y hfin;clear hfin O hy h4 m a5 ap i hg B l A hk;go_wp2_with(go_at_call 105;go_call z.u as e w2 ⟨rfl,L3,a⟩;have d:=Y (v.u.call a);obtain⟨E,F,p⟩:=a.X.zzw;clear a);go_region;go_wp2_with fail;go_region;go_wp2_with fail;go_region;go_wp2;go_ret;have hF:=H.u;subst hF;exact⟨rfl,L3,d.u.drew.drew.drew⟩
    |false=>
     rw[abe I m h4<|by rwa[a5],a5]at hfin;have ag:=xu y2;have b1:=Y λ(W:World) (T:bA) (hW:bD W b r T) (am:gQ W)=>aa_ g (b4.u g<|by omega) hW ah.u am aj (by omega) (by omega) (y2.toNat:Int) ag.1 ag.2;have aq:=abj (f:=g) (c:=(y2.toNat:Int)) ah.u (by omega:r.A+2<=r.s.length);generalize rN g r (y2.toNat:Int)=x at *;obtain⟨q,o⟩:=x;cases o with
     |false=>
      have H:=Y (show K=(q,false)from hfin);clear hfin O hy h4 m a5 ap i hg B l A hk aq ag;go_wp2_with(go_at_call 105;go_call z.u as e w2 ⟨rfl,L3,a⟩;have d:=Y (v.u.call a);obtain⟨E,F,p⟩:=a.X.zzw;clear a);go_region;go_wp2_with fail;go_region;go_wp2_with fail;go_region;go_wp2_with fail;have b2:IntKind.i64.wrap ((r.A:Int)+1)=(r.A:Int)+1:=by rw[uy];omega
      go_region_with (go_at_call 165;go_call(b1.u _ _ d.u.drew.drew.drew.drew.X (a7.u _ _ _ d.u.drew.drew.drew.drew))as e w4 ⟨rfl,L4,j⟩;have C:=Y (d.u.drew.drew.drew.drew.call j);obtain⟨az,b0,ai⟩:=j.X.zzw;clear j);all_goals
       go_wp2;go_ret;have hF:=H.u;subst hF;exact⟨rfl,L4,C.u⟩
     |true=>
      have D:=aq rfl;have HZ:=Y (ajN (show K=dK g q q.A from hfin) (ajN (a9.u.trans D.1) D.2));clear hfin O hy h4 m a5 ap i hg B l A hk aq ag D;go_wp2_with(go_at_call 105;go_call z.u as e w2 ⟨rfl,L3,a⟩;have d:=Y (v.u.call a);obtain⟨E,F,p⟩:=a.X.zzw;clear a);go_region;go_wp2_with fail;go_region;go_wp2_with fail;go_region;go_wp2_with fail;have b2:IntKind.i64.wrap ((r.A:Int)+1)=(r.A:Int)+1:=by rw[uy];omega
      go_region_with (go_at_call 165;go_call(b1.u _ _ d.u.drew.drew.drew.drew.X (a7.u _ _ _ d.u.drew.drew.drew.drew))as e w4 ⟨rfl,L4,j⟩;have C:=Y (d.u.drew.drew.drew.drew.call j);obtain⟨az,b0,ai⟩:=j.X.zzw;clear j);all_goals
       go_wp2_with fail;obtain⟨z1,z2,z3⟩:=HZ.u;obtain⟨z4,z5,z6,z7⟩:=N.u;go_roundg g;case measure=>omega
       case rel=>exact⟨q,L4,q.A,rfl,by omega,Y z1,by omega,a_ _,Y z2,C⟩
  rotate_left 4
  .rw[show b_ r=({r with stop:=1},true) by simp[b_,I]]at z;rw[aba I]at hfin;have H:=Y hfin;clear hfin i hg B l A hk;go_wp2_with(go_at_call 105;go_call z.u as e w2 ⟨rfl,L3,a⟩);go_ret;have hF:=H.u;subst hF;exact⟨rfl,L3,v.u.call a⟩
  all_goals
   generalize bF r=x at *;obtain⟨q,t,o⟩:=x;cases o with
   |false=>
    have H:=Y (show K=(q,false)from hfin);clear hfin O hy m ad i hg B l A hk ae af n;go_wp2_with(go_at_call 105;go_call z.u as e w2 ⟨rfl,L3,a⟩;have d:=Y (v.u.call a);obtain⟨E,F,p⟩:=a.X.zzw;clear a);go_region;go_wp2_with fail;go_quiet(fail);go_wp2_with(go_at_call 155;go_call(ax.u _ _ (d.u.drewN _).X)as e w4 ⟨rfl,L4,j⟩);go_ret;have hF:=H.u;subst hF;exact⟨rfl,L4,(d.u.drewN _).call j⟩
   |true=>
    have D:=ae rfl;have G:q.y.length<=1000000000:=by
     obtain⟨kk,_,P,_⟩:=af rfl;have P:q=_:=P;rwa[P]
    have HT:=Y λ(W:World) (T:bA) (hW:bD W b q T)=>Bz hW t G;have HZ:=Y (ajN (show K=dK g (Rf.text q t) k from hfin) (ajN (a9.u.trans D.1) (ajN D.2 hk)));clear hfin O hy m ad i hg B l A hk ae af n D G;go_wp2_with(go_at_call 105;go_call z.u as e w2 ⟨rfl,L3,a⟩;have d:=Y (v.u.call a);obtain⟨E,F,p⟩:=a.X.zzw;clear a);go_region;go_wp2_with fail;go_quiet(fail)
    go_wp2_with(first
     |(go_at_call 155;go_call(ax.u _ _ (d.u.drewN _).X)as e w4 ⟨rfl,L4,j⟩;have C:=Y ((d.u.drewN _).call j);clear j)
     |(go_at_call 167;go_call(HT.u _ _ C.u.X)as e w5 ⟨rfl,L5,a4⟩;have ao:=Y (C.u.call a4);clear a4))
    obtain⟨z1,z2,z3,z9⟩:=HZ.u;obtain⟨z4,z5,z6,z7⟩:=N.u;go_roundg g;case measure=>omega
    case rel=>exact⟨Rf.text q t,L5,k,rfl,by omega,Y z1,by omega,by omega,Y z2,ao⟩
end
structure Kt(r q:R):Prop where
 stop:q.stop=r.stop
 s:q.s=r.s
 S:q.S=r.S
def Ko(r:R):∀(l:List aI) (q:R) (t:List aI),Kt q (jW r l q t).1
 |[],q,t=>⟨rfl,rfl,rfl⟩
 |a::l,q,t=>by
  unfold jW;split
  .have h:=Ko r l (gS q ⟨6,(k_ a.B).1,[],a.val,[]⟩) t;exact⟨h.stop,h.s,h.S⟩
  exact Ko r l q _
def Tj(r:R)(n:U)(l:List aI):Kt r (dX r n l):=by
 have h:=Ko {r with I:=r.I++[n],P:=r.P++[l]} l {r with I:=r.I++[n],P:=r.P++[l]} [];exact⟨h.stop,h.s,h.S⟩
def Kq:∀(l:List aI) (q:R),Kt q (rD l q)
 |[],q=>⟨rfl,rfl,rfl⟩
 |a::l,q=>by
  unfold rD;split
  .have h:=Kq l (gS q ⟨7,(k_ a.B).1,[],[],[]⟩);exact⟨h.stop,h.s,h.S⟩
  exact Kq l q
def Tm(r:R)(n:U)(l:List aI):Kt r (Rf.mD r n l):=by
 have h:Kt r (aL r n l):=by
  unfold aL;split
  .have h:=Kq l.reverse (gS r ⟨2,n,Rf.nD r n,[],[]⟩);exact⟨h.stop,h.s,h.S⟩
  exact⟨rfl,rfl,rfl⟩
 exact⟨h.stop,h.s,h.S⟩
mutual
def Tn:∀(f:Nat) {r:R},r.stop=0->8<=r.S->r.A+1<r.s.length->Sx r (je f r).1 (je f r).2
 |0,r,h,x,q=>by
  unfold je;exact jR h rfl rfl
 |f+1,r,h,x,q=>by
  unfold je;dsimp only;split
  .exact kg q rfl rfl
  obtain⟨d,t⟩:=Kk (r:={r with A:=r.A+1}) h x (LC q);have d:Sx r _ _:=d.back ⟨rfl,rfl⟩;generalize Rf.cF {r with A:=r.A+1}=n at d t⊢;split
  .exact d.no
  rename_i u;have u:n.2.2=true:=by simpa using u
  obtain⟨b,i⟩:=Tc (n.1.s.length+1) (r:=n.1) [] (d.ok u) (by rwa[d.S]);have b:Sx r _ _:=b.back ⟨d.s,d.S⟩;change Sx r (lX n.1).1 (lX n.1).2.2 at b;change (lX n.1).2.2=true->(lX n.1).1.A<(lX n.1).1.s.length at i;generalize lX n.1=a at b i⊢;split
  .exact b.no
  rename_i p;have p:a.2.2=true:=by simpa using p
  have y:=b.ok p;split
  .exact kg (i p) b.s b.S
  split
  .have k:Sx r _ _:=(wH (r:={a.1 with A:=a.1.A+1}) y 62).back ⟨b.s,b.S⟩;generalize Rf.bW {a.1 with A:=a.1.A+1} 62=m at k⊢;split
   .rename_i z;have g:=Tj m.1 n.2.1 a.2.1;have j:=Tm (dX m.1 n.2.1 a.2.1) n.2.1 a.2.1;exact jR (j.stop.trans (g.stop.trans (k.ok z))) (j.s.trans (g.s.trans k.s)) (j.S.trans (g.S.trans k.S))
   exact k.no
  have g:=Tj {a.1 with A:=a.1.A+1} n.2.1 a.2.1;have l:Sx r _ _:=(Fa f (r:=dX {a.1 with A:=a.1.A+1} n.2.1 a.2.1) (dX {a.1 with A:=a.1.A+1} n.2.1 a.2.1).A (g.stop.trans y) (by rw[g.S];rwa[b.S])).back ⟨g.s.trans b.s,g.S.trans b.S⟩;generalize dK f (dX {a.1 with A:=a.1.A+1} n.2.1 a.2.1) (dX {a.1 with A:=a.1.A+1} n.2.1 a.2.1).A=c at l⊢;split
  .exact l.no
  rename_i v;have v:c.2=true:=by simpa using v
  have o:Sx r _ _:=(agX (l.ok v) n.2.1).back ⟨l.s,l.S⟩;generalize Rf.jX c.1 n.2.1=e at o⊢;split
  .exact o.no
  rename_i w;have w:e.2=true:=by simpa using w
  have j:=Tm e.1 n.2.1 a.2.1;exact jR (j.stop.trans (o.ok w)) (j.s.trans o.s) (j.S.trans o.S)
def Fa:∀(f:Nat) {r:R} (i:Nat),r.stop=0->8<=r.S->Sx r (dK f r i).1 (dK f r i).2
 |0,r,i,h,b=>by
  unfold dK;exact jR h rfl rfl
 |f+1,r,i,h,b=>by
  unfold dK;split
  .rename_i d;dsimp only;split
   .split
    .exact mM rfl rfl rfl
    rename_i e;split
    .exact jR h rfl rfl
    have c:∀X:R×Bool,Sx r X.1 X.2->Sx r (if X.2=true then dK f X.1 X.1.A else(X.1,false)).1 (if X.2=true then dK f X.1 X.1.A else(X.1,false)).2:=λX hx=>by
     split
     .rename_i a;exact(Fa f _ (hx.ok a)<|by rwa[hx.S]).back ⟨hx.s,hx.S⟩
     exact hx.no
    refine c _ ?_;split
    .exact Tn f h b (by omega)
    exact agY h b (by omega) _
   split
   .have hx:=S_ h;generalize iT r=x at hx⊢;split
    .rename_i a;exact(Fa f (r:=Rf.text x.1 x.2.1) _ (hx.ok a)<|by show 8<=x.1.S;rwa[hx.S]).back ⟨hx.s,hx.S⟩
    exact hx.no
   split
   .exact kg d rfl rfl
   have hx:=Cm h;generalize bF r=x at hx⊢;split
   .rename_i a;exact(Fa f (r:=Rf.text x.1 x.2.1) _ (hx.ok a)<|by show 8<=x.1.S;rwa[hx.S]).back ⟨hx.s,hx.S⟩
   exact hx.no
  exact mM rfl rfl rfl
end
def agZ(h:r.stop=0)(i:8<=r.S):Sx r (lY r) false:=by
 unfold lY;dsimp only;obtain⟨a,b⟩:=Km false (r.s.length+1) h i;change Sx r (ig false r).1 (ig false r).2 at a;change (ig false r).2=true->(ig false r).1.A+1<(ig false r).1.s.length at b;generalize ig false r=m at a b⊢;split
 .exact a.no
 rename_i f;have f:m.2=true:=by simpa using f
 split
 .exact kg (b f) a.s a.S
 have d:Sx r _ _:=(Tn (2*r.s.length+2) (a.ok f) (by rwa[a.S]) (b f)).back ⟨a.s,a.S⟩;generalize je (2*r.s.length+2) m.1=e at d⊢;split
 .exact d.no
 rename_i g;have g:e.2=true:=by simpa using g
 obtain⟨hx,c⟩:=Km true (e.1.s.length+1) (d.ok g) (by rwa[d.S]);have hx:Sx r _ _:=hx.back ⟨d.s,d.S⟩;change Sx r (ig true e.1).1 (ig true e.1).2 at hx;change (ig true e.1).2=true->(ig true e.1).1.A+1<(ig true e.1).1.s.length at c;generalize ig true e.1=x at hx c⊢;split
 .rename_i j;exact kg (c j) hx.s hx.S
 exact hx.no
def ag0(b c a:Int)(d:Bool)(s:U)(h:8<=a):(fN b c a d s).A<=s.length:=by
 unfold fN;dsimp only;have hd:=agZ (r:=Rf.gT b c a d s) rfl h;split
 .rename_i e;have f:=hd.bad e;rwa[hd.s]at f
 exact a_ _
def ag1(b c a:Int)(d:Bool)(s t:U)(h:8<=a):(Rf.aU b c a d s t).A<=(s++t).length:=ag0 b c a d (s++t) h
