import Derived.Test.YtmgfijllcdadgaaGreatDoorUW23
import Derived.Test.YtmgfijllcdadgaaGreatDoorUW22
set_option linter.all false
set_option maxHeartbeats 8000000
set_option maxRecDepth 100000
namespace Go.Proofs.YtmgfijllcdadgaaGreatDoor.V
open Go.RowKit
open List
open Go.Proofs.Tryz
open Rf
open Mk (U Ev aI)
variable {r:R}{e:Ev}{l out:List Ev}
def xG{k:Nat}(b:r.A<k)(a:k<=r.s.length)(e:Ev):Kp r (gS {r with A:=k} e):=
 ⟨rfl,rfl,rfl,rfl,rfl,by show r.A<=k;omega,a,by simp[gS];omega,rfl,rfl⟩
def Ie:∀(f:Nat) (r:R) (t:U) (c:Int),r.A<=r.s.length->Kp r (jE f r t c).1
 |0,r,t,c,h=>by rw[jE];exact .refl h
 |f+1,r,t,c,d=>by
  rw[jE];split
  .rename_i h;split
   .split
    .dsimp only;exact Bn (r:=r) (i:=r.A) (a_ _) (by omega)
    have a:=oC h;simp only;split
    .exact a.1.trans (Ie f _ _ _<|by rw[a.1.s];exact a.1.len)
    exact a.1
   split
   .exact(Kp.to (by omega) (a_ _)).stop 1
   rename_i e;split
   .rename_i b;have g:r.A+2<r.s.length:=by
     simp at b;have:¬(r.A+2=r.s.length):=λh=>e (.inr ⟨h,b⟩);omega
    split
    .exact(Kp.to).fail 3
    exact xG (by omega) (by omega) _
   split
   .dsimp only;exact Bn (r:=r) (i:=r.A+1) (by omega) (by omega)
   exact(Kp.to (r:=r) (k:=r.A+1) (by omega) (by omega)).trans (Ie f _ _ _<|by simp;omega)
  exact(Kp.refl d).stop 1
def Eb(h:r.A<=r.s.length):Kp r (pQ r).1:=by
 have a:=(mX h 45).1;unfold pQ;simp only;split
 .exact a.trans (Ie _ _ _ _<|by rw[a.s];exact a.len)
 exact a
def OB(e:U):∀(f:Nat) (r:R) (t:U) (c:Int),r.A<=r.s.length->Kp r (jF e f r t c).1
 |0,r,t,c,h=>by rw[jF];exact .refl h
 |f+1,r,t,c,g=>by
  rw[jF];split
  .rename_i h;split
   .rename_i a;simp at a;exact(Kp.to (r:=r) (k:=r.A+1) (by omega) (by omega)).stop 1
   rename_i a;split
   .rename_i b;simp at a b;have:=a b.1;exact xG (by omega) (by omega) _
   split
   .rename_i b;simp at a b;have:=a b.1;dsimp only;exact Bn (r:=r) (i:=r.A+1) (by omega) (by omega)
   split
   .dsimp only;exact Bn (r:=r) (i:=r.A) (a_ _) (by omega)
   have d:=oC h;simp only;split
   .exact d.1.trans (OB e f _ _ _<|by rw[d.1.s];exact d.1.len)
   exact d.1
  exact(Kp.refl g).stop 1
def aaS(c:U)(h:r.A<r.s.length):Kp r (Bp r c).1:=by
 unfold Bp;have a:Kp r r:=.refl (by omega);split
 .exact a.fail 3
 split
 .exact a.fail 3
 split
 .exact a.fail 8
 split
 .have e:Kp r {r with A:=r.A+1}:=.to;have d:=mX (r:={r with A:=r.A+1}) (by simp;omega) 62;split
  .rename_i f;obtain⟨g,i⟩:=d.2 f;rw[g];exact xG (k:=r.A+1+1) (by omega) (by simp at i;omega) _
  exact e.trans d.1
 have b:=nE (r:=r) (by omega);exact b.trans (OB c _ _ _ _<|by rw[b.s];exact b.len)
def Ec(h:r.A<=r.s.length)(a:0<=r.S):Kp r (pq r).1:=by
 rw[Oq];split
 .split
  .exact(Kp.refl h).fail 3
  split
  .exact tX h a
  rename_i b;obtain⟨k,c,d,_⟩:=Ea (r:=r) (by simpa using b);refine(tX h a).trans (aaS _ ?_);rwa[c]
 exact(Kp.refl h).stop 1
def Ed(a:Bool)(f:Nat)(r:R):R×Bool:=
 if r.A<r.s.length then
  if r.E r.A !=60 then(Rf.eZ r 3,false)
  else if r.A+1=r.s.length then({r with stop:=1},false)
  else if r.E (r.A+1) !=33&&r.E (r.A+1) !=63 then(r,true)
  else
   let x:=if r.E (r.A+1)==63 then pq {r with A:=r.A+2}else(if(bW {r with A:=r.A+2} 45).2 then pQ (bW {r with A:=r.A+2} 45).1 else((bW {r with A:=r.A+2} 45).1,false))
   if x.2 then jc a f x.1 else(x.1,false)
 else({r with stop:=1},false)
def qc(a:Bool)(r:R):R:={r with whole:=a&&decide (r.A=r.s.length)}
theorem Ig(a:Bool)(f:Nat)(r:R):jc a (f+1) r=Ed a f (qc a (aV r)):=rfl
section
variable {w w' :World}{b:Nat}{s:R}{L:bA}
def OC(d:Bool)(h:bD w b s L)(hl:iW s)(hev:s.y.length<=4*s.A+100)(aj:s.s.length<=100000000):Calls prog 81 #[.pointer (some ⟨b,0,none⟩),.bool d] w (qR w b s L (ig d s)):=by
 have HM:=Y h;have HL:=Y hl;have ae:=Kp.refl hl.A;obtain⟨G,S⟩:=aj8 (ig d s);rw[<-S];have an:=h.lt;have E:=Y (show G=jc d (s.s.length+1) s from S);clear h S hl;go_enter func81,ntmps81;go_wp2_with fail;go_loopg [] (s.s.length+1) λg wx=>∃(r:R) (L1:bA),G=jc d g r/\s.s.length - r.A<g/\Kp s r/\bL w b (cO s L) wx r L1;case atStart=>exact⟨s,L,E.u,by omega,ae,HM.u.start⟩
 case round=>
  obtain⟨r,L1,hfin,hg,a8,hm⟩:=hrel;have a9:=a8.ok HL.u;obtain⟨f,rfl⟩:∃f,gk=f+1:=⟨gk - 1,by omega⟩;rw[Ig]at hfin;have aa:=nE a9.A;have C:=a8.trans aa;have ab:=Y (zh hm.X a9);have t:=Y hm;obtain⟨x,ad⟩:=aj8 (aV r);rw[<-ad]at hfin ab C;have H:x.s.length - x.A<f+1:=by
   have:=aa.nu;rw[<-ad]at this;rw[C.s];omega
  have T:=C.ok HL.u;have a4:=Y C;have X:=Y T;clear hm a9 aa a8 C ad HM E ae hg;go_wp2_with(go_at_call 104;go_call ab.u as e w1 ⟨rfl,L2,a⟩;have j:=Y (t.u.call a);obtain⟨k,A,m⟩:=a.X.zzv;clear a;unfold aR at k);go_cut [] λwx=>bL w b (cO s L) wx (qc d x) L2
  case first=>
   have af:∀v,(d&&decide (x.A=x.s.length))=v->bL w b (cO s L) ((w1.setCell ⟨b,8,none⟩ (.bool v)).drew) (qc d x) L2:=λv hv=>by
    have:=(j.u.store 8 (.bool v) {x with whole:=v} rfl rfl rfl rfl).drew;rwa[qc,hv]
   have a5:=Y af;clear af hfin H T;by_cases h3:x.A=x.s.length
   .have e0:((x.A:Int)==(x.s.length:Int))=true:=by simp;omega
    have HV:=Y (show decide (x.A=x.s.length)=true by simpa using h3);clear h3;cases d
    .go_region;go_wp2;go_meet
     exact a5.u false rfl
    go_region;go_wp2;go_meet
    exact a5.u true (by rw[HV.u];rfl)
   have e0:((x.A:Int)==(x.s.length:Int))=false:=by simp;omega
   have HV:=Y (show decide (x.A=x.s.length)=false by simpa using h3);clear h3;cases d
   .go_region;go_wp2;go_meet
    exact a5.u false rfl
   go_region;go_wp2;go_meet
   exact a5.u false (by rw[HV.u];rfl)
  case rest=>
  have O:Kp s (qc d x):=by
   have:=a4.u;exact⟨this.s,this.od,this.oa,this.S,this.on,this.nu,this.len,this.ev,this.op,this.tg⟩
  have i:(qc d x).s.length - (qc d x).A<f+1:=H;clear j k A m a4 X T H ab t;generalize qc d x=c at *;have D:=O.ok HL.u;have t:=Y hcut;have HE:=Y (pu hcut.X D);have X:=Y D;have a4:=Y O;have h1:=D.len;have h2:=D.A;have n:c.y.length<=4*c.A+100:=by
   have:=O.ev;omega
  have ag:c.s.length<=100000000:=by rwa[O.s]
  have ao:c.s.length=s.s.length:=by rw[O.s]
  clear hcut D O hev aj;unfold Ed at hfin;by_cases h3:c.A<c.s.length
  .rw[J h3]at hfin;rw[show b_ c=(c,false) by simp[b_,h3]]at HE;obtain⟨y,hb,ap,hy⟩:=gP c c.A h3;have aq:(c.A:Int)<(c.s.length:Int):=by omega
   rw[hb]at hfin;by_cases h4:(y.toNat:Int)=60
   .have e1:((y.toNat:Int) !=60)=false:=by simpa using h4
    rw[e1]at hfin;simp only[cK,cE]at hfin;by_cases h5:c.A+1=c.s.length
    .rw[J h5]at hfin;have e2:((c.A:Int)+1==(c.s.length:Int))=true:=by simp;omega
     have E:=Y hfin;clear hfin h4 hb hy h5 i n;go_wp2_with(go_at_call 105;go_call HE.u as e w1 ⟨rfl,L3,a⟩;have j:=Y (t.u.call a);obtain⟨k,A,m⟩:=a.X.zzv;clear a;unfold aR at k);go_quiet(fail);go_wp2;go_quiet(fail);go_wp2;go_ret;rw[E.u];exact⟨rfl,L3,(j.u.drewN _).store 6 _ {c with stop:=1} rfl rfl rfl rfl⟩
    rw[M h5]at hfin;have h6:c.A+1<c.s.length:=by omega
    have e2:((c.A:Int)+1==(c.s.length:Int))=false:=by simp;omega
    obtain⟨y2,I,am,P⟩:=gP c (c.A+1) h6;have ar:(c.A:Int)+1<(c.s.length:Int):=by omega
    have au:((c.A:Int)+1).toNat=c.A+1:=by omega
    rw[I]at hfin;have l:iW {c with A:=c.A+2}:=⟨X.u.len,by simp;omega,X.u.t0,X.u.t1⟩;have q:Kp s {c with A:=c.A+2}:=a4.u.trans (.to);by_cases h7:(y2.toNat:Int)=63
    .have e3:=aka h7;have e4:((y2.toNat:Int) !=63)=false:=by simpa using h7
     have e5:((y2.toNat:Int) !=33)=true:=by simp;omega
     rw[e3,e4]at hfin;simp only[kx,cK,cE,bY]at hfin;have z:=Ec (r:={c with A:=c.A+2}) l.A l.t0;have HI:=Y λ(W:World) (L' :bA) (hW:bD W b {c with A:=c.A+2} L')=>Ot hW l (by show c.y.length<=4* (c.A+2)+100;omega) ag;generalize Q:pq {c with A:=c.A+2}=ir at *;obtain⟨F,o⟩:=ir;cases o with
     |false=>
      have E:=Y (show G=(F,false)from hfin);clear hfin h4 hb hy h5 i n I P h7 z Q l q h6;go_wp2_with(go_at_call 105;go_call HE.u as e w1 ⟨rfl,L3,a⟩;have j:=Y (t.u.call a);obtain⟨k,A,m⟩:=a.X.zzv;clear a;unfold aR at k);go_quiet(fail);go_wp2;go_quiet(fail);go_wp2;go_quiet(fail);go_wp2_with(go_at_call 106;go_call(HI.u _ _ ((j.u.drewN _).store 5 _ {c with A:=c.A+2} (by simp[aR]) rfl rfl rfl).X)as e w3 ⟨rfl,L4,p⟩);go_ret;rw[E.u];exact⟨rfl,L4,((j.u.drewN _).store 5 _ {c with A:=c.A+2} (by simp[aR]) rfl rfl rfl).call p⟩
     |true=>
      have HZ:=Y (ajN (show G=jc d f F from hfin) (ajN i (ajN (q.trans z) z.nu)));clear hfin h4 hb hy h5 i n I P h7 z Q l q;go_wp2_with(go_at_call 105;go_call HE.u as e w1 ⟨rfl,L3,a⟩;have j:=Y (t.u.call a);obtain⟨k,A,m⟩:=a.X.zzv;clear a;unfold aR at k);go_quiet(fail);go_wp2;go_quiet(fail);go_wp2;go_quiet(fail);go_wp2_with(go_at_call 106;go_call(HI.u _ _ ((j.u.drewN _).store 5 _ {c with A:=c.A+2} (by simp[aR]) rfl rfl rfl).X)as e w3 ⟨rfl,L4,p⟩;have B:=Y (((j.u.drewN _).store 5 _ {c with A:=c.A+2} (by simp[aR]) rfl rfl rfl).call p);clear p);obtain⟨z1,z2,z3,z4⟩:=HZ.u;have z4:c.A+2<=F.A:=z4;go_roundg f;case measure=>omega
      case rel=>exact⟨F,L4,z1,by omega,z3,B.u⟩
    have e3:=aj7 h7;have e4:((y2.toNat:Int) !=63)=true:=by simpa using h7
    by_cases h8:(y2.toNat:Int)=33
    .have e5:((y2.toNat:Int) !=33)=false:=by simpa using h8
     rw[e3,e5]at hfin;simp only[iL,cK,cE]at hfin;have z:=mX (r:={c with A:=c.A+2}) l.A 45;have HI:=Y λ(W:World) (L' :bA) (hW:bD W b {c with A:=c.A+2} L')=>vL hW l 45 (by decide) (by decide);generalize Q:bW {c with A:=c.A+2} 45=ir at *;obtain⟨F,o⟩:=ir;cases o with
     |false=>
      have E:=Y (show G=(F,false)from hfin);clear hfin h4 hb hy h5 i n I P h7 h8 z Q l q h6;go_wp2_with(go_at_call 105;go_call HE.u as e w1 ⟨rfl,L3,a⟩;have j:=Y (t.u.call a);obtain⟨k,A,m⟩:=a.X.zzv;clear a;unfold aR at k);go_quiet(fail);go_wp2;go_quiet(fail);go_wp2;go_quiet(fail);go_wp2_with(go_at_call 107;go_call(HI.u _ _ ((j.u.drewN _).store 5 _ {c with A:=c.A+2} (by simp[aR]) rfl rfl rfl).X)as e w3 ⟨rfl,L4,p⟩;have B:=Y (((j.u.drewN _).store 5 _ {c with A:=c.A+2} (by simp[aR]) rfl rfl rfl).call p);clear p);go_ret;rw[E.u];exact⟨rfl,L4,B.u⟩
     |true=>
      have K:Kp s F:=q.trans z.1;have N:iW F:=K.ok HL.u;have a0:F={c with A:=c.A+2+1}:=(z.2 rfl).1;have a1:F.y.length<=4*F.A+100:=by rw[a0];show c.y.length<=4* (c.A+2+1)+100;omega
      have a2:F.s.length<=100000000:=by rwa[a0]
      have a3:c.A+2<=F.A:=by rw[a0];show c.A+2<=c.A+2+1;omega
      have a6:=Eb N.A;have ah:=Y λ(W:World) (L' :bA) (hW:bD W b F L')=>NW hW N a1 a2;simp only[bY]at hfin;generalize ai:pQ F=cr at *;obtain⟨r4,o4⟩:=cr;cases o4 with
      |false=>
       have E:=Y (show G=(r4,false)from hfin);clear hfin h4 hb hy h5 i n I P h7 h8 z Q l q h6 K N a0 a1 a2 a3 a6 ai;go_wp2_with(go_at_call 105;go_call HE.u as e w1 ⟨rfl,L3,a⟩;have j:=Y (t.u.call a);obtain⟨k,A,m⟩:=a.X.zzv;clear a;unfold aR at k);go_quiet(fail);go_wp2;go_quiet(fail);go_wp2;go_quiet(fail)
       go_wp2_with(first
        |(go_at_call 107;go_call(HI.u _ _ ((j.u.drewN _).store 5 _ {c with A:=c.A+2} (by simp[aR]) rfl rfl rfl).X)as e w3 ⟨rfl,L4,p⟩;have B:=Y (((j.u.drewN _).store 5 _ {c with A:=c.A+2} (by simp[aR]) rfl rfl rfl).call p);clear p)
        |(go_at_call 108;go_call(ah.u _ _ B.u.X)as e w4 ⟨rfl,L5,a7⟩))
       go_ret;rw[E.u];exact⟨rfl,L5,B.u.call a7⟩
      |true=>
       have HZ:=Y (ajN (show G=jc d f r4 from hfin) (ajN i (ajN (K.trans a6) (ajN a6.nu a3))));clear hfin h4 hb hy h5 i n I P h7 h8 z Q l q K N a0 a1 a2 a3 a6 ai;go_wp2_with(go_at_call 105;go_call HE.u as e w1 ⟨rfl,L3,a⟩;have j:=Y (t.u.call a);obtain⟨k,A,m⟩:=a.X.zzv;clear a;unfold aR at k);go_quiet(fail);go_wp2;go_quiet(fail);go_wp2;go_quiet(fail)
       go_wp2_with(first
        |(go_at_call 107;go_call(HI.u _ _ ((j.u.drewN _).store 5 _ {c with A:=c.A+2} (by simp[aR]) rfl rfl rfl).X)as e w3 ⟨rfl,L4,p⟩;have B:=Y (((j.u.drewN _).store 5 _ {c with A:=c.A+2} (by simp[aR]) rfl rfl rfl).call p);clear p)
        |(go_at_call 108;go_call(ah.u _ _ B.u.X)as e w4 ⟨rfl,L5,a7⟩;have ak:=Y (B.u.call a7);clear a7))
       obtain⟨z1,z2,z3,z4,z5⟩:=HZ.u;have z4:F.A<=r4.A:=z4;go_roundg f;case measure=>omega
       case rel=>exact⟨r4,L5,z1,by omega,z3,ak.u⟩
    have e5:((y2.toNat:Int) !=33)=true:=by simpa using h8
    rw[e4,e5]at hfin;simp only[qN,bY]at hfin;have E:=Y hfin;clear hfin h4 hb hy h5 i n I P h7 h8 l q h6;go_wp2_with(go_at_call 105;go_call HE.u as e w1 ⟨rfl,L3,a⟩;have j:=Y (t.u.call a);obtain⟨k,A,m⟩:=a.X.zzv;clear a;unfold aR at k);go_quiet(fail);go_wp2;go_quiet(fail);go_wp2;go_quiet(fail);go_wp2;go_ret;rw[E.u];exact⟨rfl,L3,j.u.drewN _⟩
   have e1:((y.toNat:Int) !=60)=true:=by simpa using h4
   rw[e1]at hfin;simp only[bY]at hfin;have E:=Y hfin;clear hfin h4 hb hy i n;go_wp2_with(go_at_call 105;go_call HE.u as e w1 ⟨rfl,L3,a⟩;have j:=Y (t.u.call a);obtain⟨k,A,m⟩:=a.X.zzv;clear a;unfold aR at k);go_quiet(fail);go_wp2_with(go_at_call 83;go_call(kM (j.u.drewN _).X 3)as e w2 ⟨rfl,L4,al⟩);go_ret;rw[E.u];exact⟨rfl,L4,(j.u.drewN _).call al⟩
  rw[M h3]at hfin;rw[show b_ c=({c with stop:=1},true) by simp[b_,h3]]at HE;have E:=Y hfin;clear hfin i n;go_wp2_with(go_at_call 105;go_call HE.u as e w1 ⟨rfl,L3,a⟩);go_ret;rw[E.u];exact⟨rfl,L3,t.u.call a⟩
end
def zB:List Ev->Nat
 |[]=>0
 |e::l=>e.val.length+zB l
structure Jn(lo up:Nat)(w wx:World)(v:Value)(es:List (Ev×Value)):Prop where
 row:wx.ownsRow w.heap.size 65 5 v es.length (dU es)
 qU:∀p∈es,ij lo up w p.2 p.1.f
 cH:Below w.heap.size w wx
def abF(a:List (Ev×Value))(p:Ev×Value):dU (a++[p])=dU a++fP p.1 p.2:=by simp[dU]
def Jn.push{d e:Nat}{w f w' :World}{v:Value}{a:List (Ev×Value)}(h:Jn d e w f v a)(p:Ev×Value)(m:ij d e w p.2 p.1.f){o:Obj}{g b:Nat}(hown:w'.ownsRow w.heap.size 65 5 (.slice (some ⟨g,0,none⟩) (a.length+1) b) (a.length+1) (dU a++fP p.1 p.2))(i:(f.alloc o).grownBy w' v.ownBlock):
 Jn d e w w' (.slice (some ⟨g,0,none⟩) (a.length+1) b) (a++[p]):=by
 refine⟨?_,?_,?_⟩
 .rwa[abF,bT]
 .intro q c;obtain c|c:=mem_append.1 c
  .exact h.qU q c
  rwa[mem_singleton.1 c]
 have j:=h.cH.size;exact(h.cH.alloc j o).grown i (by simp;omega) λk l=>(World.ownsRow.lt h.row k l).1
def abG{t:U}(h:(e.kind==3)=true):mW (e::l) t out=mW l (t++e.val) out:=by rw[mW,J h]
def abH(h:(e.kind==3)=false):mW (e::l) [] out=mW l [] (out++[e]):=by rw[mW,M<|by rw[h];decide,J rfl]
def abI{t:U}(h:(e.kind==3)=false)(a:t≠[]):mW (e::l) t out=mW l [] (out++[⟨3,[],[],t,[]⟩]++[e]):=by rw[mW,M<|by rw[h];decide,M a];simp
def Pq(a b:Nat)(w:World):ij a b w (.slice none 0 0) []:=⟨⟨none,0,rfl,λk c=>by cases c⟩,by decide⟩
def jZ(a b:U):(⟨a.toArray⟩:ByteArray)++⟨b.toArray⟩=⟨(a++b).toArray⟩:=by apply rF;simp[ByteArray.data_append]
def Ps{lo up:Nat}{w:World}{v:Value}(h:fL lo up w v l)(hn:l.length<=1000000000)(hs:zB l<=1000000000000000000):
 Calls prog 89 #[v] w λe w' =>∃v' a,e=.returned v' /\a.map (·.1)=Ar l/\Jn lo up w w' v' a:=by
 obtain⟨i0,hi,G,H,I⟩:=lg yT;have HR:=Y h;obtain⟨a1,c1,A,-⟩:=h.form;subst A;obtain⟨y,B⟩:=aj8 (Ar l);rw[<-B];have HF:=Y (show y=mW (l.drop 0) [] (([]:List (Ev×Value)).map (·.1))from B);clear h B;go_enter func89,ntmps89;go_wp2_with fail;go_loopg [3,4,5] l.length λg s3 s4 s5 wx=>∃(k:Nat) (t:U) (a:List (Ev×Value)),k<=l.length/\g=l.length - k/\s5=.int .i64 k/\s4=.string ⟨t.toArray⟩/\t.length+zB (l.drop k)<=1000000000000000000/\a.length<=2*k/\Hid (y=mW (l.drop k) t (a.map (·.1)))/\Hid (Jn lo up w wx s3 a);case atStart=>exact⟨0,[],[],by omega,rfl,rfl,rfl,by simpa using hs,a_ _,HF,Y ⟨lq _ _ _ _,(λp hp=>nomatch hp),Below.refl _ _⟩⟩
 case round=>
  obtain⟨k,t,a,hk,rfl,rfl,rfl,Q,an,K,R⟩:=hrel;have q:=R.u;obtain⟨a3,c3,rfl⟩:=iE q.row;have ao:=q.cH.size;clear HF;by_cases a6:k<l.length
  .have e1:decide ((k:Int)<(l.length:Int))=true:=aj_;have hfin:=K.u;rw[gB a6]at hfin Q;simp only[zB]at Q;obtain⟨b1,d1,A,a7⟩:=HR.u.form;injection A with A _ ab;subst A ab;obtain⟨O,o1,ap,f1,S,q1,T⟩:=a7 k a6;subst f1;obtain⟨f,m,rfl,_⟩:=T.form;have q2:∀j,j<5->wr.cell? ⟨O,o1+k*5+j,none⟩=(fP l[k] (.slice f l[k].f.length m))[j]?:=λj ad=>by rw[mG (q.cH.block O S)];exact q1 j ad
   have aq:O<wr.heap.size:=by omega
   have W:=q2 0 (by decide);have X:=q2 1 (by decide);have a0:=q2 2 (by decide);have a2:=q2 3 (by decide);have a4:=q2 4 (by decide);simp[fP]at W X a0 a2 a4;have a5:=Y T;clear q1 q2 a7 T K;generalize l[k]=x at *;obtain⟨n,r,s,d,b⟩:=x;simp only at W X a0 a2 a4 Q a5;cases e3:(n==3)with
   |true=>
    rw[abG e3]at hfin;have c:=Y hfin;have aj:¬9223372036854775807<t.length+d.length:=by omega
    clear hfin q;go_wp2_with fail;go_roundg (l.length - (k+1));case measure=>omega
    case rel=>exact⟨k+1,t++d,a,by omega,rfl,by simp,by simp[jZ],by rw[bT];omega,by omega,c,R⟩
   |false=>
    by_cases L:t=[]
    .subst L;rw[abH e3]at hfin;have c:=Y (show y=mW (l.drop (k+1)) [] ((a++[((⟨n,r,s,d,b⟩:Ev),Value.slice f b.length m)]).map (·.1)) by rw[hfin];simp);have HO:=Y (World.ownsRow.alloc (q.row) (.cells #[.int .i64 n,.string ⟨r.toArray⟩,.string ⟨s.toArray⟩,.string ⟨d.toArray⟩,(.slice f b.length m)] 65));have HB:=Y (show(wr.alloc (.cells #[.int .i64 n,.string ⟨r.toArray⟩,.string ⟨s.toArray⟩,.string ⟨d.toArray⟩,(.slice f b.length m)] 65)).heap[wr.heap.size]?=_ from dI wr _);have C:=Y (show a.length+1<=maxLen by unfold maxLen;omega);have D:=Y (show w.heap.size<=(wr.alloc (.cells #[.int .i64 n,.string ⟨r.toArray⟩,.string ⟨s.toArray⟩,.string ⟨d.toArray⟩,(.slice f b.length m)] 65)).heap.size by have:=q.cH.size;simp;omega);clear hfin q;go_wp2_with(at_builtin;refine lI _ rfl _ _ 29 rfl w.heap.size 65 i0 _ 5 80 underlying29 hi G H I rfl (by decide) (.slice a3 a.length c3) a.length (dU a) (by simp[Act.eval]) HO.u ⟨wr.heap.size,0,none⟩ 1 1 (fP ⟨n,r,s,d,b⟩ (.slice f b.length m)) (by simp[Act.eval]) rfl (jT HB.u) (vD _ _ _ _) (by decide) C.u (by omega) D.u (wr.heap.size+1) (by simp) ?_;intro g2 N w2 hown hgrow o P;have z:=Y (R.u.push (⟨n,r,s,d,b⟩,.slice f b.length m) a5.u hown hgrow);clear hown hgrow o);go_roundg (l.length - (k+1));case measure=>omega
     case rel=>exact⟨k+1,[],a++[(⟨n,r,s,d,b⟩,.slice f b.length m)],by omega,rfl,by simp,rfl,by simp only[fB];omega,by rw[bT];simp only[cT,fB];omega,c,z⟩
    rw[abI e3 L]at hfin;have c:=Y (show y=mW (l.drop (k+1)) [] ((a++[((⟨3,[],[],t,[]⟩:Ev),Value.slice none 0 0)]++[((⟨n,r,s,d,b⟩:Ev),Value.slice f b.length m)]).map (·.1)) by rw[hfin];simp);have ae:=aj7 L;have af:0<t.length:=length_pos_iff.2 L;have HO:=Y (World.ownsRow.alloc (q.row) (.cells #[.int .i64 3,.string ⟨([]:U).toArray⟩,.string ⟨([]:U).toArray⟩,.string ⟨t.toArray⟩,(.slice none 0 0)] 65));have HB:=Y (show(wr.alloc (.cells #[.int .i64 3,.string ⟨([]:U).toArray⟩,.string ⟨([]:U).toArray⟩,.string ⟨t.toArray⟩,(.slice none 0 0)] 65)).heap[wr.heap.size]?=_ from dI wr _);have C:=Y (show a.length+1<=maxLen by unfold maxLen;omega);have D:=Y (show w.heap.size<=(wr.alloc (.cells #[.int .i64 3,.string ⟨([]:U).toArray⟩,.string ⟨([]:U).toArray⟩,.string ⟨t.toArray⟩,(.slice none 0 0)] 65)).heap.size by have:=q.cH.size;simp;omega);clear hfin q
    go_wp2_with(first
     |(at_builtin;refine lI _ rfl _ _ 29 rfl w.heap.size 65 i0 _ 5 80 underlying29 hi G H I rfl (by decide) (.slice a3 a.length c3) a.length (dU a) (by simp[Act.eval]) HO.u ⟨wr.heap.size,0,none⟩ 1 1 (fP ⟨3,[],[],t,[]⟩ (.slice none 0 0)) (by simp[Act.eval]) rfl (jT HB.u) (vD _ _ _ _) (by decide) C.u (by omega) D.u (wr.heap.size+1) (by simp) ?_;intro g2 N w2 hown hgrow o P;have z:=Y (R.u.push (⟨3,[],[],t,[]⟩,.slice none 0 0) (Pq _ _ w) hown hgrow);have E:=z.u;have ak:O<w2.heap.size:=(by have:=E.cH.size;omega);have F:∀i,w2.cell? ⟨O,i,none⟩=wr.cell? ⟨O,i,none⟩:=(λi=>by rw[mG (E.cH.block O S),mG (R.u.cH.block O S)]);have ag:=Y (World.ownsRow.alloc (show w2.ownsRow w.heap.size 65 5 (.slice (some ⟨g2,0,none⟩) (a.length+1) N) (a.length+1) (dU (a++[((⟨3,[],[],t,[]⟩:Ev),Value.slice none 0 0)]))from by have h9:=E.row;rwa[bT]at h9) (.cells #[.int .i64 n,.string ⟨r.toArray⟩,.string ⟨s.toArray⟩,.string ⟨d.toArray⟩,(.slice f b.length m)] 65));have ah:=Y (show(w2.alloc (.cells #[.int .i64 n,.string ⟨r.toArray⟩,.string ⟨s.toArray⟩,.string ⟨d.toArray⟩,(.slice f b.length m)] 65)).heap[w2.heap.size]?=_ from dI w2 _);have a8:=Y (show a.length+1+1<=maxLen by unfold maxLen;omega);have a9:=Y (show w.heap.size<=(w2.alloc (.cells #[.int .i64 n,.string ⟨r.toArray⟩,.string ⟨s.toArray⟩,.string ⟨d.toArray⟩,(.slice f b.length m)] 65)).heap.size by have:=E.cH.size;simp;omega);have ar:=(F _).trans W;have au:=(F _).trans X;have av:=(F _).trans a0;have aw:=(F _).trans a2;have ax:=(F _).trans a4;clear hown hgrow o E)
     |(at_builtin;refine lI _ rfl _ _ 29 rfl w.heap.size 65 i0 _ 5 80 underlying29 hi G H I rfl (by decide) (.slice (some ⟨g2,0,none⟩) (a.length+1) N) (a.length+1) (dU (a++[((⟨3,[],[],t,[]⟩:Ev),Value.slice none 0 0)])) (by simp[Act.eval]) ag.u ⟨w2.heap.size,0,none⟩ 1 1 (fP ⟨n,r,s,d,b⟩ (.slice f b.length m)) (by simp[Act.eval]) rfl (jT ah.u) (vD _ _ _ _) (by decide) a8.u (by omega) a9.u (w2.heap.size+1) (by simp) ?_;intro g3 al w3 hown hgrow o am;have ai:=Y (z.u.push (⟨n,r,s,d,b⟩,.slice f b.length m) a5.u (by simpa using hown) (by simpa using hgrow));clear hown hgrow o))
    go_roundg (l.length - (k+1));case measure=>omega
    case rel=>exact⟨k+1,[],a++[(⟨3,[],[],t,[]⟩,.slice none 0 0)]++[(⟨n,r,s,d,b⟩,.slice f b.length m)],by omega,rfl,by simp,rfl,by simp only[fB];omega,by simp only[bT,cT,fB];omega,c,by simpa using ai⟩
  have e1:decide ((k:Int)<(l.length:Int))=false:=aj9;have hfin:=K.u;rw[iF]at hfin;clear K HR;by_cases L:t=[]
  .subst L;have c:=Y (show a.map (·.1)=y from hfin.symm);clear hfin q;go_wp2_with fail;go_ret;exact⟨_,a,rfl,c.u,R.u⟩
  have c:=Y (show(a++[((⟨3,[],[],t,[]⟩:Ev),Value.slice none 0 0)]).map (·.1)=y by rw[hfin,mW,M L];simp);have ae:=aj7 L;have af:0<t.length:=length_pos_iff.2 L;have HO:=Y (World.ownsRow.alloc (q.row) (.cells #[.int .i64 3,.string ⟨([]:U).toArray⟩,.string ⟨([]:U).toArray⟩,.string ⟨t.toArray⟩,(.slice none 0 0)] 65));have HB:=Y (show(wr.alloc (.cells #[.int .i64 3,.string ⟨([]:U).toArray⟩,.string ⟨([]:U).toArray⟩,.string ⟨t.toArray⟩,(.slice none 0 0)] 65)).heap[wr.heap.size]?=_ from dI wr _);have C:=Y (show a.length+1<=maxLen by unfold maxLen;omega);have D:=Y (show w.heap.size<=(wr.alloc (.cells #[.int .i64 3,.string ⟨([]:U).toArray⟩,.string ⟨([]:U).toArray⟩,.string ⟨t.toArray⟩,(.slice none 0 0)] 65)).heap.size by have:=q.cH.size;simp;omega);clear hfin q;go_wp2_with(at_builtin;refine lI _ rfl _ _ 29 rfl w.heap.size 65 i0 _ 5 80 underlying29 hi G H I rfl (by decide) (.slice a3 a.length c3) a.length (dU a) (by simp[Act.eval]) HO.u ⟨wr.heap.size,0,none⟩ 1 1 (fP ⟨3,[],[],t,[]⟩ (.slice none 0 0)) (by simp[Act.eval]) rfl (jT HB.u) (vD _ _ _ _) (by decide) C.u (by omega) D.u (wr.heap.size+1) (by simp) ?_;intro g2 N w2 hown hgrow o P;have z:=Y (R.u.push (⟨3,[],[],t,[]⟩,.slice none 0 0) (Pq _ _ w) hown hgrow);clear hown hgrow o);go_ret;exact⟨_,_,rfl,c.u,z.u⟩
def uQ(v:Bool)(b:UInt8):U:=if v then xB b else vk b
def acg(v:Bool)(b:UInt8):(uQ v b).length<=6:=by
 have a:(vk b).length<=6:=by
  unfold vk;repeat' split
  all_goals simp
 unfold uQ xB;repeat' split
 all_goals first|exact a|simp
def ach(s:U)(v:Bool)(k:Nat)(a:k<s.length):lH (s.take (k+1)) v=lH (s.take k) v++uQ v s[k]:=by
 rw[qM,l_ a];unfold lH;rw[nB];simp[uQ]
def vW(v:Bool):∀s:U,(lH s v).length<=6*s.length
 |[]=>by simp[lH]
 |x::l=>by
  have b:=vW v l;have c:=acg v x;have a:lH (x::l) v=uQ v x++lH l v:=by simp[lH,uQ]
  rw[a,bT,cT];omega
def aci(y:UInt8):y=60\/y=62\/y=38\/y=13\/y=34\/y=9\/y=10\/(¬y=60/\¬y=62/\¬y=38/\¬y=13/\¬y=34/\¬y=9/\¬y=10):=by
 by_cases a:y=60
 .exact .inl a
 by_cases b:y=62
 .exact .inr (.inl b)
 by_cases c:y=38
 .exact .inr (.inr (.inl c))
 by_cases d:y=13
 .exact .inr (.inr (.inr (.inl d)))
 by_cases e:y=34
 .exact .inr (.inr (.inr (.inr (.inl e))))
 by_cases f:y=9
 .exact .inr (.inr (.inr (.inr (.inr (.inl f)))))
 by_cases g:y=10
 .exact .inr (.inr (.inr (.inr (.inr (.inr (.inl g))))))
 exact .inr (.inr (.inr (.inr (.inr (.inr (.inr ⟨a,b,c,d,e,f,g⟩))))))
def acj{y:UInt8}(h:¬y=60/\¬y=62/\¬y=38/\¬y=13/\¬y=34/\¬y=9/\¬y=10)(v:Bool):uQ v y=[y]:=by
 obtain⟨a,b,c,d,f,g,i⟩:=h;have e:vk y=[y]:=by rw[vk,M a,M b,M c,M d]
 rw[uQ,xB,e];simp[f,g,i]
def Qk(s:U)(v:Bool)(P:s.length<=1000000000000)(w:World):Calls prog 121 #[.string ⟨s.toArray⟩,.bool v] w λe w' =>e=.returned (.string ⟨(lH s v).toArray⟩)/\w' =w:=by
 obtain⟨q,a⟩:=aj8 (lH s v);rw[<-a];have l:=Y a;clear a;go_enter func121,ntmps121;go_wp2_with fail;go_loopg [5,6] s.length (λg r t x=>∃k:Nat,k<=s.length/\g=s.length - k/\t=.int .i64 k/\r=.string ⟨(lH (s.take k) v).toArray⟩/\x=w);case atStart=>exact⟨0,dO _,rfl,rfl,rfl,rfl⟩
 case round=>
  obtain⟨k,Q,rfl,rfl,rfl,rfl⟩:=hrel;by_cases f:k<s.length
  .have z:decide ((k:Int)<(s.length:Int))=true:=aj_;have A:(k:Int)<(s.length:Int):=by omega
   have n:(k:Int)+1<=(s.length:Int):=by omega
   have h:=Y (ach s v k f);have i:=vW v (s.take k);rw[iB]at i;obtain⟨y,m⟩:∃y,s[k]?=some y:=⟨s[k],by simp[f]⟩;have j:s[k]=y:=(List.getElem?_eq_some_iff.1 m).2;rw[j]at h;have B:ByteArray.extract ⟨s.toArray⟩ k (k+1)=⟨#[y]⟩:=by
    rw[pE s k 1,drop_at m];rfl
   have o:(lH (s.take k) v).length<=6000000000000:=by omega
   clear m j i l;generalize lH (s.take k) v=out at *;have C:¬9223372036854775807<out.length+1:=by omega
   have D:¬9223372036854775807<out.length+4:=by omega
   have E:¬9223372036854775807<out.length+5:=by omega
   have F:¬9223372036854775807<out.length+6:=by omega
   obtain rfl|rfl|rfl|rfl|rfl|rfl|rfl|b:=aci y;case inr.inr.inr.inr.inr.inr.inr=>
    have c:=h.u;rw[acj b]at c;have d:=Y c;obtain⟨G,H,I,K,L,N,O⟩:=b;have R:=aj7 G;have S:=aj7 H;have T:=aj7 I;have W:=aj7 K;have X:=aj7 L;have b6:=aj7 N;have b7:=aj7 O;clear c h;cases v;all_goals
     go_wp2_with fail;go_roundg (s.length - (k+1));case measure=>omega
     case rel=>exact⟨k+1,by omega,rfl,by simp,by rw[d.u];exact congrArg Value.string (jZ out _),rfl⟩
   all_goals
    cases v;all_goals
     have c:=h.u;simp[uQ,vk,xB]at c;have d:=Y c;clear c h;go_wp2_with fail;go_roundg (s.length - (k+1));case measure=>omega
     case rel=>exact⟨k+1,by omega,rfl,by simp,by rw[d.u];exact congrArg Value.string (jZ out _),rfl⟩
  have z:decide ((k:Int)<(s.length:Int))=false:=aj9;have p:=l.u;rw[nZ<|by omega,<-p];clear l p;go_wp2_with fail;go_ret;exact⟨rfl,rfl⟩
