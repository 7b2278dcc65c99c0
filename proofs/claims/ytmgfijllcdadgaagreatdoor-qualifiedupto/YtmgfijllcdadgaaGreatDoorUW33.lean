import Derived.Test.YtmgfijllcdadgaaGreatDoorUW28
import Derived.Test.YtmgfijllcdadgaaGreatDoorUW26
set_option linter.all false
set_option maxHeartbeats 16000000
set_option maxRecDepth 100000
namespace Go.Proofs.YtmgfijllcdadgaaGreatDoor.V
open Go.RowKit
open Go.Proofs.Tryz
open Rf
open Mk (U Ev aI)
variable {r:R}
def Ic(h:(cF r).2.2=true):(cF r).1={r with A:=r.A+iK dL (r.s.drop r.A)}/\r.A+iK dL (r.s.drop r.A)<r.s.length/\(cF r).2.1.length<=r.s.length:=by
 have:=vM dL (r.s.drop r.A);rw[lm]at this;unfold cF at h⊢;simp only at h⊢;split
 .rename_i a;rw[J a]at h;cases h
 rename_i a;rw[M a]at h;simp only[Bool.not_eq_true']at h;have b:=DR h;refine⟨b.1,b.2,?_⟩;rw[iB,lm];omega
def Bv(h:r.A<=r.s.length)(y:1<=r.S)(a:List aI):Kp r (fM r a).1/\((fM r a).2.2=true->r.A<(fM r a).1.A/\(fM r a).1.A<r.s.length/\(fM r a).2.1.length<=r.s.length):=by
 have n:=vM dL (r.s.drop r.A);rw[lm]at n;rw[Hz];split
 .rename_i o;simp only[nQ,wS]at o;exact⟨(Kp.to).fail 7,λe=>by cases e⟩
 have c:=tX h (by omega:0<=r.S);split
 .rename_i p;have g:=Ic p;have t:(cF r).1.A<(cF r).1.s.length:=by rw[c.s,g.1];exact g.2.1
  generalize z:(cF r).1=q at *;generalize(cF r).2.1=A at *;unfold Bu;split
  .exact⟨c.fail 3,λe=>by cases e⟩
  split
  .exact⟨c.fail 6,λe=>by cases e⟩
  have d:=c.trans (nE (LC t));have i:=mX (r:=aV q) (by rw[d.s];exact d.len) 61;split
  .rename_i v;obtain⟨w,B⟩:=i.2 v;have j:=d.trans i.1;have C:r.A<(bW (aV q) 61).1.A:=by rw[w];have:=d.nu;show r.A<(aV q).A+1;omega
   generalize(bW (aV q) 61).1=u at *;have m:u.A<=u.s.length:=by rw[j.s];exact j.len
   have b:=j.trans (nE m);have k:(aV u).A<=(aV u).s.length:=by rw[b.s];exact b.len
   have f:=b.trans (NT k);unfold Bt;split
   .exact⟨f,λe=>by cases e⟩
   rename_i x;have l:=DR (by simpa using x);refine⟨f,λ_=>⟨?_,?_,g.2.2⟩⟩
   .have:=(nE m).nu;rw[l.1];omega
   show(b_ (aV u)).1.A<_;rw[l.1];have:=l.2;rwa[b.s]at this
  exact⟨d.trans i.1,λe=>by cases e⟩
 exact⟨c,λe=>by cases e⟩
def Oy(q:Int):∀(f:Nat) (r:R) (t:U) (c:Int),r.A<=r.s.length->Kp r (iD q f r t c).1
 |0,r,t,c,h=>.refl h
 |f+1,r,t,c,h=>by
  rw[iD];split
  .rename_i a;simp only;split
   .exact .to
   split
   .exact(Kp.refl h).fail 3
   split
   .dsimp only;exact Bn (r:=r) (i:=r.A) (a_ _) (by omega)
   have hx:Kp r (if r.E r.A==38 then iT r else((bF r).1,if(bF r).2.1=[10]\/(bF r).2.1=[9]then[32]else(bF r).2.1,(bF r).2.2)).1:=by
    split
    .exact(vQ a).1
    exact(oC a).1
   generalize(if r.E r.A==38 then iT r else((bF r).1,if(bF r).2.1=[10]\/(bF r).2.1=[9]then[32]else(bF r).2.1,(bF r).2.2))=x at *;split
   .exact hx.trans (Oy q f x.1 _ _<|by rw[hx.s];exact hx.len)
   exact hx
  exact(Kp.refl h).stop 1
def Bw(h:r.A<r.s.length):Kp r (iA r).1:=by
 unfold iA;simp only;split
 .exact(Kp.refl<|by omega).fail 3
 exact(Kp.to (k:=r.A+1) (by omega) (by omega)).trans (Oy _ _ _ _ _<|by show r.A+1<=r.s.length;omega)
def xE(f:Nat)(b:Nat)(r:R)(a:List aI):R×List aI×Bool:=
 if r.A<r.s.length then
  if r.E r.A==47||r.E r.A==62 then(r,a,true)
  else if decide (r.A=b)|| !Rf.fq (r.E r.A)then(eZ r 3,[],false)
  else if(a.length:Int)==r.oa then(eZ r 7,[],false)
  else if(fM r a).2.2 then
   (if(iA (fM r a).1).2.2 then kT f (iA (fM r a).1).1 (a++[⟨(fM r a).2.1,[],(iA (fM r a).1).2.1⟩])
    else((iA (fM r a).1).1,[],false))
  else((fM r a).1,[],false)
 else({r with stop:=1},[],false)
def Bx(f:Nat)(r:R)(a:List aI):kT (f+1) r a=xE f r.A (aV r) a:=by
 rw[kT];unfold xE;simp only;generalize aV r=q;split
 .split
  .rfl
  split
  .rfl
  split
  .rfl
  cases(fM q a).2.2
  .rfl
  simp only[gz,cK,cE,bY];cases(iA (fM q a).1).2.2<;>rfl
 rfl
def Ax(r:R)(x:R×List aI×Bool):Prop:=Kp r x.1/\Sh x.2.1/\(x.2.2=true->x.1.A<r.s.length)
def zk{b:R}(h:Kp r b):Ax r (b,[],false):=⟨h,λa c=>(by cases c),λe=>by cases e⟩
def Oz:∀(f:Nat) (r:R) (b:List aI),r.A<=r.s.length->1<=r.S->r.s.length<=100000000->Sh b->Ax r (kT f r b)
 |0,r,b,h,_,_,_=>zk (.refl h)
 |f+1,r,b,h,t,j,g=>by
  rw[Bx];have d:=nE h;have k:(aV r).A<=(aV r).s.length:=by rw[d.s];exact d.len
  have l:1<=(aV r).S:=by rwa[d.S]
  generalize aV r=q at *;unfold xE;split
  .rename_i n;split
   .exact⟨d,g,λ_=>by rwa[d.s]at n⟩
   split
   .exact zk (d.fail 3)
   split
   .exact zk (d.fail 7)
   have i:=Bv k l b;split
   .rename_i o;obtain⟨u,v,p⟩:=i.2 o;generalize fM q b=x at *;have c:=(d.trans i.1).trans (Bw (r:=x.1)<|by rwa[i.1.s]);split
    .have:=Oz f (iA x.1).1 (b++[⟨x.2.1,[],(iA x.1).2.1⟩]) (by rw[c.s];exact c.len) (by rwa[c.S]) (by rwa[c.s]) (λa m=>by
      obtain m|m:=List.mem_append.1 m
      .exact g a m
      simp only[oN,qm,uD]at m
      subst m
      show x.2.1.length<=_
      have:=d.s
      rw[this]at p
      omega)
     exact⟨c.trans this.1,this.2.1,λe=>by have:=this.2.2 e;rwa[c.s]at this⟩
    exact zk c
   exact zk (d.trans i.1)
  exact zk (d.stop 1)
def OA(h:r.A<=r.s.length)(c:1<=r.S)(b:r.s.length<=100000000):Ax r (lX r):=Oz _ r [] h c b (λa d=>by cases d)
section
variable {w w' :World}{b:Nat}{s:R}{L:bA}
def gm.drew{a:World}{r:R}{v:Value}{l:List aI}(h:gm a w b r L v l):gm a w.drew b r L v l:=⟨mo (r:=⟨69,3,v,l.length,cQ l⟩) h.row λ_ _=>rfl,h.nf⟩
def DoesA(w:World)(b:Nat)(s:R)(L:bA)(x:R×List aI×Bool)(e:Ending)(w' :World):Prop:=
 ∃a v,e=.returned (.tuple #[v,.bool x.2.2])/\bL w b (cO s L) w' x.1 a/\gm w w' b x.1 a v x.2.1
def aa9(h:bD w b s L)(hl:iW s)(bd:1<=s.S)(be:0<=s.oa/\s.oa<=1000000)(bf:s.s.length<=100000000)(hG:gQ w)(ah:0<b):
 Calls prog 110 #[.pointer (some ⟨b,0,none⟩)] w (DoesA w b s L (lX s)):=by
 obtain⟨i0,hi,ay,az,b0⟩:=lg infoAt;have HM:=Y h;have HL:=Y hl;have j:=h.lt;have b1:=Y λ(W:World) (r:R) (L' :bA) (hm:bL w b (cO s L) W r L')=>hG.mv h hm ah;have ai:=Kp.refl hl.A;obtain⟨O,P⟩:=aj8 (lX s);rw[<-P];have D:=Y (show O=kT (s.s.length+1) s []from P);have aj:Hid (((0:Nat):Int)<=s.oa):=(show((0:Nat):Int)<=s.oa by omega);clear h hl P hG;go_enter func110,ntmps110;go_wp2_with fail;go_loopg [4] (s.s.length+1) λg s4 wx=>∃(r:R) (L1:bA) (c:List aI),Hid (O=kT g r c)/\s.s.length - r.A<g/\Hid ((c.length:Int)<=s.oa)/\Hid (Kp s r)/\Hid (bL w b (cO s L) wx r L1)/\Hid (gm w wx b r L1 s4 c);case atStart=>exact⟨s,L,[],D,by omega,aj,Y ai,Y HM.u.start,Y (gm.nil _ _ _ _ _)⟩
 case round=>
  obtain⟨r,L1,c,ak,hg,a3,a6,v,B⟩:=hrel;have a7:=a6.u.ok HL.u;obtain⟨f,rfl⟩:∃f,gk=f+1:=⟨gk - 1,by omega⟩;have hfin:=ak.u;rw[Bx]at hfin;have a0:=nE a7.A;have A:=a6.u.trans a0;have a8:=Y (zh v.u.X a7);have b2:=v.u.X.cell;have bg:=v.u.X.frozen;unfold aR at b2;obtain⟨aa,ac,rfl⟩:=iE B.u.row;have bh:=sF B.u.row;obtain⟨q,hq⟩:=aj8 (aV r);rw[<-hq]at hfin a8 A a0;have bi:=a0.nu;have b3:=Y A;have K:=A.ok HL.u;have a9:=Y K;have bj:=K.len;have b4:=K.A;have bk:q.s.length=s.s.length:=by rw[A.s]
  have b5:q.oa=s.oa:=A.oa;have a4:q.S=s.S:=A.S;have C:=Y a8.u;clear a7 a0 A hq ak a6 D ai a8 HM K aj;unfold xE at hfin;have E:=Y λ(W:World) (L' :bA) (hW:bD W b q L') (x:Int)=>kM hW x;have N:=Y λ(W:World) (L' :bA) (hW:bD W b q L')=>pu hW a9.u;by_cases h3:q.A<q.s.length
  .rw[J h3]at hfin;have Q:b_ q=(q,false):=by rw[b_,J h3]
   have z:=N;rw[Q]at z;clear N Q;obtain⟨y,hb,bl,hy⟩:=gP q q.A h3;have bm:(q.A:Int)<(q.s.length:Int):=by omega
   have bn:=xu y;rw[hb]at hfin;cases h4:((y.toNat:Int)==47||(y.toNat:Int)==62)
   .rw[h4,M]at hfin;simp only[uq]at h4;obtain⟨al,b6⟩:=h4;have F:=Y λw=>ze (y.toNat:Int) w;cases h5:(decide (q.A=r.A)|| !Rf.fq (y.toNat:Int))
    .rw[h5,M]at hfin;simp only[uq,Bool.not_eq_false']at h5;obtain⟨am,ao⟩:=h5;rw[ao]at F;have e5:((q.A:Int)==(r.A:Int))=false:=by
      have:¬q.A=r.A:=by simpa using am
      simp;omega
     clear am ao;cases h6:((c.length:Int)==q.oa)
     .rw[h6,M]at hfin;have ab:=Bv b4 (by rwa[a4]) c;have ad:=Y λ(W:World) (L' :bA) (hW:bD W b q L') (hB:gm w W b q L' (.slice aa c.length ac) c)=>aaH hW a9.u h3 (by rwa[a4]) c aa ac (hB.low j) hB.nf;generalize fM q c=an at *;obtain⟨q2,nm,o⟩:=an;simp only at ab hfin;cases o with
      |false=>
       have D:=Y (show O=(q2,[],false)from hfin);clear hfin ab E hb hy
       go_wp2_with(first
        |(go_at_call 104;go_call C.u as e w1 ⟨rfl,L2,d⟩;have i:=Y (v.u.call d);have m:=Y (B.u.call j d);clear d)
        |(go_at_call 105;go_call(z.u _ _ i.u.X)as e w2 ⟨rfl,S,a⟩;have k:=Y (i.u.call a).drew;have n:=Y (m.u.call j a).drew;have p:=a.X.cell;have G:=a.X.frozen;unfold aR at p;clear a))
       go_region
       go_wp2_with(first
        |(go_at_call 82;go_call(F.u _)as e w' ⟨rfl,T⟩;obtain rfl:=T.symm)
        |(go_at_call 157;go_call(ad.u _ _ k.u.X n.u)as e w4 ⟨rfl,L4,l⟩;have t:=Y (k.u.call l);have a1:=Y (n.u.call j l);clear l))
       go_ret2;have H:=D.u;subst H;exact⟨L4,.slice none 0 0,rfl,t.u,gm.nil _ _ _ _ _⟩
      |true=>
       obtain⟨ka,kb⟩:=ab;obtain⟨k1,k2,k3⟩:=kb rfl;have a5:=ka.ok a9.u;have X:=b3.u.trans ka;have ap:=Y λ(W:World) (L' :bA) (hW:bL w b (cO s L) W q2 L')=>AZ hW.X a5 (by rwa[ka.s]) (by rwa[X.s]) (b1.u _ _ _ hW) ah;have ae:=Bw (r:=q2) (by rwa[ka.s]);simp only[bY]at hfin;have af:=X.trans ae;have aq:=ae.nu;generalize iA q2=vx at *;obtain⟨q3,vv,o⟩:=vx;simp only at hfin af aq;have b7:=Y af;clear a5 X ae ka af kb;cases o with
       |false=>
        have D:=Y (show O=(q3,[],false)from hfin);clear hfin E hb hy
        go_wp2_with(first
         |(go_at_call 104;go_call C.u as e w1 ⟨rfl,L2,d⟩;have i:=Y (v.u.call d);have m:=Y (B.u.call j d);clear d)
         |(go_at_call 105;go_call(z.u _ _ i.u.X)as e w2 ⟨rfl,S,a⟩;have k:=Y (i.u.call a).drew;have n:=Y (m.u.call j a).drew;have p:=a.X.cell;have G:=a.X.frozen;unfold aR at p;clear a))
        go_region
        go_wp2_with(first
         |(go_at_call 82;go_call(F.u _)as e w' ⟨rfl,T⟩;obtain rfl:=T.symm)
         |(go_at_call 157;go_call(ad.u _ _ k.u.X n.u)as e w4 ⟨rfl,L4,l⟩;have t:=Y (k.u.call l);have a1:=Y (n.u.call j l);clear l)
         |(go_at_call 158;go_call(ap.u _ _ t.u)as e w5 ⟨rfl,L5,I⟩;have a2:=Y (t.u.call I);have ag:=Y (a1.u.call j I);clear I))
        go_ret2;have H:=D.u;subst H;exact⟨L5,.slice none 0 0,rfl,a2.u,gm.nil _ _ _ _ _⟩
       |true=>
        have D:=Y (show O=kT f q3 (c++[⟨nm,[],vv⟩])from hfin);have ar:¬(c.length:Int)=q.oa:=by simpa using h6
        have au:=a3.u;have b8:(c.length:Int)+1<=s.oa:=by rw[b5]at ar;omega
        have b9:Hid (((c++[⟨nm,[],vv⟩]:List aI).length:Int)<=s.oa):=(show _<=s.oa by rw[bT];simp only[cT,fB];omega);have ba:=Y (show c.length+1<=maxLen by unfold maxLen;omega);have bb:Hid (s.s.length - q3.A<f):=(show s.s.length - q3.A<f by omega);have bo:c.length<=1000000:=by omega
        clear hfin E hb hy ar au b8 aq k1 k2 k3 a3 hg
        go_wp2_with(first
         |(go_at_call 104;go_call C.u as e w1 ⟨rfl,L2,d⟩;have i:=Y (v.u.call d);have m:=Y (B.u.call j d);clear d)
         |(go_at_call 105;go_call(z.u _ _ i.u.X)as e w2 ⟨rfl,S,a⟩;have k:=Y (i.u.call a).drew;have n:=Y (m.u.call j a).drew;have p:=a.X.cell;have G:=a.X.frozen;unfold aR at p;clear a))
        go_region
        go_wp2_with(first
         |(go_at_call 82;go_call(F.u _)as e w' ⟨rfl,T⟩;obtain rfl:=T.symm)
         |(go_at_call 157;go_call(ad.u _ _ k.u.X n.u)as e w4 ⟨rfl,L4,l⟩;have t:=Y (k.u.call l);have a1:=Y (n.u.call j l);clear l)
         |(go_at_call 158;go_call(ap.u _ _ t.u)as e w5 ⟨rfl,L5,I⟩;have a2:=Y (t.u.call I);have ag:=Y (a1.u.call j I);clear I;have HO:=Y (World.ownsRow.alloc ag.u.row (.cells #[.string ⟨nm.toArray⟩,.string ByteArray.empty,.string ⟨vv.toArray⟩] 69));have HB:=Y (show(w5.alloc (.cells #[.string ⟨nm.toArray⟩,.string ByteArray.empty,.string ⟨vv.toArray⟩] 69)).heap[w5.heap.size]?=_ from dI w5 _);have av:=Y (show w.heap.size<=(w5.alloc (.cells #[.string ⟨nm.toArray⟩,.string ByteArray.empty,.string ⟨vv.toArray⟩] 69)).heap.size by have:=a2.u.fr.size;simp;omega))
         |(at_builtin;refine lI _ rfl _ _ 63 rfl w.heap.size 69 i0 _ 3 48 underlying63 hi ay az b0 rfl (by decide) (.slice aa c.length ac) c.length (cQ c) (by simp[Act.eval]) HO.u ⟨w5.heap.size,0,none⟩ 1 1 [.string ⟨nm.toArray⟩,.string ByteArray.empty,.string ⟨vv.toArray⟩] (by simp[Act.eval]) rfl (jT HB.u) (by intro u hu;simp at hu;(repeat' (obtain rfl|hu:=hu))<;>first|rfl|(subst hu;rfl)) (by decide) ba.u (by omega) av.u (w5.heap.size+1) (by simp) ?_;intro g2 bp w6 hown hgrow aw bc;have ax:=Y (ag.u.push ⟨nm,[],vv⟩ j a2.u hown hgrow<|by simpa using aw);clear hown hgrow aw HO HB av))
        go_roundg f;case measure=>omega
        case rel=>exact⟨q3,L5,c++[⟨nm,[],vv⟩],D,bb.u,b9,b7,Y ax.u.1,Y ax.u.2⟩
     .rw[h6,J rfl]at hfin;have D:=Y hfin;clear hfin hb hy
      go_wp2_with(first
       |(go_at_call 104;go_call C.u as e w1 ⟨rfl,L2,d⟩;have i:=Y (v.u.call d);have m:=Y (B.u.call j d);clear d)
       |(go_at_call 105;go_call(z.u _ _ i.u.X)as e w2 ⟨rfl,S,a⟩;have k:=Y (i.u.call a).drew;have n:=Y (m.u.call j a).drew;have p:=a.X.cell;have G:=a.X.frozen;unfold aR at p;clear a))
      go_region
      go_wp2_with(first
       |(go_at_call 82;go_call(F.u _)as e w' ⟨rfl,T⟩;obtain rfl:=T.symm)
       |(go_at_call 83;go_call(E.u _ _ k.u.X _)as e w4 ⟨rfl,L4,l⟩;have t:=Y (k.u.call l);clear l))
      go_ret2;have H:=D.u;subst H;exact⟨L4,.slice none 0 0,rfl,t.u,gm.nil _ _ _ _ _⟩
    .rw[h5,J rfl]at hfin;have D:=Y hfin;clear hfin hb hy;by_cases h7:q.A=r.A
     .have e5:((q.A:Int)==(r.A:Int))=true:=by simp;omega
      clear h5 h7
      go_wp2_with(first
       |(go_at_call 104;go_call C.u as e w1 ⟨rfl,L2,d⟩;have i:=Y (v.u.call d);have m:=Y (B.u.call j d);clear d)
       |(go_at_call 105;go_call(z.u _ _ i.u.X)as e w2 ⟨rfl,S,a⟩;have k:=Y (i.u.call a).drew;have n:=Y (m.u.call j a).drew;have p:=a.X.cell;have G:=a.X.frozen;unfold aR at p;clear a))
      go_region
      go_wp2_with(first
       |(go_at_call 82;go_call(F.u _)as e w' ⟨rfl,T⟩;obtain rfl:=T.symm)
       |(go_at_call 83;go_call(E.u _ _ k.u.X _)as e w4 ⟨rfl,L4,l⟩;have t:=Y (k.u.call l);clear l))
      go_ret2;have H:=D.u;subst H;exact⟨L4,.slice none 0 0,rfl,t.u,gm.nil _ _ _ _ _⟩
     .have e5:((q.A:Int)==(r.A:Int))=false:=by simp;omega
      have h8:Rf.fq (y.toNat:Int)=false:=by simpa[h7]using h5
      rw[h8]at F;clear h5 h7 h8
      go_wp2_with(first
       |(go_at_call 104;go_call C.u as e w1 ⟨rfl,L2,d⟩;have i:=Y (v.u.call d);have m:=Y (B.u.call j d);clear d)
       |(go_at_call 105;go_call(z.u _ _ i.u.X)as e w2 ⟨rfl,S,a⟩;have k:=Y (i.u.call a).drew;have n:=Y (m.u.call j a).drew;have p:=a.X.cell;have G:=a.X.frozen;unfold aR at p;clear a))
      go_region
      go_wp2_with(first
       |(go_at_call 82;go_call(F.u _)as e w' ⟨rfl,T⟩;obtain rfl:=T.symm)
       |(go_at_call 83;go_call(E.u _ _ k.u.X _)as e w4 ⟨rfl,L4,l⟩;have t:=Y (k.u.call l);clear l))
      go_ret2;have H:=D.u;subst H;exact⟨L4,.slice none 0 0,rfl,t.u,gm.nil _ _ _ _ _⟩
   .rw[h4,J rfl]at hfin;have D:=Y hfin;clear hfin E hb hy;cases al:((y.toNat:Int)==47)
    .have b6:((y.toNat:Int)==62)=true:=by simpa[al]using h4
     clear h4
     go_wp2_with(first
      |(go_at_call 104;go_call C.u as e w1 ⟨rfl,L2,d⟩;have i:=Y (v.u.call d);have m:=Y (B.u.call j d);clear d)
      |(go_at_call 105;go_call(z.u _ _ i.u.X)as e w2 ⟨rfl,S,a⟩;have k:=Y (i.u.call a).drew;have n:=Y (m.u.call j a).drew;have p:=a.X.cell;have G:=a.X.frozen;unfold aR at p;clear a))
     go_region;go_wp2_with fail;go_ret2;have H:=D.u;subst H;exact⟨S,.slice aa c.length ac,rfl,k.u,n.u⟩
    .clear h4
     go_wp2_with(first
      |(go_at_call 104;go_call C.u as e w1 ⟨rfl,L2,d⟩;have i:=Y (v.u.call d);have m:=Y (B.u.call j d);clear d)
      |(go_at_call 105;go_call(z.u _ _ i.u.X)as e w2 ⟨rfl,S,a⟩;have k:=Y (i.u.call a).drew;have n:=Y (m.u.call j a).drew;have p:=a.X.cell;have G:=a.X.frozen;unfold aR at p;clear a))
     go_region;go_wp2_with fail;go_ret2;have H:=D.u;subst H;exact⟨S,.slice aa c.length ac,rfl,k.u,n.u⟩
  rw[M h3]at hfin;have D:=Y hfin;have Q:b_ q=({q with stop:=1},true):=by rw[b_,M h3]
  have z:=N;rw[Q]at z;clear N Q hfin E
  go_wp2_with(first
   |(go_at_call 104;go_call C.u as e w1 ⟨rfl,L2,d⟩;have i:=Y (v.u.call d);clear d)
   |(go_at_call 105;go_call(z.u _ _ i.u.X)as e w2 ⟨rfl,S,a⟩;have k:=Y (i.u.call a);clear a))
  go_ret2;have H:=D.u;subst H;exact⟨S,.slice none 0 0,rfl,k.u,gm.nil _ _ _ _ _⟩
end
