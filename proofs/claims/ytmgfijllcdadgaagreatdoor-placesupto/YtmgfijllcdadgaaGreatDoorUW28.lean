import Derived.Test.YtmgfijllcdadgaaGreatDoorUW22
import Derived.Test.YtmgfijllcdadgaaGreatDoorUW23
set_option linter.all false
set_option maxHeartbeats 16000000
set_option maxRecDepth 100000
namespace Go.Proofs.YtmgfijllcdadgaaGreatDoor.V
open Go.RowKit
open Go.Proofs.Tryz
open Rf
open Mk (U Ev aI)
variable {r:R}{n:Nat}
section
variable {w:World}{b:Nat}{s:R}{L:bA}
def bD.D_(h:bD w b s L){p:List aI×Value}(a:p∈L.gs):w.ownsRow (b+1) 69 3 p.2 p.1.length (cQ p.1):=
 h.rows.own (jq p) (by simp only[eP,oN,List.mem_append,AQ];right;right;right;right;exact⟨p,a,rfl⟩)
def bD.Oo(h:bD w b s L){p:List aI×Value}(a:p∈L.gs):p.1∈s.P:=by rw[<-h.p_];exact List.mem_map.2 ⟨p,a,rfl⟩
def aaE{l:List aI}{k:Nat}(a:k<l.length):(l.take (k+1)).reverse=l[k]::(l.take k).reverse:=by
 rw[qM,l_ a];simp
structure Tk(s r:R)(n:Nat):Prop where
 P:r.P=s.P
 on:r.on=s.on
 ev:r.y.length<=s.y.length+n
def Tk.tell{s:R}(h:Tk s r n)(e:Ev):Tk s (gS r e) (n+1):=⟨h.P,h.on,by have:=h.ev;simp[gS];omega⟩
def Tk.refl(s:R):Tk s s 0:=⟨rfl,rfl,a_ _⟩
def Tk.mono{s:R}{m:Nat}(h:Tk s r n)(a:n<=m):Tk s r m:=⟨h.P,h.on,by have:=h.ev;omega⟩
def aaF(h:bD w b s L)(c:U)(a:List aI)(v:Value)(j:(a,v)∈L.gs)(S:c.length<=100000000)(z:∀t∈s.P,Sh t)(hev:s.y.length+a.length<=900000000):
 Calls prog 115 #[.pointer (some ⟨b,0,none⟩),.string ⟨c.toArray⟩,v] w λe w' =>e=.returned (.tuple #[])/\∃L', bL w b (cO s L) w' (aL s c a) L' :=by
 have hrow:w.ownsRow (b+1) 69 3 v a.length (cQ a):=h.D_ j;have a4:=sF hrow;have C:Sh a:=z _ (h.Oo j);obtain⟨a1,c1,rfl⟩:=iE hrow;have T:=Y (Om h c S z);obtain⟨f,d⟩:=aj8 (aL s c a);rw[<-d];unfold aL at d;generalize Rf.nD s c=W at *;have D:=Y λn=>vN (h.drewN n) ⟨2,c,W,[],[]⟩ none 0 0 (qo ⟨rfl,rfl,rfl⟩) (λk K=>by cases K) (by omega);have E:=(Tk.refl s).tell ⟨2,c,W,[],[]⟩;simp only at d;generalize gS s ⟨2,c,W,[],[]⟩=q at *;have F:=E.on;have X:=Y h;have HI:=Y j;generalize a5:s.on=on at *;clear hrow h j z;cases on with
 |false=>
  have N:=Y (show f=q from d);clear d;go_enter func115,ntmps115
  go_wp2_with(first
   |(go_at_call 164;go_call T.u as e w1 ⟨rfl,n1,rfl⟩)
   |(go_at_call 152;go_call(D.u _)as e w2 ⟨rfl,L2,i⟩;have l:=i.X.cell;rw[aR,F]at l))
  refine bodyPost_ret (CU rfl _ _ _) rfl ?_;exact⟨rfl,L2,by rw[N.u];exact(X.u.start.drewN n1).call i⟩
 |true=>
  have N:=Y (show f=rD a.reverse q from d);clear d;go_enter func115,ntmps115
  go_wp2_with(first
   |(go_at_call 164;go_call T.u as e w1 ⟨rfl,n1,rfl⟩)
   |(go_at_call 152;go_call(D.u _)as e w2 ⟨rfl,L2,i⟩;have l:=i.X.cell;rw[aR,F]at l))
  go_loopg [7] a.length λg s7 wx=>∃(k:Nat) (r:R) (O:bA),k<=a.length/\g=k/\s7=.int .i64 ((k:Int) - 1)/\Hid (f=rD (a.take k).reverse r)/\Tk s r (1+(a.length - k))/\bL w b (cO s L) wx r O;case atStart=>exact⟨a.length,q,L2,a_ _,rfl,by go_num,Y<|by rw[nZ (a_ _)];exact N.u,E.mono<|by omega,(X.u.start.drewN n1).call i⟩
  case round=>
   obtain⟨k,r,O,K,a6,rfl,P,m,o⟩:=hrel;clear l i N T D;obtain _|k:=k
   .have e1:decide ((0:Int)<=((0:Nat):Int) - 1)=false:=by decide
    have hfin:=Y (show f=r from P.u);have G:=Y o;clear P o;go_wp2;go_end0
    exact⟨rfl,O,by rw[hfin.u];exact G.u⟩
   have ek:(((k+1:Nat):Int) - 1)=(k:Int):=by omega
   rw[ek];have e1:decide ((0:Int)<=(k:Int))=true:=aj_;have A:k<a.length:=by omega
   have H:=o.xq X.u m.P;have hrow:=o.X.D_ (p:=(a,.slice a1 a.length c1)) (by rw[H];exact HI.u);obtain⟨g1,d1,Q,_,q1⟩:=sD gG (λ_=>rfl) (by decide) hrow rfl k A;simp only at Q;injection Q with Q _ a0;subst Q;subst a0;have a2:=q1 0 (by decide);simp[gG]at a2;have hd:rD (a.take (k+1)).reverse r=rD (a.take k).reverse (if(k_ a[k].B).2 then gS r ⟨7,(k_ a[k].B).1,[],[],[]⟩else r):=by
    rw[aaE A];rfl
   have y:=Y (P.u.trans hd);have I:=C a[k] (iZ A);have a7:=m.ev;clear q1 P hd hrow H;generalize a[k]=x at *;have HD:=Y λw=>DW x.B I w;generalize k_ x.B=dd at *;obtain⟨pp,is⟩:=dd;cases is with
   |false=>
    have B:=Y (show f=rD (a.take k).reverse r from y.u);have G:=Y o;clear y o;go_wp2_with(go_at_call 162;go_call(HD.u _)as e w' ⟨rfl,hw⟩;obtain rfl:=hw.symm);go_roundg k;case measure=>omega
    case rel=>exact⟨k,r,O,by omega,rfl,by go_num,B,m.mono<|by omega,G.u⟩
   |true=>
    have B:=Y (show f=rD (a.take k).reverse (gS r ⟨7,pp,[],[],[]⟩)from y.u);have D:=Y (vN o.X ⟨7,pp,[],[],[]⟩ none 0 0 (qo ⟨rfl,rfl,rfl⟩) (λk K=>by cases K) (by omega));have G:=Y o;clear y o
    go_wp2_with(first
     |(go_at_call 162;go_call(HD.u _)as e w' ⟨rfl,hw⟩;obtain rfl:=hw.symm)
     |(go_at_call 152;go_call D.u as e w3 ⟨rfl,L3,a3⟩))
    go_roundg k;case measure=>omega
    case rel=>exact⟨k,_,L3,by omega,rfl,by go_num,B,(m.tell _).mono<|by omega,G.u.call a3⟩
end
def Bt(r:R)(a:U):R×U×Bool:=if(b_ (aV r)).2 then((b_ (aV r)).1,[],false)else((b_ (aV r)).1,a,true)
def Bu(r:R)(b:U)(a:List aI):R×U×Bool:=
 if r.E r.A !=61&& !Rf.bJ (r.E r.A)then(eZ r 3,[],false)
 else if kQ a b then(eZ r 6,[],false)
 else if(bW (aV r) 61).2 then Bt (bW (aV r) 61).1 b else((bW (aV r) 61).1,[],false)
def Hz(r:R)(a:List aI):fM r a=if decide (r.S<=(iK dL (r.s.drop r.A):Int))&&kQ a ((r.s.drop r.A).take r.S.toNat)then(eZ {r with A:=r.A+r.S.toNat - 1} 7,[],false)else if(cF r).2.2 then Bu (cF r).1 (cF r).2.1 a else((cF r).1,[],false):=by
 unfold fM Bu Bt;dsimp only;split
 .rfl
 cases(cF r).2.2
 .rfl
 simp only[gz,cK,cE,bY];split
 .rfl
 split
 .rfl
 cases(bW (aV (cF r).1) 61).2
 .rfl
 rfl
section
variable {w w' :World}{b:Nat}{s:R}{L:bA}
def aaG{e:TypeId}{a:Nat}{v:Value}{c:List Value}(h:w.ownsRow (b+1) e a v n c)(d:∀k,v.ownBlock=some k->k∉cO s L){W:World}{g:bA}(i:bL w b (cO s L) W r g):W.ownsRow (b+1) e a v n c:=
 mo (r:=⟨e,a,v,n,c⟩) h λk f=>i.fr.block k (World.ownsRow.lt h k f).2 (by have:=(World.ownsRow.lt h k f).1;omega) (d k f)
def aaH(h:bD w b s L)(hl:iW s)(hi:s.A<s.s.length)(H:1<=s.S)(c:List aI)(va:Option Addr)(vc:Nat)(hrow:w.ownsRow (b+1) 69 3 (.slice va c.length vc) c.length (cQ c))(a5:∀k,(Value.slice va c.length vc).ownBlock=some k->k∉cO s L):
 Calls prog 157 #[.pointer (some ⟨b,0,none⟩),.slice va c.length vc] w (xw w b s L (fM s c)):=by
 have O:=Y h;have HL:=Y hl;have h1:=hl.len;have A:=Y λ(nm:U) (W:World) (r:R) (i:bA) (hm:bL w b (cO s L) W r i)=>Dk (aaG hrow a5 hm) nm;obtain⟨bh,d⟩:=aj8 (fM s c);rw[<-d];rw[Hz]at d;obtain⟨K,P⟩:=aj8 (iK dL (s.s.drop s.A));rw[<-P]at d;have I:s.A+K<=s.s.length:=by
  have:=vM dL (s.s.drop s.A);rw[lm]at this;omega
 obtain⟨o,ho⟩:∃o:Nat,s.S=(o:Int):=⟨s.S.toNat,by omega⟩;have Q:o<=1024:=by have:=hl.t1;omega
 have S:1<=o:=by omega
 have am:Hid (o<=K->((s.A:Int)+(o:Int)<=(s.s.length:Int)/\wrap64 ((s.A:Int)+(o:Int))=((s.A+o:Nat):Int)/\IntKind.i64.wrap ((s.A:Int)+(o:Int))=((s.A+o:Nat):Int)/\((s.A:Int)+(o:Int)).toNat=s.A+o)):=by
  have bc:=hl.len;clear ho A O h P d H;intro T;exact⟨by omega,by unfold wrap64;omega,by rw[uy];omega,by omega⟩
 have bi:=h.lt;have hc:=h.cell;have hf:=h.frozen;unfold aR at hc;have an:=Y d;have HW:=Y λ(W:World) (i:bA) (B:bD W b s i)=>Ht B HL.u;clear h hl d hrow a5;go_enter func157,ntmps157;obtain⟨E,hE⟩:=aj8 (s.A+K);have HE:=Y hE;have HX:Hid (((s.A+o - 1:Nat):Int)=(s.A:Int)+(o:Int) - 1):=(show _=_ by clear hE;omega);have a6:=Y (tX (r:=s) (by omega) (by omega));have bd:(E:Int) - (s.A:Int)=(K:Int):=by omega
 clear hE;go_upto_block 0 with fail
 go_cut [7] λs7 wx=>wx=w/\s7=.int .i64 (E:Int)
 case first=>
  go_wp2_with fail;go_loopg [7] (s.s.length - s.A) (λg s7 wx=>∃k:Nat,wx=w/\g=s.s.length - k/\s.A<=k/\k<=s.s.length/\s7=.int .i64 k/\Hid (k+iK dL (s.s.drop k)=s.A+K));case atStart=>exact⟨s.A,rfl,rfl,by omega,by omega,rfl,(show _=_ by rw[P])⟩
  case round=>
   obtain⟨k,ao,rfl,bj,bk,rfl,HK⟩:=hrel;obtain rfl:=ao.symm;clear P;by_cases h3:k<s.s.length
   .obtain⟨y,hb,bl,hy⟩:=gP s k h3;have e1:decide ((k:Int)<(s.s.length:Int))=true:=aj_;have ap:(k:Int)<(s.s.length:Int):=by omega
    have X:s.s.drop k=y::s.s.drop (k+1):=drop_at hy;have C:=HK.u;rw[X,oz]at C;have HS:=Y λw=>Hl (y.toNat:Int) w;cases h4:dL (y.toNat:Int)
    .rw[h4,M]at C;rw[h4]at HS;have a0:=Y (show k=s.A+K by omega);clear C X hb hy HK;go_wp2_with(go_at_call 156;go_call(HS.u _)as e w' ⟨rfl,D⟩;obtain rfl:=D.symm);go_meet
     exact⟨rfl,by rw[a0.u,HE.u]⟩
    rw[h4,J rfl]at C;rw[h4]at HS;have aq:Hid (k+1+iK dL (s.s.drop (k+1))=s.A+K):=(show _=_ by omega);clear C X hb hy HK;go_wp2_with(go_at_call 156;go_call(HS.u _)as e w' ⟨rfl,D⟩;obtain rfl:=D.symm);go_roundg (s.s.length - (k+1));case measure=>omega
    case rel=>exact⟨k+1,rfl,rfl,by omega,by omega,by go_num,aq.u⟩
   have e1:decide ((k:Int)<(s.s.length:Int))=false:=aj9;have a0:=Y (show k=s.A+K by have:=HK.u;rw[iF]at this;simpa[NR]using this);clear HK;go_wp2_with fail;go_meet
   exact⟨rfl,by rw[a0.u,HE.u]⟩
 case rest=>
 obtain⟨ar,rfl⟩:=hcut;obtain rfl:=ar.symm;have p:s.S.toNat=o:=by rw[ho];rfl
 have f:decide (s.S<=(K:Int))=decide ((o:Int)<=(K:Int)):=by rw[ho]
 have be:wrap64 (K:Int)=(K:Int):=by have:=I;unfold wrap64;omega
 have a:=an.u;have x:=a6.u;have z:=Ea (r:=s);cases c1:decide ((o:Int)<=(K:Int));focus
  have a7:decide (o<=K)=false:=by simpa using c1
  rw[f,c1,iL]at a;simp only[cK,cE]at a;have HN:=Y a;clear p f a I S Q H hi P x z;go_wp2_with fail
 rotate_left;focus
  have a7:decide (o<=K)=true:=by simpa using c1
  have T:o<=K:=by simpa using a7
  obtain⟨F,j⟩:=aj8 ((s.s.drop s.A).take o);have bf:ByteArray.extract ⟨s.s.toArray⟩ s.A (s.A+o)=⟨F.toArray⟩:=by rw[j];exact pE s.s s.A o
  rw[p,f,c1,ja,<-j]at a;obtain⟨bm,bn,bo,bp⟩:=am.u T;have a8:=Y λn=>A.u F (w.drewN n) s L (O.u.start.drewN n);generalize a9:kQ c F=fl at *;clear j T;cases fl;rotate_left
  .simp only[bY]at a;have HF:=Y a;have aa:Hid (∀n,bL w b (cO s L) ((w.drewN n).setCell ⟨b,5,none⟩ (.int .i64 ((s.A:Int)+(o:Int) - 1))) {s with A:=s.A+o - 1} L):=λn=>(O.u.start.drewN n).store 5 _ {s with A:=s.A+o - 1} (by simp[aR];exact HX.u.symm) rfl rfl rfl;have au:=Y λ(W:World) (i:bA) (B:bD W b {s with A:=s.A+o - 1} i)=>kM B 7;clear p f a I S Q H hi P a9 x z;go_wp2_with fail;go_quiet(fail)
   go_wp2_with(first
    |(go_at_call 205;go_call(a8.u _)as e w' ⟨rfl,D⟩;obtain rfl:=D.symm)
    |(go_at_call 83;go_call(au.u _ _ (aa.u _).X)as e w9 ⟨rfl,L9,a1⟩))
   go_ret2;rw[HF.u];exact⟨rfl,L9,(aa.u nq).call a1⟩
  simp only[cK,cE]at a;have HN:=Y a;clear p f a I S Q H hi P a9 x z;go_wp2_with fail;go_quiet(fail);go_wp2_with(go_at_call 205;go_call(a8.u _)as e w' ⟨rfl,D⟩;obtain rfl:=D.symm)
 all_goals
  have a:=HN.u;have x:=a6.u;have z:=Ea (r:=s);generalize av:cF s=wd at *;obtain⟨G,nm,o1⟩:=wd;cases o1;focus
   simp only[cK,cE]at a;have HF:=Y a;clear a HN
  rotate_left;focus
   clear HN;simp only[bY]at a;obtain⟨kk,a2,ab,aw⟩:=z rfl;have h5:G.A<G.s.length:=by simp only at a2;rwa[a2]
   have q:iW G:=x.ok HL.u;obtain⟨y2,ad,bg,ax⟩:=gP G G.A h5;have ap:(G.A:Int)<(G.s.length:Int):=by omega
   rw[Bu,ad]at a;have ay:=Y λw=>DL (y2.toNat:Int) w;generalize az:Rf.bJ (y2.toNat:Int)=sp at *;have b0:=Y λW r i hm=>A.u nm W r i hm;generalize b1:kQ c nm=hb at *;have t:iW (aV G):=(nE q.A).ok q;have b2:=Y λ(W:World) (i:bA) (B:bD W b G i)=>zh B q;generalize b3:aV G=r2 at *;have ae:=mX t.A 61;have b4:=Y λ(W:World) (i:bA) (B:bD W b r2 i)=>vL B t 61 (by decide) (by decide);generalize b5:bW r2 61=mu at *;obtain⟨r3,o3⟩:=mu;have v:iW r3:=ae.1.ok t;have b6:=Y λ(W:World) (i:bA) (B:bD W b r3 i)=>zh B v;unfold Bt at a;have N:iW (aV r3):=(nE v.A).ok v;have b7:=Y λ(W:World) (i:bA) (B:bD W b (aV r3) i)=>pu B N;generalize b8:aV r3=r4 at *;generalize b9:b_ r4=en at *;obtain⟨r5,o5⟩:=en;simp only at a;clear a2 ab aw h5 q ad ax az b1 t b3 ae b5 v N b8 b9;cases hq:((y2.toNat:Int) !=61);rotate_left;cases sp;all_goals rw[hq]at a
   rotate_left;iterate 2
    focus
     cases hb;focus
      cases o3;rotate_left;cases o5
    rotate_left 4
   all_goals
    have HF:=Y a;clear a
  all_goals
   clear x z av
   go_wp2_with(first
    |(go_at_call 109;first|go_call(HW.u _ _ O.u.start.X)as e w3 ⟨rfl,L3,l⟩;have m:=Y (O.u.start.call l);obtain⟨a3,ba,af⟩:=l.X.zzv;clear l;unfold aR at a3|go_call(HW.u _ _ (O.u.start.drewN _).X)as e w3 ⟨rfl,L3,l⟩;have m:=Y ((O.u.start.drewN _).call l);obtain⟨a3,ba,af⟩:=l.X.zzv;clear l;unfold aR at a3))
   first
    |(go_ret2;rw[HF.u];exact⟨rfl,L3,m.u⟩)
    |skip
   all_goals
    go_quiet(fail)
    go_wp2_with(first
     |(go_at_call 149;go_call(ay.u _)as e w' ⟨rfl,D⟩;obtain rfl:=D.symm)
     |(go_at_call 205;go_call(b0.u _ _ _ (m.u.drewN _))as e w' ⟨rfl,D⟩;obtain rfl:=D.symm)
     |(go_at_call 83;go_call(kM (m.u.drewN _).X _)as e w9 ⟨rfl,L9,a1⟩)
     |(go_at_call 104;go_call(b2.u _ _ (m.u.drewN _).X)as e w4 ⟨rfl,L4,ag⟩;have ah:=Y ((m.u.drewN _).call ag);clear ag)
     |(go_at_call 107;go_call(b4.u _ _ ah.u.X)as e w5 ⟨rfl,L5,ai⟩;have a4:=Y (ah.u.call ai);clear ai)
     |(go_at_call 104;go_call(b6.u _ _ a4.u.X)as e w6 ⟨rfl,L6,aj⟩;have ak:=Y (a4.u.call aj);clear aj)
     |(go_at_call 105;go_call(b7.u _ _ ak.u.X)as e w7 ⟨rfl,L7,al⟩;have bb:=Y (ak.u.call al);clear al))
    go_ret2;rw[HF.u];first
     |exact⟨rfl,L9,(m.u.drewN _).call a1⟩
     |exact⟨rfl,L7,bb.u⟩
     |exact⟨rfl,L5,a4.u⟩
end
theorem infoAt:(prog.info? 69).map (λi=>(i.zero,i.size,i.bytes))=some (some (.agg #[.string ByteArray.empty,.string ByteArray.empty,.string ByteArray.empty]),3,48):=by kernel_rfl
structure gm(w0 w:World)(b:Nat)(r:R)(L:bA)(v:Value)(l:List aI):Prop where
 row:w.ownsRow w0.heap.size 69 3 v l.length (cQ l)
 nf:∀k,v.ownBlock=some k->k∉cO r L
section
variable {w0 w w' :World}{b:Nat}{f0:List Nat}{r r' :R}{L L' :bA}{v:Value}{l:List aI}
def gm.nil(w0 w:World)(b:Nat)(r:R)(L:bA):gm w0 w b r L (.slice none 0 0) []:=⟨lq _ _ _ _,λk a=>by cases a⟩
def gm.low(h:gm w0 w b r L v l)(a:b<w0.heap.size):w.ownsRow (b+1) 69 3 v l.length (cQ l):=xC h.row a
def gm.call(h:gm w0 w b r L v l)(d:b<w0.heap.size)(m:bL w b (cO r L) w' r' L'):gm w0 w' b r' L' v l:=by
 refine⟨mo (r:=⟨69,3,v,l.length,cQ l⟩) h.row λk a=>m.fr.block k (World.ownsRow.lt h.row k a).2 (by have:=(World.ownsRow.lt h.row k a).1;omega) (h.nf k a),λk a c=>?_⟩;obtain g|g:=m.fr.aY k c
 .exact h.nf k a g
 have:=(World.ownsRow.lt h.row k a).2;omega
def gm.below(h:gm w0 w b r L v l)(a:Below w.heap.size w w'):gm w0 w' b r L v l:=⟨DZ h.row a,h.nf⟩
def bL.aaI(m:bL w0 b f0 w r L){o:Option Nat}(c:w.grownBy w' o)(d:∀k,o=some k->w0.heap.size<=k/\k∉cO r L)(h:b<w0.heap.size):bL w0 b f0 w' r L:=by
 refine⟨m.X.keep λk a=>c.block k ?_ λe=>?_,⟨c.os.trans m.fr.os,c.tape.trans m.fr.tape,c.output.trans m.fr.output,cL m.fr.size c.size,λk a f g=>(c.block k (i_ a m.fr.size) λe=>?_).trans (m.fr.block k a f g),m.fr.aY⟩,m.gs⟩
 .rcases a with rfl|a
  .exact m.X.lt
  exact(m.X.jh k a).2
 .have:=d k e.symm;obtain rfl|a:=a
  .omega
  exact this.2 a
 have:=(d k e.symm).1;omega
def aaJ(l:List aI)(x:aI):cQ (l++[x])=cQ l++gG x:=by simp[cQ]
def gm.push(h:gm w0 w b r L v l)(x:aI){o:Obj}{g a:Nat}(j:b<w0.heap.size)(m:bL w0 b f0 w r L)(hown:w'.ownsRow w0.heap.size 69 3 (.slice (some ⟨g,0,none⟩) (l.length+1) a) (l.length+1) (cQ l++gG x))
 (n:(w.alloc o).grownBy w' v.ownBlock) (d:v.ownBlock=some g\/g=(w.alloc o).heap.size):bL w0 b f0 w' r L/\gm w0 w' b r L (.slice (some ⟨g,0,none⟩) (l.length+1) a) (l++[x]):=by
 refine⟨(m.alloc o).aaI n (λk c=>⟨(World.ownsRow.lt h.row k c).1,h.nf k c⟩) j,?_,λk c i=>?_⟩
 .rwa[aaJ,bT]
 have e:g=k:=by simpa[Value.ownBlock]using c
 subst e;obtain f|f:=d
 .exact h.nf _ f i
 have:=(m.X.jh _ i).2;simp at f;omega
end
