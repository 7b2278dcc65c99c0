import Derived.Test.YtmgfijllcdadgaaGreatDoorUW27
set_option linter.all false
set_option maxHeartbeats 8000000
set_option maxRecDepth 100000
namespace Go.Proofs.YtmgfijllcdadgaaGreatDoor
open Go.RowKit
open Go.Proofs.Tryz
open Mk
variable {w:World}{b:Nat}{f:List Nat}{t:U}{a:Type}
structure Bq(w:World)(E b:Nat)(f:List Nat)(o:Obj):Prop where
 blk:w.heap[E]?=some o
 nb:E≠b
 nf:E∉f
def Bq.fr{c:World}{E:Nat}{d:List Nat}{o:Obj}(h:Bq w E b f o)(e:Fr w c b f d):Bq c E b d o:=by
 have a:=(Array.getElem?_eq_some_iff.1 h.blk).1;refine⟨(e.block E a h.nb h.nf).trans h.blk,h.nb,λg=>?_⟩;obtain q|q:=e.aY E g
 .exact h.nf q
 omega
def Bq.cell{w:World}{E b:Nat}{f:List Nat}{a:Array Value}{c:TypeId}(h:Bq w E b f (.cells a c (0,0)))(j:Nat):w.cell? ⟨E,j,none⟩=a[j]?:=by simp[World.cell?,h.blk]
def Sy(h:fZ w b t f)(o:Obj):Bq (w.alloc o) w.heap.size b f o:=by
 have a:=xW h;exact⟨dI w o,by omega,λc=>by have:=(a.2 _ c).2;omega⟩
def wD(n x:U):U:=[60,63]++n++(if x=[]then[]else 32::x)++[63,62]
def age(h:fZ w b t f)(k:Int)(n s x:U)(v:Value)(N:t.length+n.length+x.length+20<=1000000000):
 Calls prog 172 #[.pointer (some ⟨b,0,none⟩),.agg #[.int .i64 k,.string ⟨n.toArray⟩,.string ⟨s.toArray⟩,.string ⟨x.toArray⟩,v]] w λr w' =>r=.returned (.tuple #[])/\∃D,fZ w' b (t++wD n x) D/\Fr w w' b f D:=by
 obtain⟨E,i⟩:=Kb h (.cells #[.int .i64 k,.string ⟨n.toArray⟩,.string ⟨s.toArray⟩,.string ⟨x.toArray⟩,v] 65);have O:=(xW h).1;have F:=Sy h (.cells #[.int .i64 k,.string ⟨n.toArray⟩,.string ⟨s.toArray⟩,.string ⟨x.toArray⟩,v] 65);have q:=Y (sS E (60::63::n)<|by simp;omega);have a:=Y (ajN i F);clear E i h F;cases x with
 |nil=>
  have e0:(([]:U)==[])=true:=rfl;have P:(([]:U) !=[])=false:=rfl;go_enter func172,ntmps172;go_wp2_with fail;go_call q.u as e Q ⟨rfl,R,j,g⟩;have c:=a.u.2.fr g;have S:=c.cell 3;have l:=Y (sS j [63,62]<|by simp at N⊢;omega);have d:=Y (a.u.1.trans g);clear j g c q a;go_wp2_with fail;go_call l.u as e w2 ⟨rfl,A,m,o⟩;have B:Hid (fZ w2 b (t++wD n []) A/\Fr w w2 b f A):=⟨by have e:t++wD n []=t++(60::63::n)++[63,62]:=(by simp[wD]);rw[e];exact m,d.u.trans o⟩;clear m o l d;go_wp2;go_end0
  exact⟨rfl,A,B.u⟩
 |cons y x=>
  have e0:((y::x)==([]:U))=false:=rfl;have P:((y::x) !=([]:U))=true:=rfl;have G:wD n (y::x)=[60,63]++n++(32::(y::x))++[63,62]:=by rw[wD,M]
  rw[G];clear G;generalize(y::x)=z at *;go_enter func172,ntmps172;go_wp2_with fail;go_call q.u as e Q ⟨rfl,R,j,g⟩;have c:=a.u.2.fr g;have S:=c.cell 3;have l:=Y (sS j (32::z)<|by simp;omega);have d:=Y (a.u.1.trans g);clear j g c q a;go_wp2_with fail;go_call l.u as e w2 ⟨rfl,A,m,o⟩;have H:=Y (sS m [63,62]<|by simp;omega);have p:=Y (d.u.trans o);clear m o l d;go_wp2_with fail;go_call H.u as e I ⟨rfl,C,K,L⟩;have B:Hid (fZ I b (t++([60,63]++n++32::z++[63,62])) C/\Fr w I b f C):=⟨by have e:t++([60,63]++n++32::z++[63,62])=t++(60::63::n)++(32::z)++[63,62]:=(by simp);rw[e];exact K,p.u.trans L⟩;clear K L H p;go_wp2;go_end0
  exact⟨rfl,C,B.u⟩
def Sz(h:fZ w b t f)(e:Ev)(v:Value)(D:t.length+e.B.length+6*e.val.length+30<=1000000000):
 Calls prog 118 #[.pointer (some ⟨b,0,none⟩),.agg #[.int .i64 e.kind,.string ⟨e.B.toArray⟩,.string ⟨e.space.toArray⟩,.string ⟨e.val.toArray⟩,v]] w λr w' =>r=.returned (.tuple #[])/\∃B,fZ w' b (t++ng e) B/\Fr w w' b f B:=by
 obtain⟨k,n,s,x,d⟩:=e;dsimp only at D⊢;obtain⟨C,o⟩:=Kb h (.cells #[.int .i64 k,.string ⟨n.toArray⟩,.string ⟨s.toArray⟩,.string ⟨x.toArray⟩,v] 65);have E:=(xW h).1;have a:=Y o;have HA:=Y C;clear C o h;by_cases p:k=2
 .subst p;have F:((2:Int)==2)=true:=rfl;have g:=Y (sS HA.u (60::47::(n++[62]))<|by simp;omega);have c:ng ⟨2,n,s,x,d⟩=60::47::(n++[62]):=by unfold ng;simp
  rw[c];clear c HA;go_enter func118,ntmps118;go_wp2_with fail;go_call g.u as e q ⟨rfl,l,i,j⟩;have m:=Y (ajN i (a.u.trans j));clear i j g a;go_wp2;go_end0
  exact⟨rfl,l,m.u⟩
 by_cases y:k=3
 .subst y;have g:=Y (agb HA.u x<|by omega);have c:ng ⟨3,n,s,x,d⟩=nJ x:=by unfold ng;simp
  rw[c];clear c HA;go_enter func118,ntmps118;go_wp2_with fail;go_call g.u as e q ⟨rfl,l,i,j⟩;have m:=Y (ajN i (a.u.trans j));clear i j g a;go_wp2;go_end0
  exact⟨rfl,l,m.u⟩
 by_cases z:k=4
 .subst z;have g:=Y (sS HA.u (60::33::45::45::(x++[45,45,62]))<|by simp;omega);have c:ng ⟨4,n,s,x,d⟩=60::33::45::45::(x++[45,45,62]):=by unfold ng;simp
  rw[c];clear c HA;go_enter func118,ntmps118;go_wp2_with fail;go_call g.u as e q ⟨rfl,l,i,j⟩;have m:=Y (ajN i (a.u.trans j));clear i j g a;go_wp2;go_end0
  exact⟨rfl,l,m.u⟩
 by_cases A:k=5
 .subst A;have g:=Y (age HA.u 5 n s x v<|by omega);have c:ng ⟨5,n,s,x,d⟩=wD n x:=by unfold ng wD;simp
  rw[c];clear c HA;go_enter func118,ntmps118;go_wp2_with fail;go_call g.u as e q ⟨rfl,l,i,j⟩;have m:=Y (ajN i (a.u.trans j));clear i j g a;go_wp2;go_end0
  exact⟨rfl,l,m.u⟩
 have G:=aj7 p;have H:=aj7 y;have I:=aj7 z;have K:=aj7 A;have c:ng ⟨k,n,s,x,d⟩=[]:=by unfold ng;simp[p,y,z,A]
 rw[c];clear c;go_enter func118,ntmps118;go_wp2;go_end0
 exact⟨rfl,f,by rw[aj1];exact HA.u,a.u⟩
def SA(w:World)(a:Option Addr)(l:List Ev):Prop:=
 ∀k (b:k<l.length),∃g o,a=some ⟨g,o,none⟩/\g<w.heap.size/\w.cell? ⟨g,o+k*5+1,none⟩=some (.string ⟨l[k].B.toArray⟩)/\w.cell? ⟨g,o+k*5+3,none⟩=some (.string ⟨l[k].val.toArray⟩)
def SB(f:a->U)(l:List a)(i:Nat)(b:i<l.length):(l.take (i+1)).flatMap f=(l.take i).flatMap f++f l[i]:=by
 rw[qM,nB];simp[l_ b]
def Ke(f:a->U)(l:List a)(i:Nat):((l.take i).flatMap f).length<=(l.flatMap f).length:=by
 conv=>rhs;rw[<-ol i l,nB,bT]
 omega
def qG(l:List Ev):U:=l.flatMap λx=>jQ (m_ x.B) x.val
def rq(l:List aI):U:=l.flatMap λx=>jQ x.B x.val
def agf(p:U):(m_ p).length<=p.length+6:=by
 unfold m_;split
 .simp[fR]
 simp[fR]
def agh{c:World}(h:fZ w c.heap.size t f)(hW:Below c.heap.size c w)(e:Ev)(C ba:Option Addr)(D bc:Nat)(b:List Ev)(hA:B_ c C e.f)(hB:SA c ba b)
 (hn:e.B.length<=7000000) (E:∀y∈e.f,y.B.length<=7000000/\y.val.length<=7000000) (N:∀y∈b,y.B.length<=7000000/\y.val.length<=7000000) (a2:e.f.length<=7000000) (a9:b.length<=20000000)
 (hl:t.length+(pM e b).length<=900000000):
 Calls prog 117 #[.pointer (some ⟨c.heap.size,0,none⟩),.agg #[.int .i64 e.kind,.string ⟨e.B.toArray⟩,.string ⟨e.space.toArray⟩,.string ⟨e.val.toArray⟩,.slice C e.f.length D],.slice ba b.length bc] w λr w' =>r=.returned (.tuple #[])/\∃v,fZ w' c.heap.size (t++pM e b) v/\Fr w w' c.heap.size f v:=by
 obtain⟨k,n,s,x,a⟩:=e;dsimp only at hA hn E a2 hl⊢;have hE:pM ⟨k,n,s,x,a⟩ b=60::n++qG b++rq a++[62]:=rfl;rw[hE]at hl⊢;simp only[bT,cT,fB]at hl;clear hE;obtain⟨O,P⟩:=Kb h (.cells #[.int .i64 k,.string ⟨n.toArray⟩,.string ⟨s.toArray⟩,.string ⟨x.toArray⟩,.slice C a.length D] 65);have ab:=(xW h).1;have hk:=Sy h (.cells #[.int .i64 k,.string ⟨n.toArray⟩,.string ⟨s.toArray⟩,.string ⟨x.toArray⟩,.slice C a.length D] 65);have H1:=Y (sS O (60::n)<|by simp;omega);have HK:=Y (ajN P hk);have Q:=Y hW;have a3:=Y hA;have R:=Y hB;have a4:=Y E;have F:=Y N;have S:Hid (∀w' v,Fr w w' c.heap.size f v->Below c.heap.size c w'):=λw' v T=>Q.u.trans ⟨T.os,T.tape,T.output,T.size,λk hk=>T.block k (by omega) (by omega) λhm=>by have:=((xW h).2 k hm).1;omega⟩;clear O P hk hW hA hB E N h Q;go_enter func117,ntmps117;go_wp2_with fail;go_call H1.u as e w1 ⟨rfl,W,h1,b1⟩;have HP:Hid (fZ w1 c.heap.size (t++(60::n)++qG (b.take 0)) W/\Fr w w1 c.heap.size f W/\Bq w1 w.heap.size c.heap.size W (.cells #[.int .i64 k,.string ⟨n.toArray⟩,.string ⟨s.toArray⟩,.string ⟨x.toArray⟩,.slice C a.length D] 65 (0,0))):=⟨by show fZ w1 c.heap.size (t++(60::n)++[]) W;rw[aj1];exact h1,HK.u.1.trans b1,HK.u.2.fr b1⟩;clear h1 b1 H1 HK;go_wp2_with fail;go_loopg [6] b.length λg s6 G=>∃(i:Nat) (v:List Nat),i<=b.length/\g=b.length - i/\s6=.int .i64 (i:Int)/\Hid (fZ G c.heap.size (t++(60::n)++qG (b.take i)) v/\Fr w G c.heap.size f v/\Bq G w.heap.size c.heap.size v (.cells #[.int .i64 k,.string ⟨n.toArray⟩,.string ⟨s.toArray⟩,.string ⟨x.toArray⟩,.slice C a.length D] 65 (0,0)));case atStart=>exact⟨0,W,by omega,rfl,rfl,HP.u⟩
 case round=>
  obtain⟨i,X,hi,rfl,rfl,m⟩:=hrel;clear HP;by_cases h3:i<b.length
  .have e1:decide ((i:Int)<(b.length:Int))=true:=aj_;have ad:(i:Int)<(b.length:Int):=by omega
   obtain⟨g,o,a5,H,c1,c3⟩:=R.u i h3;subst a5;have d:=S.u _ _ m.u.2.1;have z:∀j,wr.cell? ⟨g,j,none⟩=c.cell? ⟨g,j,none⟩:=λj=>by simp only[World.cell?];rw[d.block _ H]
   have a0:g<wr.heap.size:=by have:=d.size;omega
   rw[<-z]at c1 c3;have HD:=Y (agd b[i].B<|by have:=(F.u b[i] (iZ h3)).1;omega);have l:=SB (λx:Ev=>jQ (m_ x.B) x.val) b i h3;have p:=Ke (λx:Ev=>jQ (m_ x.B) x.val) b i
   have I:=Y (Ss m.u.1 (m_ b[i].B) b[i].val (by
    have q:=F.u b[i] (iZ h3)
    have q1:=agf b[i].B
    have p:(qG (b.take i)).length<=(qG b).length:=p
    rw[bT,bT,cT]
    omega))
   have l:qG (b.take (i+1))=qG (b.take i)++jQ (m_ b[i].B) b[i].val:=l;rw[jB,<-l]at I;clear l p z d;generalize b[i]=y at *;go_wp2_with fail;go_call(HD.u _)as e w2 ⟨rfl,rfl⟩;go_wp2_with fail;go_call I.u as e w3 ⟨rfl,f3,A,B⟩;have HN:=Y (ajN A (ajN (m.u.2.1.trans B) (m.u.2.2.fr B)));clear A B I m HD c1 c3;go_wp2;go_roundg (b.length - (i+1));case measure=>omega
   case rel=>exact⟨i+1,f3,by omega,rfl,by simp,HN.u⟩
  have e1:decide ((i:Int)<(b.length:Int))=false:=aj9;have a6:i=b.length:=by omega
  subst a6;have K:Hid (fZ wr c.heap.size (t++(60::n)++qG b++rq (a.take 0)) X/\Fr w wr c.heap.size f X/\Bq wr w.heap.size c.heap.size X (.cells #[.int .i64 k,.string ⟨n.toArray⟩,.string ⟨s.toArray⟩,.string ⟨x.toArray⟩,.slice C a.length D] 65 (0,0))):=by
   have q:=m.u;rw[tv]at q;exact⟨by show fZ wr c.heap.size (t++(60::n)++qG b++[]) X;rw[aj1];exact q.1,q.2⟩
  have c4:=K.u.2.2.cell 4;clear m R F;go_wp2_with fail;go_loopg [8] a.length λg s8 G=>∃(j:Nat) (v:List Nat),j<=a.length/\g=a.length - j/\s8=.int .i64 (j:Int)/\Hid (fZ G c.heap.size (t++(60::n)++qG b++rq (a.take j)) v/\Fr w G c.heap.size f v/\Bq G w.heap.size c.heap.size v (.cells #[.int .i64 k,.string ⟨n.toArray⟩,.string ⟨s.toArray⟩,.string ⟨x.toArray⟩,.slice C a.length D] 65 (0,0)));case atStart=>exact⟨0,X,by omega,rfl,rfl,K.u⟩
  case round=>
   obtain⟨j,f3,hj,rfl,rfl,m⟩:=hrel;clear K c4;have c4:=m.u.2.2.cell 4;have ae:w.heap.size<wr.heap.size:=(Array.getElem?_eq_some_iff.1 m.u.2.2.blk).1;by_cases h4:j<a.length
   .have e2:decide ((j:Int)<(a.length:Int))=true:=aj_;have af:(j:Int)<(a.length:Int):=by omega
    obtain⟨g,a7,H,c0,c2⟩:=a3.u j h4;subst a7;have d:=S.u _ _ m.u.2.1;have z:∀q,wr.cell? ⟨g,q,none⟩=c.cell? ⟨g,q,none⟩:=λq=>by simp only[World.cell?];rw[d.block _ H]
    have a0:g<wr.heap.size:=by have:=d.size;omega
    rw[<-z]at c0 c2;have l:=SB (λx:aI=>jQ x.B x.val) a j h4;have p:=Ke (λx:aI=>jQ x.B x.val) a j;have a1:fZ wr.drew c.heap.size (t++(60::n)++qG b++rq (a.take j)) f3:=EX m.u.1 ⟨rfl,rfl,rfl,a_ _,λ_ _=>rfl⟩
    have I:=Y (Ss a1 a[j].B a[j].val (by
     have q:=a4.u a[j] (iZ h4)
     have p:(rq (a.take j)).length<=(rq a).length:=p
     rw[bT,bT,bT,cT]
     omega))
    have l:rq (a.take (j+1))=rq (a.take j)++jQ a[j].B a[j].val:=l;rw[jB,<-l]at I;clear l p z d;generalize a[j]=y at *;clear a1;go_wp2_with fail;go_region_with (go_at_call 170;go_call I.u as e w3 ⟨rfl,f4,A,B⟩;have L:Fr wr w3 c.heap.size f3 f4:=⟨B.os,B.tape,B.output,B.size,B.block,B.aY⟩;have HN:=Y (ajN A (ajN (m.u.2.1.trans L) (m.u.2.2.fr L)));clear A B L I m c0 c2 c4);all_goals
     go_wp2;go_roundg (a.length - (j+1));case measure=>omega
     case rel=>exact⟨j+1,f4,by omega,rfl,by simp,HN.u⟩
   have e2:decide ((j:Int)<(a.length:Int))=false:=aj9;have a8:j=a.length:=by omega
   have H5:=Y (sS m.u.1 [62] (by
    have p:(rq (a.take j)).length<=(rq a).length:=Ke (λx:aI=>jQ x.B x.val) a j
    simp only[bT,cT,fB]
    omega))
   go_wp2_with fail;go_call H5.u as e w4 ⟨rfl,f5,h5,b5⟩;have HF:Hid (fZ w4 c.heap.size (t++(60::n++qG b++rq a++[62])) f5/\Fr w w4 c.heap.size f f5):=by
    refine⟨?_,m.u.2.1.trans b5⟩;rw[a8,tv]at h5;have e:t++(60::n++qG b++rq a++[62])=t++(60::n)++qG b++rq a++[62]:=by simp
    rwa[e]
   clear h5 b5 H5 m c4;go_wp2;go_end0
   exact⟨rfl,f5,HF.u⟩
theorem agi(a:List Ev)(e:Ev)(r:List Ev):nX a (e::r)=if e.kind=6 then nX (a++[e]) r else if e.kind=1 then pM e a++nX [] r else ng e++nX [] r:=rfl
structure Cb(l:List Ev):Prop where
 n:l.length<=20000000
 e:∀x∈l,x.B.length<=7000000/\x.val.length<=100000000/\(x.kind=6->x.val.length<=7000000)/\x.f.length<=7000000/\∀y∈x.f,y.B.length<=7000000/\y.val.length<=7000000
def agj{v:Value}{l:List Ev}{fp:List Nat}(hg:vJ w v l fp)(hs:Cb l)(hl:(gq l).length<=300000000):
 Calls prog 86 #[v] w λe w' =>∃a c,e=.returned (.slice a (gq l).length c)/\w'.ownsRow (w.heap.size+1) 5 1 (.slice a (gq l).length c) (gq l).length ((gq l).map bv)/\Below w.heap.size w w' :=by
 obtain⟨va,vc,hv⟩:=hg.slice;subst hv;have af:=hs.n;have a9:=hg.cap;have HG:=Y hg;have HS:=Y hs;have HL:Hid ((gq l).length<=300000000):=hl;have H0:Hid (fZ (w.alloc (.cells #[.slice none 0 0] 150)) w.heap.size [] []/\Below w.heap.size w (w.alloc (.cells #[.slice none 0 0] 150))):=⟨⟨none,0,⟨dI w _,lq _ _ _ _⟩,rfl⟩,(Below.refl _ _).alloc (a_ _) _⟩;clear hg hs hl;go_enter func86,ntmps86;go_wp2_with fail;go_loopg [4,5] l.length λg s4 s5 wx=>∃(i b:Nat) (T:U) (f:List Nat),i<=l.length/\b<=i/\g=l.length - i/\s4=.int .i64 (b:Int)/\s5=.int .i64 (i:Int)/\Hid (fZ wx w.heap.size T f/\Below w.heap.size w wx)/\Hid ((gq l=T++nX ((l.take i).drop b) (l.drop i))/\∀y∈(l.take i).drop b,y.kind=6);case atStart=>exact⟨0,0,[],[],by omega,by omega,rfl,rfl,rfl,H0.u,⟨by show gq l=[]++nX [] l;rfl,λy t=>by cases t⟩⟩
 case round=>
  obtain⟨i,b,T,f,hi,ag,rfl,rfl,rfl,r,P⟩:=hrel;clear H0;by_cases h3:i<l.length
  .have e1:decide ((i:Int)<(l.length:Int))=true:=aj_;have ah:(i:Int)<(l.length:Int):=by omega
   obtain⟨g,c,aa,ac,Q,a0,c0,c1,c2,c3,c4,m,hev⟩:=HG.u.zP i h3;injection Q with Q _ a6;subst Q a6;have o:=r.u.2;have I:∀j,wr.cell? ⟨g,j,none⟩=w.cell? ⟨g,j,none⟩:=λj=>by simp only[World.cell?];rw[o.block _ a0]
   have ab:g<wr.heap.size:=by have:=o.size;omega
   rw[<-I]at c0 c1 c2 c3 c4;have z:=P.u.1;have p:=P.u.2;rw[gB h3,agi]at z;have B:(l.take (i+1)).drop b=(l.take i).drop b++[l[i]]:=by
    rw[qM,l_ h3,List.drop_append_of_le_length<|by rw[iB];omega];rfl
   have d:=HS.u |>.e l[i] (iZ h3);have K:∀y∈(l.take i).drop b,y∈l:=λy t=>tG (yL t);by_cases C:l[i].kind=6
   .have t6:=aka C;rw[J C,<-B]at z;have N:∀y∈(l.take (i+1)).drop b,y.kind=6:=λy t=>by
     rw[B]at t;obtain q|q:=List.mem_append.1 t
     .exact p y q
     rwa[List.mem_singleton.1 q]
    have D:=Y (ajN z N);clear z B P I o m hev d K N p;generalize l[i]=x at *;go_wp2;go_roundg (l.length - (i+1));case measure=>omega
    case rel=>exact⟨i+1,b,T,f,by omega,by omega,rfl,rfl,by simp,r.u,D.u⟩
   have t6:=aj7 C;by_cases s:l[i].kind=1
   .have t1:=aka s;rw[M C,J s,<-jB]at z;have h:((l.take i).drop b).length=i - b:=by rw[lm,iB];omega
    have k1:(b:Int)<=(i:Int):=by omega
    have k2:(i:Int)<=(vc:Int):=by omega
    have k3:¬(vc:Int)<(i:Int):=by omega
    have k4:¬(i:Int)<(b:Int):=by omega
    have k5:¬(b:Int)<0:=by omega
    have k6:¬vc=b:=by omega
    have hB:SA w (some ⟨g,b*5,none⟩) ((l.take i).drop b):=λk hk=>by
     rw[h]at hk;obtain⟨g', c', ai,aj,E,ad,_,d1,_,d3,_⟩:=HG.u.zP (b+k) (by omega);injection E with E _ _;cases E;have eg:((l.take i).drop b)[k]'(by rwa[h])=l[b+k]'(by omega):=by simp
     refine⟨g,b*5,rfl,a0,?_,?_⟩
     .rw[eg,<-d1,show b*5+k*5+1=(b+k)*5+1 by omega]
     rw[eg,<-d3,show b*5+k*5+3=(b+k)*5+3 by omega]
    have F:fZ wr.drew w.heap.size T f:=EX r.u.1 ⟨rfl,rfl,rfl,a_ _,λ_ _=>rfl⟩;have a1:Below w.heap.size w wr.drew:=r.u.2.trans ⟨rfl,rfl,rfl,a_ _,λ_ _=>rfl⟩;have R:T.length+(pM l[i] ((l.take i).drop b)).length<=300000000:=by
     have:=HL.u;rw[z]at this;simp only[bT]at this;omega
    have a7:=Y (ajN m (ajN d.1 (ajN d.2.2.2.2 d.2.2.2.1)));have O:∀y∈(l.take i).drop b,y.B.length<=7000000/\y.val.length<=7000000:=λy t=>by
     have q:=HS.u.e y (K y t);exact⟨q.1,q.2.2.1 (p y t)⟩
    have W:=Y (agh F a1 ⟨1,l[i].B,l[i].space,l[i].val,l[i].f⟩ aa (some ⟨g,b*5,none⟩) ac (vc - b) ((l.take i).drop b) m hB d.1 d.2.2.2.2 O d.2.2.2.1 (by rw[h];omega) (by show T.length+(pM l[i] ((l.take i).drop b)).length<=900000000;omega));rw[h]at W;have S:(l.take (i+1)).drop (i+1)=[]:=oQ (by rw[iB];omega);have D:Hid ((gq l=(T++pM l[i] ((l.take i).drop b))++nX ((l.take (i+1)).drop (i+1)) (l.drop (i+1)))/\∀y∈(l.take (i+1)).drop (i+1),y.kind=6):=by
     refine⟨?_,?_⟩
     .rwa[S]
     rw[S];intro y t;cases t
    have ew:pM ⟨1,l[i].B,l[i].space,l[i].val,l[i].f⟩ ((l.take i).drop b)=pM l[i] ((l.take i).drop b):=rfl;rw[ew]at W;clear S p ew z B P I o m hev d K hB F a1 R a7 O h;generalize pM l[i] ((l.take i).drop b)=X at *;generalize l[i]=x at *;go_wp2_with fail;go_region_with (go_at_call 117;go_call W.u as e w3 ⟨rfl,f4,G,A⟩;have H:Below w.heap.size w w3:=r.u.2.trans ⟨A.os,A.tape,A.output,A.size,λk hk=>A.block k (by have:=r.u.2.size;show k<wr.heap.size;omega) (by omega) λhm=>by have:=((xW r.u.1).2 k hm).1;omega⟩;have HN:=Y (ajN G H);clear G A H W r c0 c1 c2 c3 c4);all_goals
     go_wp2;go_roundg (l.length - (i+1));case measure=>omega
     case rel=>exact⟨i+1,i+1,T++X,f4,by omega,by omega,rfl,by simp,by simp,HN.u,D.u⟩
   have t1:=aj7 s;rw[M C,M s,<-jB]at z;have F:fZ wr.drew w.heap.size T f:=EX r.u.1 ⟨rfl,rfl,rfl,a_ _,λ_ _=>rfl⟩;have R:T.length<=300000000:=by
    have:=HL.u;rw[z]at this;simp only[bT]at this;omega
   have W:=Y (Sz F l[i] (.slice aa l[i].f.length ac)<|by have:=d.1;have:=d.2.1;omega);have HW0:=Y (Sz r.u.1 l[i] (.slice aa l[i].f.length ac)<|by have:=d.1;have:=d.2.1;omega);have S:(l.take (i+1)).drop (i+1)=[]:=oQ (by rw[iB];omega);have D:Hid ((gq l=(T++ng l[i])++nX ((l.take (i+1)).drop (i+1)) (l.drop (i+1)))/\∀y∈(l.take (i+1)).drop (i+1),y.kind=6):=by
    refine⟨?_,?_⟩
    .rwa[S]
    rw[S];intro y t;cases t
   clear S p z B P I o m hev d K F R W;generalize ng l[i]=X at *;generalize l[i]=x at *;go_wp2_with fail;go_call HW0.u as e w3 ⟨rfl,f4,G,A⟩;have H:Below w.heap.size w w3:=r.u.2.trans ⟨A.os,A.tape,A.output,A.size,λk hk=>A.block k (by have:=r.u.2.size;omega) (by omega) λhm=>by have:=((xW r.u.1).2 k hm).1;omega⟩;have HN:=Y (ajN G H);clear G A H HW0 r c0 c1 c2 c3 c4;go_wp2;go_roundg (l.length - (i+1));case measure=>omega
   case rel=>exact⟨i+1,i+1,T++X,f4,by omega,by omega,rfl,by simp,by simp,HN.u,D.u⟩
  have e1:decide ((i:Int)<(l.length:Int))=false:=aj9;have a2:i=l.length:=by omega
  have z:gq l=T:=by
   have a3:=P.u.1;rw[a2,Dc]at a3;rw[a3];show T++[]=T;simp
  have a4:=r.u;rw[<-z]at a4;obtain⟨⟨a,c,L,hf⟩,a5⟩:=a4;have a8:=L.cell;have ae:=L.lt;have HF:=Y (ajN L.row a5);clear z a2 P r L a5;go_wp2;go_ret;exact⟨a,c,rfl,HF.u⟩
