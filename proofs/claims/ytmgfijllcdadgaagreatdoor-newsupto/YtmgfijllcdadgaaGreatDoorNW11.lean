import Derived.Test.YtmgfijllcdadgaaGreatDoorNW04
import Derived.Test.YtmgfijllcdadgaaGreatDoorNW10
import Derived.Test.YtmgfijllcdadgaaGreatDoorNW06
set_option linter.unusedVariables false
set_option linter.unusedSimpArgs false
namespace Go.Proofs.YtmgfijllcdadgaaGreatDoor
open Mk (St Bs Ev aD)
open Mk (dY jK cW aY aQ dI fB cG cH cK dR eD fN gG gH fO eT Pp iq lM lf mH ja iy gN gq fu fw iP fC fA gP jo cT dO ju jr gT gU gS fD dP bO jv)
variable {hd:Bs}{k:Nat}{s:St}
def Hs(st:Int)(hd:Bs):Prop:=hd=[]∨(st=7∧(hd=[45]∨hd=[45,45]))∨(st=2∧(hd=[93]∨hd=[93,93]))∨(st=11∧hd=[63])
theorem Hs.len{a:Int}(h:Hs a hd):hd.length≤2:=by
 rcases h with rfl|⟨_,rfl|rfl⟩|⟨_,rfl|rfl⟩|⟨_,rfl⟩<;>decide
theorem Hs.none{a:Int}(h:Hs a hd)(c:a≠7)(d:a≠2)(b:a≠11):hd=[]:=by
 rcases h with h|⟨e,_⟩|⟨e,_⟩|⟨e,_⟩
 .exact h
 .exact absurd e c
 .exact absurd e d
 exact absurd e b
structure Inv(k:Nat)(s:St):Prop where
 hx:s.text.length≤k
 ht:s.token.length≤k
 c0:0≤s.count
 c1:s.count≤k
 hl:s.list.length≤7*k
 ho:s.opn.length≤k
 ha:s.aC.length≤32
 hi:14≤s.state→s.state≤17→s.aC.length≤31
 oA:s.oa≤32
 hb:s.aG.length≤3*k+1
 hc:s.cnt.length≤k
 cb:∀c∈s.cnt,c≤32
 av:∀a∈s.aC,a.val.length≤k
 an:∀a∈s.aC,a.name.length≤k
 ax:s.attr.length≤k
 bv:∀p∈s.aG,p.2.length≤k+36
 hs:Hs s.state s.held
 pt:Pt s.pc s.pl
 rn:s.rn.length≤5
 r0:0≤s.rc
 r1:s.rc≤1114111
 m0:0≤s.matched
 m1:s.matched≤k+10
 am:s.am=false
 on:∀y∈s.opn,y.length≤k
 hn:s.name.length≤k
 ev:∀e∈s.list,e.val.length≤k+36
 l0:0≤s.line
 l1:s.line≤k+1
 mM:0≤s.column
 mO:s.column≤k+1
theorem Inv.mono{c:Nat}(h:Inv k s)(b:k≤c):Inv c s where
 hx:=Nat.le_trans h.hx b
 ht:=Nat.le_trans h.ht b
 c0:=h.c0
 c1:=by have:=h.c1;omega
 hl:=by have:=h.hl;omega
 ho:=Nat.le_trans h.ho b
 ha:=h.ha
 hi:=h.hi
 oA:=h.oA
 hb:=by have:=h.hb;omega
 hc:=Nat.le_trans h.hc b
 cb:=h.cb
 av:=fun a ha=>Nat.le_trans (h.av a ha) b
 an:=fun a ha=>Nat.le_trans (h.an a ha) b
 ax:=Nat.le_trans h.ax b
 bv:=fun p d=>by have:=h.bv p d;omega
 hs:=h.hs
 pt:=h.pt
 rn:=h.rn
 r0:=h.r0
 r1:=h.r1
 m0:=h.m0
 m1:=by have:=h.m1;omega
 am:=h.am
 on:=fun y f=>Nat.le_trans (h.on y f) b
 hn:=Nat.le_trans h.hn b
 ev:=fun e g=>by have:=h.ev e g;omega
 l0:=h.l0
 l1:=by have:=h.l1;omega
 mM:=h.mM
 mO:=by have:=h.mO;omega
theorem Inv.bd(h:Inv k s)(b:k≤90000000):Bd s where
 hx:=by have:=h.hx;omega
 ht:=by have:=h.ht;omega
 c0:=h.c0
 c1:=by have:=h.c1;omega
 hl:=by have:=h.hl;omega
 ho:=by have:=h.ho;omega
 ha:=h.ha
 hh:=h.hs.len
 pt:=h.pt
 rn:=h.rn
 r0:=h.r0
 r1:=h.r1
 m0:=h.m0
 m1:=by have:=h.m1;omega
 am:=h.am
 hb:=by have:=h.hb;omega
 hc:=by have:=h.hc;omega
 cb:=h.cb
 hn:=by have:=h.hn;omega
 an:=fun a ha=>by have:=h.an a ha;omega
theorem lq(h:Inv k s)(c:Int):Inv (k+4) (Mk.put s c):=by
 have a:=uU s c;have e:=h.hx;have f:=h.ht;have g:=h.c0;have i:=h.c1;have d:=h.mono (show k≤k+4 by omega);unfold Mk.put at a⊢;split
 .rename_i b;rw[if_pos b]at a;exact{d with hx:=by show(s.text++Mk.encode c).length≤k+4;have:=a.1;simp only at this;omega}
 rename_i b;rw[if_neg b]at a;exact{d with ht:=by show(s.token++Mk.encode c).length≤k+4;have:=a.2.1;simp only at this;omega,c0:=by show 0≤s.count+1;omega,c1:=by show s.count+1≤((k+4:Nat):Int);omega}
theorem zK:∀(l:Bs) {k:Nat} {s:St} (h:Inv k s),Inv (k+4*l.length) (dY s l)
 |[],k,s,h=>h
 |x::r,k,s,h=>(zK r (lq h x.toNat)).mono (by simp;omega)
theorem zL(h:Inv k s)(p:Int×Int)(b:Pt p.1 p.2):Inv (k+4) (jK s p):=by
 unfold jK;have a:Inv k {s with pc:=p.1,pl:=p.2}:={h with pt:=b};split
 .exact lq a _
 exact a.mono (by omega)
theorem mP(h:Inv k s)(x:Int)(a:0≤x)(b:x≤255):Inv (k+12) (cW s x).1:=by
 unfold cW;split
 .exact h.mono (by omega)
 rename_i p c;split
 .have d:=zK s.held h;have e:Inv (k+8) {dY s s.held with held:=[]}:={d.mono (by have:=h.hs.len;omega)with hs:=.inl rfl};exact zL e p (EV a b c)
 exact h.mono (by omega)
theorem PT(h:Inv k s):Inv k (aY s):={h with ht:=by simp[aY],c0:=by simp[aY],c1:=by simp[aY]}
theorem GZ(s:St)(e:Ev):(Mk.add s e).list.length≤s.list.length+2∧(∀y∈(Mk.add s e).list,y∈s.list∨y=e∨y=⟨3,[],[],s.text,[]⟩)∧(Mk.add s e).text=[]∨((Mk.add s e).list.length≤s.list.length+2∧(∀y∈(Mk.add s e).list,y∈s.list∨y=e)∧(Mk.add s e).text=s.text∧s.text.length=0):=by
 unfold Mk.add aQ;split
 .rename_i b;refine .inr ⟨by simp,fun y a=>?_,rfl,b⟩;rcases List.mem_append.1 a with a|a
  .exact .inl a
  simp at a;exact .inr a
 refine .inl ⟨by simp,fun y a=>?_,rfl⟩;rcases List.mem_append.1 a with a|a
 .rcases List.mem_append.1 a with a|a
  .exact .inl a
  simp at a;exact .inr (.inr a)
 simp at a;exact .inr (.inl a)
theorem sM(h:Inv k s)(l:List Ev)(x:Bs)(hl:l.length≤7*k)(hx:x.length≤k)(hev:∀e∈l,e.val.length≤k+36):Inv k {s with list:=l,text:=x}:={h with hx:=hx,hl:=hl,ev:=hev}
theorem o_(s:St)(e:Ev)(m:Nat)(g:s.text.length≤m)(hev:∀y∈s.list,y.val.length≤m)(f:e.val.length≤m):
 (Mk.add s e).list.length≤s.list.length+2∧(∀y∈(Mk.add s e).list,y.val.length≤m)∧(Mk.add s e).text.length=0:=by
 rcases GZ s e with⟨a,b,c⟩|⟨a,b,c,i⟩
 .refine⟨a,fun y d=>?_,by rw[c];rfl⟩;rcases b y d with h|rfl|rfl
  .exact hev y h
  .exact f
  exact g
 refine⟨a,fun y d=>?_,by rw[c];exact i⟩;rcases b y d with h|rfl
 .exact hev y h
 exact f
theorem zM(s:St)(e:Ev)(h:s.text.length=0):(Mk.add s e).list.length=s.list.length+1:=by
 unfold Mk.add aQ;rw[if_pos h];simp
theorem zN(h:Inv k s)(e:Ev)(hev:e.val.length≤k+36):Inv (k+2) (Mk.add s e):=by
 obtain⟨c,a,d⟩:=o_ s e (k+36) (by have:=h.hx;omega) h.ev hev;rw[kG];exact sM (h.mono (show k≤k+2 by omega)) _ _ (by have:=h.hl;omega) (by omega) fun y b=>by have:=a y b;omega
theorem vG(m:Nat):∀(l:List (Bs×Bs)) (s:St),s.text.length≤m→(∀y∈s.list,y.val.length≤m)→(∀p∈l,p.2.length≤m)→
 (dI s l).list.length≤s.list.length+l.length+1∧(∀y∈(dI s l).list,y.val.length≤m)∧(dI s l).text.length≤s.text.length∧(s.text.length=0→(dI s l).list.length≤s.list.length+l.length)
 |[],s,a,hev,_=>⟨by show s.list.length≤_;simp,hev,Nat.le_refl _,fun _=>Nat.le_refl _⟩
 |p::r,s,a,hev,b=>by
  obtain⟨h,c,d⟩:=o_ s ⟨6,p.1,[],p.2,[]⟩ m a hev (b p List.mem_cons_self);obtain⟨i,g2,j,e⟩:=vG m r (Mk.add s ⟨6,p.1,[],p.2,[]⟩) (by omega) c fun q f=>b q (List.mem_cons_of_mem _ f)
  have k:=e d;refine⟨?_,g2,?_,fun g=>?_⟩
  .show(dI (Mk.add s _) r).list.length≤_;simp only[List.length_cons];omega
  .show(dI (Mk.add s _) r).text.length≤_;omega
  have:=zM s ⟨6,p.1,[],p.2,[]⟩ g;show(dI (Mk.add s _) r).list.length≤_;simp only[List.length_cons];omega
theorem zO(m:Nat):∀(l:List (Bs×Bs)) (s:St),s.text.length≤m→(∀y∈s.list,y.val.length≤m)→
 (fB s l).list.length≤s.list.length+l.length+1∧(∀y∈(fB s l).list,y.val.length≤m)∧(fB s l).text.length≤s.text.length∧(s.text.length=0→(fB s l).list.length≤s.list.length+l.length)
 |[],s,a,hev=>⟨by show s.list.length≤_;simp,hev,Nat.le_refl _,fun _=>Nat.le_refl _⟩
 |p::r,s,a,hev=>by
  obtain⟨f,b,c⟩:=o_ s ⟨7,p.1,[],[],[]⟩ m a hev (by simp);obtain⟨g,g2,h,d⟩:=zO m r (Mk.add s ⟨7,p.1,[],[],[]⟩) (by omega) b;have i:=d c;refine⟨?_,g2,?_,fun e=>?_⟩
  .show(fB (Mk.add s _) r).list.length≤_;simp only[List.length_cons];omega
  .show(fB (Mk.add s _) r).text.length≤_;omega
  have:=zM s ⟨7,p.1,[],[],[]⟩ e;show(fB (Mk.add s _) r).list.length≤_;simp only[List.length_cons];omega
theorem vH(h:∀c∈s.cnt,c≤32):(cG s).length≤32:=by
 unfold cG Mk.first
 rw[List.length_drop];split
 .omega
 rename_i c a;have:=h c (List.mem_of_getLast? a);split<;>omega
theorem qD(h:Inv k s)(hd:s.held=[]):Inv k (Mk.resume s):={h with hs:=.inl hd,hi:=fun a _=>by exfalso;revert a;show ¬(14:Int)≤(if s.opn.length=0 then 0 else 1);split<;>decide}
theorem zP(s:St)(e:Ev):(Mk.add s e).held=s.held∧(Mk.add s e).opn=s.opn∧(Mk.add s e).name=s.name:=by unfold Mk.add aQ;split<;>exact⟨rfl,rfl,rfl⟩
theorem zQ(h:Inv k s):Inv (k+6) (cH s):=by
 have b:=vH h.cb;obtain⟨o,g2,q,r⟩:=vG (k+36) (cG s) s (by have:=h.hx;omega) h.ev fun p c=>h.bv p (List.mem_of_mem_drop c)
 obtain⟨d,e,t⟩:=o_ (cK s) ⟨1,s.name,Mk.aZ s s.name,[],s.aC⟩ (k+36) (by show(dI s (cG s)).text.length≤_;have:=h.hx;omega) g2 (by simp);have f:=kG (cK s) ⟨1,s.name,Mk.aZ s s.name,[],s.aC⟩;have g:=sD (cG s) s;have i:(Mk.add (cK s) ⟨1,s.name,Mk.aZ s s.name,[],s.aC⟩).list.length≤(dI s (cG s)).list.length+2:=d;have j:Inv (k+6) {s with list:=(Mk.add (cK s) ⟨1,s.name,Mk.aZ s s.name,[],s.aC⟩).list,text:=(Mk.add (cK s) ⟨1,s.name,Mk.aZ s s.name,[],s.aC⟩).text}:=
  sM (h.mono (show k≤k+6 by omega)) _ _ (by have:=h.hl;omega) (by omega) fun y l=>by have:=e y l;omega
 have m:Mk.add (cK s) ⟨1,s.name,Mk.aZ s s.name,[],s.aC⟩={s with list:=(Mk.add (cK s) ⟨1,s.name,Mk.aZ s s.name,[],s.aC⟩).list,text:=(Mk.add (cK s) ⟨1,s.name,Mk.aZ s s.name,[],s.aC⟩).text}:=by
  have n:cK s={s with list:=(cK s).list,text:=(cK s).text}:=g;rw[f];rw[n]
 unfold cH;rw[m];exact{j with ha:=by simp,hi:=fun _ _=>by simp,av:=(fun a ha=>by cases ha),an:=(fun a ha=>by cases ha)}
theorem QU(h:Inv k s):Inv k (Mk.leave s):=
 {h with hb:=by have:=h.hb;show(s.aG.take _).length≤_;rw[List.length_take];omega,hc:=by have:=h.hc;show s.cnt.dropLast.length≤_;simp;omega,cb:=fun c hc=>h.cb c (List.dropLast_subset _ hc),bv:=fun p a=>h.bv p (List.mem_of_mem_take a)}
theorem zR(h:Inv k s)(hd:s.held=[])(n:Bs):Inv (k+6) (dR s n):=by
 have d:=vH h.cb;have e0:=kG s ⟨2,n,Mk.aZ s n,[],[]⟩;obtain⟨o,e,f⟩:=o_ s ⟨2,n,Mk.aZ s n,[],[]⟩ (k+36) (by have:=h.hx;omega) h.ev (by simp);have g:cG (Mk.add s ⟨2,n,Mk.aZ s n,[],[]⟩)=cG s:=by rw[e0];rfl
 obtain⟨p,g2,q,i⟩:=zO (k+36) (cG s).reverse (Mk.add s ⟨2,n,Mk.aZ s n,[],[]⟩) (by omega) e;have j:=i f;rw[List.length_reverse]at j;have b:eD (Mk.add s ⟨2,n,Mk.aZ s n,[],[]⟩)={s with list:=(eD (Mk.add s ⟨2,n,Mk.aZ s n,[],[]⟩)).list,text:=(eD (Mk.add s ⟨2,n,Mk.aZ s n,[],[]⟩)).text}:=by
  have l:=sF (cG (Mk.add s ⟨2,n,Mk.aZ s n,[],[]⟩)).reverse (Mk.add s ⟨2,n,Mk.aZ s n,[],[]⟩);unfold eD;rw[l];rw[e0]
 have a:eD (Mk.add s ⟨2,n,Mk.aZ s n,[],[]⟩)=fB (Mk.add s ⟨2,n,Mk.aZ s n,[],[]⟩) (cG s).reverse:=by unfold eD;rw[g]
 have m:Inv (k+6) (eD (Mk.add s ⟨2,n,Mk.aZ s n,[],[]⟩)):=by
  rw[b];refine sM (h.mono (show k≤k+6 by omega)) _ _ ?_ ?_ ?_
  .rw[a];have:=h.hl;omega
  .rw[a];omega
  intro y c;rw[a]at c;have:=g2 y c;omega
 unfold dR;refine qD (s:={Mk.leave (eD (Mk.add s ⟨2,n,Mk.aZ s n,[],[]⟩))with over:=decide (s.opn.length=0)}) {QU m with} ?_;show(eD (Mk.add s ⟨2,n,Mk.aZ s n,[],[]⟩)).held=[];rw[b];exact hd
theorem vI(m:Nat):∀(e:List aD) (b:List (Bs×Bs)) (c:Nat),(∀p∈b,p.2.length≤m)→(∀a∈e,a.val.length≤m)→∀p∈(fN e b c).1,p.2.length≤m
 |[],b,c,f,_=>f
 |a::r,b,c,f,g=>by
  unfold fN;split
  .exact vI m r b c f fun x h=>g x (List.mem_cons_of_mem _ h)
  split
  .exact f
  refine vI m r _ _ (fun p d=>?_) fun x h=>g x (List.mem_cons_of_mem _ h)
  rcases List.mem_append.1 d with d|d
  .exact f p d
  simp at d;subst d;exact g a List.mem_cons_self
theorem zS(h:Inv k s):Inv (k+11) (Mk.declare s).1:=by
 obtain⟨d,b⟩:=qq s;have i:=sG s.aC s.aG 0;have e:=vI (k+36) s.aC s.aG 0 h.bv fun a f=>by have:=h.av a f;omega
 have j:=h.ha;rw[d];refine{h.mono (show k≤k+11 by omega)with hb:=?_,hc:=?_,cb:=?_,bv:=?_}
 .have:=h.hb;show(fN s.aC s.aG 0).1.length≤_;omega
 .show(Mk.declare s).1.cnt.length≤_;have:=h.hc;rcases b with b|b<;>rw[b]<;>simp<;>omega
 .show ∀c∈(Mk.declare s).1.cnt,c≤32;intro c hc;rcases b with b|b<;>rw[b]at hc
  .exact h.cb c hc
  rcases List.mem_append.1 hc with hc|hc
  .exact h.cb c hc
  simp at hc;omega
 intro p g;have:=e p g;omega
theorem QV(h:Inv k s):Inv (k+11) (Mk.enter s).1:=by
 rcases zi s with e|e<;>rw[e]
 .exact h.mono (by omega)
 exact zS h
theorem QW(s:St):(Mk.declare s).1.held=s.held∧(Mk.declare s).1.opn=s.opn∧(Mk.declare s).1.name=s.name∧(Mk.declare s).1.state=s.state:=by
 rw[(qq s).1];exact⟨rfl,rfl,rfl,rfl⟩
theorem zT(h:Inv k s)(x:Int):Inv (k+4) (gG s x).1:=by
 unfold gG;split
 .exact lq h x
 exact h.mono (by omega)
theorem QX(h:Inv k s)(hd:s.held=[])(x:Int):Inv (k+6) (gH s x):=by
 have b:=h.mono (show k≤k+6 by omega);unfold gH;split
 .exact{b with hs:=.inl hd,hi:=fun _ h=>by simp at h}
 have c:=zQ h;have d:=nJ s;refine qD (s:={cH s with opn:=s.opn++[s.name],name:=[]}) {c with ho:=?_,on:=?_,hn:=by simp} ?_
 .have:=h.ho;simp;omega
 .intro y a;rcases List.mem_append.1 a with a|a
  .have:=h.on y a;omega
  simp at a;subst a;have:=h.hn;omega
 show(cH s).held=[];rw[d];exact hd
theorem vJ(h:Inv k s)(hd:s.held=[])(x:Int):Inv (k+12) (fO s x).1:=by
 have m:=h.mono (show k≤k+12 by omega);unfold fO;split
 .exact{m with hs:=.inl hd,hi:=by simp}
 split
 .unfold Mk.gQ;split
  .split
   .exact(QV h).mono (by omega)
   rename_i l w;obtain⟨z,n⟩:=Qc w;have o:=zS h;obtain⟨q,r,A,t⟩:=QW s;have u:=Qb (Mk.declare s).1.aG k s.aC [] l n;have N:=h.ha;have B:∀a∈l,a.val.length≤k:=u.2 (fun a ha=>by cases ha) h.av;have i:∀a∈l,a.name.length≤k:=(sH (Mk.declare s).1.aG k s.aC [] l n).2 (fun a ha=>by cases ha) h.an;simp only[List.length_nil,Nat.zero_add]at u;rw[z];have j:∀c∈(Mk.declare s).1.cnt,c≤32:=o.cb;have g:Inv (k+11) {(Mk.declare s).1 with aC:=l}:=by
    refine{o with ha:=?_,hi:=?_,av:=?_,an:=?_}
    .show l.length≤32;omega
    .intro a b;show l.length≤31;have C:(14:Int)≤s.state:=by rw[←t];exact a
     have D:s.state≤17:=by rw[←t];exact b
     have:=h.hi C D;omega
    .intro a ha;have:=B a ha;omega
    intro a ha;have:=i a ha;omega
   unfold gH;split
   .exact{g.mono (show k+11≤k+12 by omega)with hs:=.inl (by show(Mk.declare s).1.held=[];rw[q];exact hd),hi:=fun _ h=>by simp at h}
   have d:(Mk.declare s).1.list=s.list∧(Mk.declare s).1.text=s.text:=by rw[(qq s).1];exact⟨rfl,rfl⟩
   have v:=nJ {(Mk.declare s).1 with aC:=l};have E:=vH (s:={(Mk.declare s).1 with aC:=l}) j;obtain⟨O,g2,P,Q⟩:=vG (k+47) (cG {(Mk.declare s).1 with aC:=l}) {(Mk.declare s).1 with aC:=l} (by show(Mk.declare s).1.text.length≤_;rw[d.2];have:=h.hx;omega) (fun y e=>by have:=g.ev y e;omega) fun p F=>by have:=g.bv p (List.mem_of_mem_drop F);omega
   obtain⟨G,H,I⟩:=o_ (cK {(Mk.declare s).1 with aC:=l}) ⟨1,(Mk.declare s).1.name,Mk.aZ {(Mk.declare s).1 with aC:=l} (Mk.declare s).1.name,[],l⟩ (k+47) (by show(dI _ _).text.length≤_;have:({(Mk.declare s).1 with aC:=l}:St).text.length≤k:=(by show(Mk.declare s).1.text.length≤k;rw[d.2];exact h.hx);omega) g2 (by simp);have J:(cH {(Mk.declare s).1 with aC:=l}).list.length≤(dI {(Mk.declare s).1 with aC:=l} (cG {(Mk.declare s).1 with aC:=l})).list.length+2:=G;have K:(dI {(Mk.declare s).1 with aC:=l} (cG {(Mk.declare s).1 with aC:=l})).list.length≤s.list.length+33:=by
    have:({(Mk.declare s).1 with aC:=l}:St).list.length=s.list.length:=by show(Mk.declare s).1.list.length=_;rw[d.1]
    omega
   have L:Inv (k+12) (cH {(Mk.declare s).1 with aC:=l}):=by
    rw[v];refine{sM (g.mono (show k+11≤k+12 by omega)) (cH {(Mk.declare s).1 with aC:=l}).list (cH {(Mk.declare s).1 with aC:=l}).text ?_ ?_ ?_ with ha:=by simp,hi:=fun _ _=>by simp,av:=(fun a ha=>by cases ha),an:=(fun a ha=>by cases ha)}
    .have:=h.hl;omega
    .have M:(cH {(Mk.declare s).1 with aC:=l}).text.length=0:=I;omega
    intro y e;have:=H y e;omega
   refine qD (s:={cH {(Mk.declare s).1 with aC:=l}with opn:=(Mk.declare s).1.opn++[(Mk.declare s).1.name],name:=[]}) {L with ho:=?_,on:=?_,hn:=by simp} ?_
   .have:=h.ho;show((Mk.declare s).1.opn++[(Mk.declare s).1.name]).length≤_;rw[r];simp;omega
   .intro y e;have f:y∈(Mk.declare s).1.opn++[(Mk.declare s).1.name]:=e;rw[r,A]at f;rcases List.mem_append.1 f with e|e
    .have:=h.on y e;omega
    simp at e;subst e;have:=h.hn;omega
   show(cH {(Mk.declare s).1 with aC:=l}).held=[];rw[v];show(Mk.declare s).1.held=[];rw[q];exact hd
  exact(QX h hd x).mono (by omega)
 exact m
theorem vK{x:Int}(g:0≤x)(i:0≤s.rc){r:Mk.Rf}(h:eT ⟨s.rp,s.rn,s.rc⟩ x=some r):0≤r.code∧r.code≤1114111∧r.name.length≤5:=by
 have a:∀base place r,(base=10∨base=16)→Pp s.rc x base place=some r→0≤r.code∧r.code≤1114111∧r.name.length≤5:=by
  intro base place r d h;unfold Pp at h;split at h
  .cases h
  rename_i v j;split at h
  .cases h
  cases h;have:=PO g (by omega) j;have b:0≤s.rc*base:=Int.mul_nonneg i (by omega);simp;omega
 have e:∀base place r,(base=10∨base=16)→iq s.rc x base place=some r→0≤r.code∧r.code≤1114111∧r.name.length≤5:=by
  intro base place r d h;unfold iq at h;split at h
  .split at h
   .rename_i k;cases h;have:=yR k;simp;omega
   cases h
  exact a base place r d h
 have m:∀l r,(∀q∈l,0≤q.2∧q.2≤1114111∧q.1.length≤5)→lM (s.rn++[Mk.u8 x]) l=some r→0≤r.code∧r.code≤1114111∧r.name.length≤5:=by
  intro l;induction l with
  |nil=>intro r _ h;cases h
  |cons q l ih=>
   intro r f h;obtain⟨nm,n⟩:=q;have b:=f (nm,n) List.mem_cons_self;simp only at b;unfold lM at h;split at h
   .cases h;simp;omega
   split at h
   .rename_i hpre;cases h;have:=(List.isPrefixOf_iff_prefix.1 hpre).length_le;simp only;exact⟨by decide,by decide,Nat.le_trans this b.2.2⟩
   exact ih r (fun q c=>f q (List.mem_cons_of_mem _ c)) h
 have o:∀r,Mk.letter s.rn x=some r→0≤r.code∧r.code≤1114111∧r.name.length≤5:=fun r h=>m _ r (by decide) h
 unfold eT at h;repeat' split at h
 all_goals first
  |(cases h;done)
  |(cases h;simp;done)
  |exact o r h
  |exact a _ _ r (.inl rfl) h
  |exact a _ _ r (.inr rfl) h
  |exact e _ _ r (.inl rfl) h
  |exact e _ _ r (.inr rfl) h
theorem vL(h:Inv k s)(r:Mk.Rf)(a:0≤r.code∧r.code≤1114111∧r.name.length≤5):Inv k (Mk.setRef s r):={h with rn:=a.2.2,r0:=a.1,r1:=a.2.1}
section
variable {k:Nat}{s:St}
theorem zU(h:Inv k s):Inv (k+4) (lf s):=by
 unfold lf;have a:Inv k (aY {s with held:=[]}):=PT {h with hs:=.inl rfl};have b:=zN a ⟨5,s.name,[],s.token,[]⟩ (by have:=h.ht;show s.token.length≤k+36;omega);exact qD (s:={Mk.add (aY {s with held:=[]}) ⟨5,s.name,[],s.token,[]⟩with name:=[]}) {b.mono (show k+2≤k+4 by omega)with hn:=by simp} ((zP (aY {s with held:=[]}) ⟨5,s.name,[],s.token,[]⟩).1.trans rfl)
theorem QY(h:Inv k s):Inv (k+4) (mH s):=by
 unfold mH;have a:Inv k (aY {s with held:=[]}):=PT {h with hs:=.inl rfl};have b:=zN a ⟨4,[],[],s.token,[]⟩ (by have:=h.ht;show s.token.length≤k+36;omega);exact qD (b.mono (by omega)) ((zP (aY {s with held:=[]}) ⟨4,[],[],s.token,[]⟩).1.trans rfl)
theorem QZ(h:Inv k s)(x:Int)(a:0<s.pl):Inv (k+12) (ja s x).1:=by
 unfold ja;split
 .exact h.mono (by omega)
 rename_i p b;exact(zL h p (yS h.pt a b)).mono (by omega)
theorem Q_(h:Inv k s)(x:Int)(b:0≤x):Inv (k+12) (iy s x).1:=by
 unfold iy;split
 .exact h.mono (by omega)
 rename_i r c;have a:=vL h r (vK b h.r0 c);split
 .exact a.mono (by omega)
 exact(lq a _).mono (by omega)
theorem Ra(h:Inv k s)(x:Int)(b:0≤x)(c:x≤255)(a:s.state=7):Inv (k+12) (gN s x).1:=by
 unfold gN;split
 .exact(QY h).mono (by omega)
 split
 .exact h.mono (by omega)
 split
 .rename_i f d g;refine{h.mono (show k≤k+12 by omega)with hs:=?_};show Hs s.state (s.held++[45]);rcases h.hs with e|⟨_,e|e⟩|⟨e,_⟩|⟨e,_⟩
  .rw[e];exact .inr (.inl ⟨a,.inl rfl⟩)
  .rw[e];exact .inr (.inl ⟨a,.inr rfl⟩)
  .exact absurd e d
  .omega
  omega
 exact mP h x b c
theorem G_(h:Inv k s)(x:Int)(b:0≤x)(c:x≤255)(a:s.state=2):Inv (k+12) (gq s x).1:=by
 unfold gq;split
 .exact{h.mono (show k≤k+12 by omega)with hs:=.inl rfl,hi:=by simp}
 split
 .exact(lq h _).mono (by omega)
 split
 .rename_i g d f;refine{h.mono (show k≤k+12 by omega)with hs:=?_};show Hs s.state (s.held++[93]);rcases h.hs with e|⟨e,_⟩|⟨_,e|e⟩|⟨e,_⟩
  .rw[e];exact .inr (.inr (.inl ⟨a,.inl rfl⟩))
  .omega
  .rw[e];exact .inr (.inr (.inl ⟨a,.inr rfl⟩))
  .exact absurd ⟨f,e⟩ d
  omega
 exact mP h x b c
theorem zV(h:Inv k s)(x:Int)(b:0≤x)(c:x≤255)(a:s.state=11):Inv (k+12) (fu s x).1:=by
 unfold fu;split
 .exact(zU h).mono (by omega)
 split
 .split
  .exact(lq h _).mono (by omega)
  exact h.mono (by omega)
 split
 .exact{h.mono (show k≤k+12 by omega)with hs:=.inr (.inr (.inr ⟨a,rfl⟩))}
 exact mP h x b c
theorem He(h:Inv k s)(hd:s.held=[])(x:Int)(a:0≤x)(b:x≤255):Inv (k+12) (fw s x).1:=by
 have c:=h.mono (show k≤k+12 by omega);unfold fw;split
 .exact{c with hs:=.inl hd,hi:=by simp}
 split
 .exact vL (s:={s with brackets:=0}) {c with} _ (by simp)
 split
 .split
  .exact{c with}
  exact mP (s:={s with brackets:=0}) {h with} x a b
 split
 .exact mP (s:={s with brackets:=if s.brackets==0 then 1 else 2}) {h with} x a b
 exact mP (s:={s with brackets:=0}) {h with} x a b
theorem Hf(h:Inv k s)(hd:s.held=[])(x:Int):Inv (k+12) (iP s x).1:=by
 have a:=h.mono (show k≤k+12 by omega);unfold iP;repeat' split
 all_goals first|exact a|exact{a with hs:=.inl hd,hi:=by simp}
theorem Hg(h:Inv k s)(c:s.state=17)(hd:s.held=[])(x:Int)(d:0≤x)(e:x≤255):Inv (k+12) (fC s x).1:=by
 have b:=h.mono (show k≤k+12 by omega);unfold fC;split
 .unfold Mk.endValue;have f:=PT b
  exact{f with ha:=(by have:=h.hi (by omega) (by omega);show(s.aC++[_]).length≤32;simp;omega),hi:=by simp,hs:=.inl hd,av:=(by
   intro a ha
   have ha' :a∈s.aC++[⟨s.attr,[],s.token⟩]:=ha
   rcases List.mem_append.1 ha' with ha|ha
   .have:=h.av a ha;omega
   .simp at ha;subst ha;have:=h.ht;show s.token.length≤k+12;omega),an:=(by
   intro a ha
   have ha' :a∈s.aC++[⟨s.attr,[],s.token⟩]:=ha
   rcases List.mem_append.1 ha' with ha|ha
   .have:=h.an a ha;omega
   simp at ha;subst ha;have:=h.ax;show s.attr.length≤k+12;omega),ax:=by simp}
 split
 .exact b
 split
 .split
  .exact vL b _ (by simp)
  exact b
 split
 .exact mP h 32 (by decide) (by decide)
 exact mP h x d e
theorem Hh(h:Inv k s)(hd:s.held=[])(x:Int):Inv (k+12) (fA s x).1:=by
 have a:=h.mono (show k≤k+12 by omega);unfold fA;split
 .exact{a with hs:=.inl hd,hi:=by simp}
 split
 .exact{a with hs:=.inl hd,hi:=by simp}
 split
 .exact{a with hs:=.inl hd,hi:=by simp,m0:=by simp,m1:=by simp;omega}
 split
 .unfold Mk.kE;split
  .exact a
  exact(lq (s:={s with state:=12}) {h with hs:=.inl hd,hi:=by simp} x).mono (by omega)
 exact a
theorem Hj(h:Inv k s)(hd:s.held=[])(x:Int):Inv (k+12) (gP s x).1:=by
 have a:=h.mono (show k≤k+12 by omega);unfold gP;split
 .exact{a with hs:=.inl hd,hi:=by simp}
 split
 .exact{a with hs:=.inl hd,hi:=by simp,m0:=by simp,m1:=by simp;omega}
 exact a
theorem Hl(h:Inv k s)(hd:s.held=[])(x:Int):Inv (k+12) (jo s x).1:=by
 have a:=h.mono (show k≤k+12 by omega);unfold jo;split
 .exact{a with hs:=.inl hd,hi:=by simp}
 exact a
theorem Ho(h:Inv k s)(hd:s.held=[])(x:Int):Inv (k+12) (cT s x).1:=by
 have a:=h.mono (show k≤k+12 by omega);have m0:=h.m0;have m1:=h.m1;unfold cT;split
 .exact a
 split
 .exact{a with hs:=.inl hd,hi:=by simp,m0:=by simp;omega,m1:=by simp;omega}
 exact{a with m0:=by simp;omega,m1:=by simp;omega}
theorem Hp(h:Inv k s)(hd:s.held=[])(x:Int):Inv (k+12) (dO s x).1:=by
 have a:=h.mono (show k≤k+12 by omega);unfold dO;split
 .exact a
 split
 .exact(zT h x).mono (by omega)
 split
 .exact a
 split
 .exact a
 exact{PT a with hs:=.inl hd,hn:=a.ht,hi:=fun b _=>by exfalso;revert b;show ¬(14:Int)≤(if(x==63)=true then 9 else 10);split<;>decide}
theorem Hq(h:Inv k s)(hd:s.held=[])(x:Int)(a:0≤x)(b:x≤255):Inv (k+12) (ju s x).1:=by
 unfold ju;split
 .exact h.mono (by omega)
 exact zV (s:={s with state:=11}) {h with hs:=.inl hd,hi:=by simp} x a b rfl
theorem Hr(h:Inv k s)(x:Int):Inv (k+12) (jr s x).1:=by
 unfold jr;split
 .exact(zU h).mono (by omega)
 exact h.mono (by omega)
theorem zW(h:Inv k s)(hd:s.held=[])(x:Int):Inv (k+12) (gT s x).1:=by
 have a:=h.mono (show k≤k+12 by omega);unfold gT;split
 .exact{a with hs:=.inl hd,hi:=by simp}
 split
 .unfold Mk.Pv;have b:Inv k {s with opn:=s.opn.dropLast}:={h with ho:=by have:=h.ho;simp;omega,on:=fun y c=>h.on y (List.dropLast_subset _ c)};exact(zR b hd _).mono (by omega)
 exact a
theorem zX(h:Inv k s):(Mk.innermost s).length≤k:=by
 unfold Mk.innermost;by_cases a:s.opn=[]
 .simp[a]
 rw[List.getLastD_eq_getLast?,List.getLast?_eq_some_getLast a];exact h.on _ (List.getLast_mem a)
theorem Ht(h:Inv k s)(hd:s.held=[])(x:Int):Inv (k+12) (gU s x).1:=by
 have a:=h.mono (show k≤k+12 by omega);have b:=zX h;have m0:=h.m0;unfold gU;split
 .split
  .exact a
  exact{a with m0:=by simp;omega,m1:=by simp;omega}
 split
 .exact a
 exact zW h hd x
theorem zY(h:Inv k s)(a:14≤s.state)(g2:s.state≤17)(hd:s.held=[])(x:Int):Inv k (gS s x).1:=by
 unfold gS;repeat' split
 all_goals first|exact h|exact{h with hs:=.inl hd,hi:=fun _ _=>h.hi a g2}
theorem Hu(h:Inv k s)(hd:s.held=[])(x:Int):Inv (k+12) (fD s x).1:=by
 have b:=h.mono (show k≤k+12 by omega);unfold fD;split
 .unfold Mk.jM;split
  .exact(zT h x).mono (by omega)
  exact vJ (s:={aY s with name:=s.token}) {PT h with hn:=h.ht} hd x
 split
 .unfold Mk.jb;split
  .exact vJ h hd x
  split
  .exact b
  rename_i d;exact(lq (s:={s with state:=14}) {h with hs:=.inl hd,hi:=fun _ _=>by have:=h.oA;show s.aC.length≤31;omega} x).mono (by omega)
 split
 .rename_i a;have a:s.state=14:=by simpa using a
  unfold Mk.iz;split
  .unfold Mk.kF;split
   .split
    .exact(lq h x).mono (by omega)
    exact(lq h x).mono (by omega)
   exact b
  split
  .exact b
  split
  .exact b
  exact zY (s:={aY s with attr:=s.token}) {PT b with ax:=b.ht} (by show(14:Int)≤s.state;omega) (by show s.state≤17;omega) hd x
 split
 .rename_i a;have a:s.state=15:=by simpa using a
  exact zY b (by omega) (by omega) hd x
 split
 .rename_i a;have a:s.state=16:=by simpa using a
  unfold Mk.iA;split
  .exact b
  split
  .exact{b with hs:=.inl hd,hi:=fun _ _=>h.hi (by omega) (by omega)}
  exact b
 split
 .exact vJ h hd x
 unfold Mk.jN;split
 .exact b
 have e:=zQ h;have f:=nJ s;have g:=zR e (by rw[f];exact hd) s.name;have c:=g.mono (show k+6+6≤k+12 by omega);generalize dR (cH s) s.name=z at c⊢;exact{c with hn:=by simp}
theorem Hv(h:Inv k s)(hd:s.held=[])(x:Int)(a:0≤x)(b:x≤255):Inv (k+12) (dP s x).1:=by
 unfold dP;repeat' split
 all_goals first
  |exact Hh h hd x
  |exact Hj h hd x
  |exact Hl h hd x
  |exact Ho h hd x
  |exact Hp h hd x
  |exact Hr h x
  |exact Hq h hd x a b
  |exact Ht h hd x
  |exact zW h hd x
  |exact Hu h hd x
theorem vM(h:Inv k s)(x:Int)(b:0≤x)(c:x≤255):Inv (k+12) (bO s x).1:=by
 unfold bO;split
 .exact QZ h x (by assumption)
 split
 .exact Q_ h x b
 split
 .rename_i a;have a:s.state=0:=by simpa using a
  exact Hf h (h.hs.none (by omega) (by omega) (by omega)) x
 split
 .rename_i a;have a:s.state=1:=by simpa using a
  exact He h (h.hs.none (by omega) (by omega) (by omega)) x b c
 split
 .rename_i a;have a:s.state=2:=by simpa using a
  exact G_ h x b c a
 split
 .rename_i a;have a:s.state=7:=by simpa using a
  exact Ra h x b c a
 split
 .rename_i a;have a:s.state=11:=by simpa using a
  exact zV h x b c a
 split
 .rename_i a;have a:s.state=17:=by simpa using a
  exact Hg h a (h.hs.none (by omega) (by omega) (by omega)) x b c
 rename_i f g i j d e;simp at f g i j d e;exact Hv h (h.hs.none (by omega) (by omega) (by omega)) x b c
theorem zZ(h:Inv k s)(x:Int)(b:0≤x)(c:x≤255):Inv (k+12) (jv s x).1:=by
 unfold jv;have a:=vM h x b c;have d:=GL s x;have e:=GM s x;have f:=h.l0;have g2:=h.l1;have g:=h.mM;have i:=h.mO;split
 .unfold Mk.jc;split
  .exact{a with l0:=by show 0≤(bO s x).1.line+1;omega,l1:=by show(bO s x).1.line+1≤((k+12:Nat):Int)+1;omega,mM:=by show(0:Int)≤1;decide,mO:=by show(1:Int)≤((k+12:Nat):Int)+1;omega}
  split
  .exact{a with mM:=by show 0≤(bO s x).1.column+1;omega,mO:=by show(bO s x).1.column+1≤((k+12:Nat):Int)+1;omega}
  exact a
 exact a
theorem Hw(h:Inv k s)(x:Int)(a:0≤x)(b:x≤255):Inv (k+12) (Mk.read s x).1:=by
 unfold Mk.read;split
 .exact{h.mono (show k≤k+12 by omega)with}
 split
 .exact zZ (s:={s with ret:=true}) {h with} 10 (by decide) (by decide)
 exact zZ (s:={s with ret:=false}) {h with} x a b
end
end Go.Proofs.YtmgfijllcdadgaaGreatDoor
