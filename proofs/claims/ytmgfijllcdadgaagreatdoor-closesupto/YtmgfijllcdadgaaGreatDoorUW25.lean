import Derived.Test.YtmgfijllcdadgaaGreatDoorUW20
import Derived.Test.YtmgfijllcdadgaaGreatDoorUW19
set_option linter.all false
namespace Go.Proofs.YtmgfijllcdadgaaGreatDoor
section
open List
open Mk
variable {s b:Z}{c:Sc}
def EW{z:Z}(a:z.C=s.C)(b:z.F=s.F):wT z=wT s:=by unfold wT;rw[a,b]
def Nn.of{a:Z}{C:Sc}{L:List Ev}(h:b=sn C.m C.T L a)(k:KR a.C C L)(l:C.T.length=a.I.length)(s1:a.H≠19)(c:¬9<=a.H):Nn a b C:=by
 subst h;exact⟨⟨rfl,λ_=>⟨rfl,rfl,rfl⟩,k,l,λg=>aj6 g s1⟩,λg=>aj6 g.1 c⟩
def afo(s:Z):(bX s).I=s.I:=by rw[oW]
def RS(s:Z)(n:U):(bZ s n).I=s.I/\(bZ s n).H=if s.I.length=0 then 0 else 1:=by rw[sN];exact⟨rfl,rfl⟩
def st01(p:Prop)[Decidable p]:(if p then(0:Int)else 1)≠19/\¬9<=(if p then(0:Int)else 1):=by split<;>decide
def JW{a d:Z}(h:Nn a d c)(p:a.T=[]/\a.on=false)(A:a.H=12\/a.H=13\/a.H=18)(b:Int):Nt (dR a b) (dR d b) (rR c a.B a.f=none/\(b=47\/b=62)/\(dR a b).1=gL a b):=by
 have i:=h.ai (by omega);have q:d.on=true:=by rw[i];rfl
 by_cases j:Mk.bJ b=true
 .have e0:dR a b=({a with H:=13},0):=by unfold dR;rw[J j]
  have k:dR d b=({d with H:=13},0):=by unfold dR;rw[J j]
  rw[e0,k];refine h.same (by omega) ?_ (λ_=>.far<|by show(13:Int)≠19/\¬((9:Int)<=13/\(13:Int)<=11);decide) λ_=>.of rfl rfl rfl rfl rfl rfl rfl;conv=>lhs;rw[i]
  rfl
 by_cases m:(b==47||b==62)=true
 .have v:b=47\/b=62:=by simpa using m
  have e0:dR a b=(gL a b,0):=by unfold dR ia;rw[M j,J m,p.2];rfl
  have k:dR d b=(match(dY d).2 with|none=>((dY d).1,8)|some l=>(gL {(dY d).1 with f:=l} b,0)):=by unfold dR ia;rw[M j,J m,q];rfl
  have B:rR ⟨d.m,d.T⟩ d.B d.f=rR c a.B a.f:=by rw[i];rfl
  have w:=RL d;rw[B]at w;rw[e0,k];obtain⟨o,r⟩|⟨e,l,o,r,C⟩:=w
  .rw[r];exact⟨λg=>aj6 rfl g,λ_=>.inr ⟨rfl,o,v,rfl⟩⟩
  rw[r];dsimp only;have s:e.T.length=a.I.length+1:=by
   have Q:=h.ln;rw[((h.A<|by omega).2.2)]at C;omega
  have n:d.F=a.F/\d.C=d.C:=by rw[i];exact⟨rfl,rfl⟩
  refine⟨λg=>aj6 rfl g,λ_=>.inl ⟨rfl,?_⟩⟩;obtain rfl|rfl:=v
  .refine⟨c,⟨?_,λg=>aj6 rfl g,?_,?_,λ_=>?_⟩,λg=>?_⟩
   .show{{d with m:=e.m,T:=e.T,f:=l}with H:=19}=_;conv=>lhs;rw[i]
    rfl
   .exact h.re
   .exact h.ln
   .exact o
   have g:(9:Int)<=19/\(19:Int)<=11:=g;omega
  obtain⟨y,f⟩:∃y:Z,y={d with m:=e.m,T:=e.T,f:=l}:=⟨_,rfl⟩;have t:y.on=true:=by rwa[f]
  have D:y.F=a.F:=by rw[f];exact n.1
  obtain⟨E,F⟩:=RQ p.1 p.2;obtain⟨G,H⟩:=RP t;have x:=oW a;have z:=oW y;rw[F]at x;rw[H]at z;rw[<-f];have I:gL a 62=iy {bX a with I:=a.I++[a.B],B:=[]}:=rfl;have K:gL y 62=iy {bX y with I:=y.I++[y.B],B:=[]}:=rfl;have u:KR (bX a).C e (bX y).C:=by
   rw[E,G];have L:wT y=wT d:=EW (by rw[f]) (by rw[f]);have N:y.B=a.B:=by rw[f,i];rfl
   have O:y.f=l:=by rw[f]
   have P:(⟨y.m,y.T⟩:Sc)=e:=by rw[f]
   rw[L,N,O,P];refine(h.re.F n.1).more ?_;rw[qZ,J rfl,o]
  have hfin:gL y 62=sn e.m e.T (bX y).C (gL a 62):=by
   generalize(bX y).C=R at *;generalize(bX a).C=S at *;rw[K,I,z,x];conv=>lhs;rw[f,i]
   rfl
  exact⟨e,.of hfin u (by show e.T.length=(a.I++[a.B]).length;rw[s];simp) (st01 ((a.I++[a.B]).length=0)).1 (st01 ((a.I++[a.B]).length=0)).2⟩
 have e0:dR a b=(a,3):=by unfold dR;rw[M j,M m]
 have k:dR d b=(d,3):=by unfold dR;rw[M j,M m]
 rw[e0,k];exact⟨λ_=>rfl,λg=>by simp at g⟩
def afp{a d:Z}(h:Nn a d c)(m:a.T=[]/\a.on=false)(n:a.H=19)(b:Int)(o:Prop):Nt (jL a b) (jL d b) o:=by
 unfold jL;split
 .exact⟨λ_=>rfl,λg=>by simp at g⟩
 refine⟨λg=>aj6 rfl g,λ_=>.inl ⟨rfl,?_⟩⟩;have p:=h.eq;have q:d.on=true:=by rw[p];rfl
 have w:=h.sl n;have e:d.B=a.B/\d.F=a.F/\d.I=a.I:=by rw[p];exact⟨rfl,rfl,rfl⟩
 obtain⟨D,E⟩:=RQ m.1 m.2;obtain⟨F,G⟩:=RP q;have r:=oW a;have t:=oW d;have x:=Rw (s:=bX a) (by rw[r];exact m.1) (by rw[r];exact m.2) a.B;have f:=RR (s:=bX d) (by rwa[t]) d.B;have y:=sN (bX a) a.B;have z:=sN (bX d) d.B;have i:(bX d).m=d.m/\(bX d).T=d.T:=by rw[t];exact⟨rfl,rfl⟩
 have H:(bZ (bX a) a.B).m=(bZ (bX a) a.B).m:=rfl;obtain⟨C,u⟩:=aj8 (wC ⟨d.m,d.T⟩);rw[i.1,i.2,<-u]at f;have j:d.T.length=a.I.length+1:=by
  have A:=RL (sn c.m c.T d.C a);have:rR ⟨(sn c.m c.T d.C a).m,(sn c.m c.T d.C a).T⟩ (sn c.m c.T d.C a).B (sn c.m c.T d.C a).f=some (⟨d.m,d.T⟩,d.f):=w;rw[this]at A;obtain⟨k,_⟩|⟨B,l,k,_,I⟩:=A
  .cases k
  have K:B=⟨d.m,d.T⟩:=(congrArg Prod.fst (Option.some.inj k)).symm;have L:B.T.length=c.T.length+1:=I;rwa[K,h.ln]at L
 have N:wT (bX a)=(bX a).C:=by rw[wT,J<|by rw[E];rfl]
 have O:wT (bX d)=(bX d).C:=by rw[wT,J<|by rw[G];rfl]
 have P:KR (bX a).C ⟨d.m,d.T⟩ (bX d).C:=by
  rw[D,F,e.1];refine(h.re.F e.2.1).more ?_;rw[qZ,J rfl,w]
 have Q:KR (bZ (bX a) a.B).C C (bZ (bX d) d.B).C:=by
  have R:(Mk.aX (bX a) ⟨2,a.B,[],[],[]⟩).C=(bX a).C++[⟨2,a.B,[],[],[]⟩]:=by rw[uX,N]
  rw[x.1,f.1,R,O];refine P.more ?_;rw[qZ,M (show ¬(2:Int)=1 by decide),J rfl,M (λg=>by have g:d.T=[]:=g;rw[g]at j;simp at j),u,e.1]
 rw[x.2]at y;rw[f.2.1,f.2.2.1,f.2.2.2]at z;have hfin:{bZ (bX d) d.B with B:=[]}=sn C.m C.T (bZ (bX d) d.B).C {bZ (bX a) a.B with B:=[]}:=by
  generalize(bZ (bX d) d.B).C=T at *;generalize(bZ (bX a) a.B).C=W at *;generalize(bZ (bX a) a.B).m=X at *;generalize(bZ (bX a) a.B).T=S at *;rw[z,y,t,r];conv=>lhs;rw[p]
  rfl
 have v:=RS (bX a) a.B;refine⟨C,.of hfin Q ?_ ?_ ?_⟩
 .show C.T.length=(bZ (bX a) a.B).I.length;rw[v.1,afo,u];show(d.T.dropLast).length=a.I.length;rw[uo];omega
 .show(bZ (bX a) a.B).H≠19;rw[v.2];exact(st01 _).1
 show ¬9<=(bZ (bX a) a.B).H;rw[v.2];exact(st01 _).2
def RU{a d:Z}(h:Nn a d c)(o:a.T=[]/\a.on=false)(t:a.I≠[])(u:a.H=20\/a.H=21)(b:Int)(j:Prop):Nt (gh a b) (gh d b) j:=by
 have i:=h.ai (by omega);unfold gh;split
 .refine h.same (by omega) ?_ (λ_=>.far<|by show(21:Int)≠19/\¬((9:Int)<=21/\(21:Int)<=11);decide) λ_=>.of rfl rfl rfl rfl rfl rfl rfl;conv=>lhs;rw[i]
  rfl
 split
 .refine⟨λg=>aj6 rfl g,λ_=>.inl ⟨rfl,?_⟩⟩;have k:d.on=true:=by rw[i];rfl
  have e:bP d=bP a/\d.F=a.F/\d.I=a.I:=by rw[i];exact⟨rfl,rfl,rfl⟩
  have p:=Rw (s:={a with I:=a.I.dropLast}) o.1 o.2 (bP a);have f:=RR (s:={d with I:=d.I.dropLast}) k (bP d);have q:=sN {a with I:=a.I.dropLast} (bP a);have r:=sN {d with I:=d.I.dropLast} (bP d);obtain⟨z,v,w⟩:=h.A (by omega);have l:(⟨({d with I:=d.I.dropLast}:Z).m,({d with I:=d.I.dropLast}:Z).T⟩:Sc)=c:=by show(⟨d.m,d.T⟩:Sc)=c;rw[v,w]
  rw[l]at f;have m:c.T≠[]:=λg=>by have:=h.ln;rw[g]at this;exact t (length_eq_zero_iff.1 this.symm)
  have x:KR (bZ {a with I:=a.I.dropLast} (bP a)).C (wC c) (bZ {d with I:=d.I.dropLast} (bP d)).C:=by
   rw[p.1,f.1,uX];refine KR.more (c:=c) ?_ ?_
   .exact h.re.F e.2.1
   unfold qZ;rw[M (show ¬(2:Int)=1 by decide),J rfl,M m,e.1]
  rw[p.2]at q;rw[f.2.1,f.2.2.1,f.2.2.2]at r;have hfin:kH d=sn (wC c).m (wC c).T (bZ {d with I:=d.I.dropLast} (bP d)).C (kH a):=by
   unfold kH;generalize(bZ {d with I:=d.I.dropLast} (bP d)).C=A at *;generalize(bZ {a with I:=a.I.dropLast} (bP a)).C=B at *;generalize(bZ {a with I:=a.I.dropLast} (bP a)).m=C at *;generalize(bZ {a with I:=a.I.dropLast} (bP a)).T=y at *;rw[r,q];conv=>lhs;rw[i]
   rfl
  have n:=RS {a with I:=a.I.dropLast} (bP a);refine⟨wC c,.of hfin x ?_ ?_ ?_⟩
  .show(c.T.dropLast).length=(bZ {a with I:=a.I.dropLast} (bP a)).I.length;rw[n.1,uo,uo,h.ln]
  .show(bZ {a with I:=a.I.dropLast} (bP a)).H≠19;rw[n.2];exact(st01 _).1
  show ¬9<=(bZ {a with I:=a.I.dropLast} (bP a)).H;rw[n.2];exact(st01 _).2
 exact⟨λ_=>rfl,λg=>by simp at g⟩
inductive xU(s:Z)(c:Sc)(b:Int)(z:Z):Prop
 |gt (s' :Z):b=62->rR c s'.B s'.f=none->s'.T=[]->s'.on=false->wT s' =wT s->z=gL s' 62->xU s c b z
 |slash (s' :Z):b=47->rR c s'.B s'.f=none->wT s' =wT s->z={s' with H:=19}->xU s c b z
 |instr:b=63\/Mk.bJ b=true->Mk.cW s.i=true->z={bH s with B:=s.i,H:=if b==63 then 9 else 10}->xU s c b z
def Nt.bad{a c:Z×Int}{p q:Prop}(h:Nt a c p)(b:a.2=0->p->q):Nt a c q:=
 ⟨h.1,λg=>(h.2 g).imp id λ⟨d,e⟩=>⟨d,b g e⟩⟩
def JY{s' :Z}{b:Int}(f:s'.T=[])(g:s'.on=false)(a:wT s' =wT s){z:Z}(h:rR c s'.B s'.f=none/\(b=47\/b=62)/\z=gL s' b):xU s c b z:=by
 obtain⟨d,rfl|rfl,e⟩:=h
 .exact .slash s' rfl d a e
 exact .gt s' rfl d f g a e
def afq{i s1:Z}(p:W i)(m:V i)(h:Nn i s1 c)(b:Int):Nt (aP i b) (aP s1 b) (xU i c b (aP i b).1):=by
 have n:Io i:=λg=>p.o1 (by omega);have l:s1.H=i.H/\s1.t=i.t/\s1.rp=i.rp:=by rw[h.eq];exact⟨rfl,rfl,rfl⟩
 by_cases w:0<i.t
 .have e0:aP i b=fT i b:=by unfold aP;rw[J w]
  have q:aP s1 b=fT s1 b:=by unfold aP;rw[J<|by rwa[l.2.1]]
  have x:=(p.t w).1;have C:=h.ai (by omega);have e:=aeS (d:=c.m) (a:=c.T) (t:=s1.C) i b;rw[<-C]at e;rw[e0,q];exact h.same (by omega) e (λ_=>.stay (by omega) (ae7 i b)) λ_=>aeA n b
 have y:i.t=0:=by have:=p.p0;omega
 cases v:aZ i.rp
 .obtain⟨f,D,A⟩:=RB p.st y v b;have e0:=A i rfl y v;have q:=A s1 l.1 (by rwa[l.2.1]) (by rwa[l.2.2]);rw[e0,q];have j:i.H≠19->s1=sn c.m c.T s1.C i:=h.ai;cases D with
  |r0 g=>exact h.same (by omega) (by have e:=aeU (d:=c.m) (a:=c.T) (t:=s1.C) i b;rwa[<-j<|by omega]at e) (λ_=>ae9 g b) λ_=>aeG i b
  |r1 g=>exact h.same (by omega) (by have e:=aeZ (d:=c.m) (a:=c.T) (t:=s1.C) g b;rwa[<-j<|by omega]at e) (λ_=>ae_ g b) λ_=>aeF n b
  |r2 g=>exact h.same (by omega) (by have e:=ae0 (d:=c.m) (a:=c.T) (t:=s1.C) g b;rwa[<-j<|by omega]at e) (λ_=>afa g b) λ_=>aeE n b
  |r3 g=>exact h.same (by omega) (by have e:=ae1 (d:=c.m) (a:=c.T) (t:=s1.C) i b;rwa[<-j<|by omega]at e) (afb g b) λ_=>aeH b
  |r4 g=>exact h.same (by omega) (by have e:=aeV (d:=c.m) (a:=c.T) (t:=s1.C) i b;rwa[<-j<|by omega]at e) (λ_=>afc g b) λ_=>aeI i b
  |r5 g=>exact h.same (by omega) (by have e:=aeW (d:=c.m) (a:=c.T) (t:=s1.C) i b;rwa[<-j<|by omega]at e) (λ_=>afd g b) λ_=>aeJ i b
  |r6 g=>exact h.same (by omega) (by have e:=aeX (d:=c.m) (a:=c.T) (t:=s1.C) i b;rwa[<-j<|by omega]at e) (λ_=>afe g b) λ_=>aeK i b
  |r7 g=>exact afj h n g b _
  |r8 g=>exact(afn h m.on g b).bad λ_ ⟨_,E,F,G⟩=>.instr F E G
  |r9 g=>exact afl h g b _
  |JF g=>exact afm h g b _
  |JG g=>exact RJ h g b _
  |JH g=>
   by_cases o:Mk.eD b=true
   .have r:iP i b=fS i b:=by unfold iP;rw[J o]
    have u:iP s1 b=fS s1 b:=by unfold iP;rw[J o]
    rw[r,u];refine h.same (by omega) (by have e:=RE (d:=c.m) (a:=c.T) (t:=s1.C) i b;rwa[<-j<|by omega]at e) (λ_=>?_) λ_=>?_
    .unfold fS;split
     .exact .stay (by omega) (rS i b)
     exact .stay (by omega) ⟨rfl,rfl⟩
    unfold fS;split
    .exact sQ n b
    exact .of rfl rfl rfl rfl rfl rfl rfl
   .have r:iP i b=dR {bH i with B:=i.i} b:=by unfold iP;rw[M o]
    have u:iP s1 b=dR {bH s1 with B:=s1.i} b:=by unfold iP;rw[M o]
    have H:{bH s1 with B:=s1.i}=sn c.m c.T s1.C {bH i with B:=i.i}:=by
     conv=>lhs;rw[j<|by omega]
     rfl
    have I:Nn {bH i with B:=i.i} (sn c.m c.T s1.C {bH i with B:=i.i}) c:=⟨h.toNm.step (by omega) (z:={bH i with B:=i.i}) (by show i.H≠19;omega) (.of rfl rfl rfl rfl rfl rfl rfl),λk=>by have k:9<=i.H/\i.H<=11:=k;omega⟩;rw[r,u,H];exact(JW I ⟨m.cn,m.on⟩ (by show i.H=12\/i.H=13\/i.H=18;omega) b).bad λ_ k=>JY (s:=i) (s' :={bH i with B:=i.i}) m.cn m.on (EW rfl rfl) k
  |JI g=>
   cases o:Mk.dP b
   .have r:gV i b=dR i b:=by unfold gV;rw[o];rfl
    have u:gV s1 b=dR s1 b:=by unfold gV;rw[o];rfl
    rw[r,u];exact(JW h ⟨m.cn,m.on⟩ (by omega) b).bad λ_ k=>JY m.cn m.on rfl k
   .refine h.same (by omega) (by have e:=ae2 (d:=c.m) (a:=c.T) (t:=s1.C) (s:=i) o;rwa[<-j<|by omega]at e) (λk=>?_) λk=>?_
    .unfold gV at k⊢;rw[M<|by rw[o];decide]at k⊢;split at k
     .simp at k
     rename_i K;rw[M K];refine .far ?_;dsimp only;rw[(rS _ _).1];show(14:Int)≠19/\¬((9:Int)<=14/\(14:Int)<=11);decide
    .unfold gV;rw[M<|by rw[o];decide];split
     .exact .of rfl rfl rfl rfl rfl rfl rfl
     .exact(Qt.of (s:=i) (s1:={i with H:=14}) rfl rfl rfl rfl rfl rfl rfl).trans (sQ (s:={i with H:=14}) (λg=>by exfalso;have g:(14:Int)=1\/(14:Int)=2:=g;omega) b)
  |JJ g=>exact h.same (by omega) (by have e:=ae3 (d:=c.m) (a:=c.T) (t:=s1.C) i b;rwa[<-j<|by omega]at e) (λ_=>aff g b) λ_=>aeM n b
  |JK g=>exact h.same (by omega) (by have e:=RD (d:=c.m) (a:=c.T) (t:=s1.C) i b;rwa[<-j<|by omega]at e) (λ_=>RH (by omega) b) λ_=>RA i b
  |r16 g=>exact h.same (by omega) (by have e:=aeY (d:=c.m) (a:=c.T) (t:=s1.C) i b;rwa[<-j<|by omega]at e) (λ_=>afg g b) λ_=>aeN i b
  |JL g=>exact h.same (by omega) (by have e:=ae4 (d:=c.m) (a:=c.T) (t:=s1.C) i b;rwa[<-j<|by omega]at e) (λ_=>afh g b) λ_=>aeO n b
  |JM g=>exact(JW h ⟨m.cn,m.on⟩ (by omega) b).bad λ_ k=>JY m.cn m.on rfl k
  |JN g=>exact afp h ⟨m.cn,m.on⟩ g b _
  |JO g=>
   have B:s1.aW=i.aW/\bP s1=bP i:=by rw[j<|by omega];exact⟨rfl,rfl⟩
   unfold iC;rw[B.1,B.2];split
   .split
    .exact⟨λ_=>rfl,λk=>by simp at k⟩
    refine h.same (by omega) ?_ (λ_=>.stay (by omega) ⟨rfl,rfl⟩) λ_=>.of rfl rfl rfl rfl rfl rfl rfl;conv=>lhs;rw[j<|by omega]
    rfl
   .split
    .exact⟨λ_=>rfl,λk=>by simp at k⟩
    .exact RU h ⟨m.cn,m.on⟩ (p.o1<|by omega) (by omega) b _
  |JP g=>exact RU h ⟨m.cn,m.on⟩ (p.o1<|by omega) (by omega) b _
 have e0:aP i b=fD i b:=by unfold aP;rw[M w,J v]
 have q:aP s1 b=fD s1 b:=by unfold aP;rw[M<|by rwa[l.2.1],J<|by rwa[l.2.2]]
 have x:=(p.rf v).1;have e:=aeT (d:=c.m) (a:=c.T) (t:=s1.C) i b;rw[<-(h.ai<|by omega)]at e;rw[e0,q];exact h.same (by omega) e (λ_=>.stay (by omega) (ae8 i b)) λ_=>aeB n b
def Nn.mv{a:Z}(h:Nn a b c)(r:Bool)(l k p e:Int):Nn {a with O:=r,K:=l,aN:=k,A:=p,j:=e} {b with O:=r,K:=l,aN:=k,A:=p,j:=e} c:=by
 refine⟨⟨?_,λg=>h.A g,h.re,h.ln,λg=>h.sl g⟩,λg=>h.ic g⟩;conv=>lhs;rw[h.eq]
 rfl
def Nn.xV{a:Z}(h:Nn a b c):b.O=a.O/\b.K=a.K/\b.aN=a.aN/\b.A=a.A/\b.j=a.j/\b.t=a.t/\b.I=a.I/\b.over=a.over/\b.H=a.H/\b.F=a.F:=by
 rw[h.eq];exact⟨rfl,rfl,rfl,rfl,rfl,rfl,rfl,rfl,rfl,rfl⟩
def Nn.place{d a:Z}(h:Nn d a c)(b:Int):Nn (gX d b) (gX a b) c:=by
 obtain⟨f,g,k,i,j,l,_⟩:=h.xV;have m:(a.t==0)=(d.t==0):=by rw[l]
 unfold gX;rw[m];split
 .have:=h.mv a.O (a.K+1) 1 a.A a.j;have e:({d with O:=a.O,K:=a.K+1,aN:=1,A:=a.A,j:=a.j}:Z)={d with K:=d.K+1,aN:=1}:=by rw[f,g,i,j]
  rwa[e]at this
 split
 .have:=h.mv a.O a.K (a.aN+1) a.A a.j;have e:({d with O:=a.O,K:=a.K,aN:=a.aN+1,A:=a.A,j:=a.j}:Z)={d with aN:=d.aN+1}:=by rw[f,g,k,i,j]
  rwa[e]at this
 exact h
def BZ(s:Z)(b:Int):(cV s b).2≠8:=by unfold cV;(repeat' split)<;>simp
def afW(s:Z)(b:Int):(fT s b).2≠8:=by unfold fT;(repeat' split)<;>simp
def afX(s:Z)(b:Int):(fD s b).2≠8:=by unfold fD;(repeat' split)<;>simp
def Ka(h:s.on=false)(b:Int):(dR s b).2≠8:=by rw[dR,ia,h];(repeat' split)<;>simp_all
def Sg(s:Z)(b:Int):(fI s b).2≠8:=by unfold fI;(repeat' split)<;>simp
def Si(s:Z)(b:Int):(gh s b).2≠8:=by unfold gh;(repeat' split)<;>simp
def Sj(s:Z)(b:Int):(dN s b).2≠8:=by unfold dN;(repeat' split)<;>simp[BZ]
def afY(d:W s)(a:s.on=false)(b:Int):(aP s b).2≠8:=by
 by_cases e:0<s.t
 .have e0:aP s b=fT s b:=by rw[aP,J e]
  rw[e0];exact afW s b
 have h:s.t=0:=by have:=d.p0;omega
 cases c:aZ s.rp
 .obtain⟨f,i,j⟩:=RB d.st h c b;rw[j s rfl h c];cases i with
  |r0 g=>unfold Mk.h_;(repeat' split)<;>simp
  |r1 g=>unfold Mk.fw;(repeat' split)<;>simp[BZ]
  |r2 g=>unfold Mk.fH;(repeat' split)<;>simp[BZ]
  |r3 g=>unfold Mk.eG Mk.mg;(repeat' split)<;>simp
  |r4 g=>unfold Mk.gF;(repeat' split)<;>simp
  |r5 g=>unfold Mk.iO;(repeat' split)<;>simp
  |r6 g=>unfold Mk.dQ;(repeat' split)<;>simp
  |r7 g=>unfold Mk.fu;(repeat' split)<;>simp[BZ]
  |r8 g=>unfold Mk.cN fS;rw[a];(repeat' split)<;>simp_all
  |r9 g=>unfold Mk.jD;(repeat' split)<;>simp
  |JF g=>unfold Mk.jK;(repeat' split)<;>simp[Sj]
  |JG g=>exact Sj s b
  |JH g=>
   unfold iP fS;split
   .split<;>simp
   .exact Ka (s:={bH s with B:=s.i}) a b
  |JI g=>unfold gV;(repeat' split)<;>simp[Ka a b]
  |JJ g=>unfold Mk.fU Mk.mh;(repeat' split)<;>simp[Sg]
  |JK g=>exact Sg s b
  |r16 g=>unfold Mk.gW;(repeat' split)<;>simp
  |JL g=>unfold Mk.fA;(repeat' split)<;>simp[BZ]
  |JM g=>exact Ka a b
  |JN g=>unfold jL;(repeat' split)<;>simp
  |JO g=>unfold iC;(repeat' split)<;>simp[Si]
  |JP g=>exact Si s b
 have e0:aP s b=fD s b:=by rw[aP,M e,J c]
 rw[e0];exact afX s b
def Sk(x:UInt8)(b:Int):Prop:=b=(x.toNat:Int)\/((x.toNat:Int)=13/\b=10)
def Bad(d:Z)(x:UInt8)(c:Sc)(z:Z):Prop:=∃b r a l k,Sk x b/\xU {d with A:=d.A+1,O:=r} c b a/\z={a with K:=l,aN:=k,j:=0}
def afZ{d f:Z}(m:W d)(n:V d)(h:Nn d f c)(b:Int):
 ((eY d b).2≠0->(eY f b).2=(eY d b).2/\(eY d b).2≠8)/\((eY d b).2=0->((eY f b).2=0/\∃c,Nn (eY d b).1 (eY f b).1 c)\/((eY f b).2=8/\∃a l k,xU d c b a/\(eY d b).1={a with K:=l,aN:=k})):=by
 have o:=afq m n h b;unfold eY;by_cases g:(aP d b).2=0
 .rw[J g];refine⟨λk=>aj6 rfl k,λ_=>?_⟩;obtain⟨i,p,j⟩|⟨i,j⟩:=o.2 g
  .left;rw[J i];exact⟨rfl,p,j.place b⟩
  right;rw[M<|by rw[i];decide];obtain⟨l,k,e⟩:=Jm (aP d b).1 b;exact⟨i,_,l,k,j,e⟩
 rw[M g];have e:=o.1 g;rw[M<|by rwa[e]];exact⟨λ_=>⟨e,(afY m n.on b)⟩,λk=>aj6 k g⟩
def af0{f d:Z}(D:W f)(E:V f)(h:Nn f d c)(o:f.j=0)(x:UInt8):
 ((aS f x).j≠0->(aS d x).j=(aS f x).j/\(aS f x).j≠8)/\((aS f x).j=0->((aS d x).j=0/\∃c,Nn (aS f x) (aS d x) c)\/((aS d x).j=8/\Bad f x c (aS f x))):=by
 obtain⟨u,v,w,y,z,S,T,X,f9,F⟩:=h.xV;have i:d.j=0:=z.trans o;have j:∀(r:Bool) (b:Int),Sk x b->aS f x={(eY {f with A:=f.A+1,O:=r} b).1 with j:=(eY {f with A:=f.A+1,O:=r} b).2}->aS d x={(eY {d with A:=d.A+1,O:=r} b).1 with j:=(eY {d with A:=d.A+1,O:=r} b).2}->
  ((aS f x).j≠0->(aS d x).j=(aS f x).j/\(aS f x).j≠8)/\((aS f x).j=0->((aS d x).j=0/\∃c,Nn (aS f x) (aS d x) c)\/((aS d x).j=8/\Bad f x c (aS f x))):=by
  intro r b G e0 A;have H:Nn {f with A:=f.A+1,O:=r} {d with A:=d.A+1,O:=r} c:=by
   have:=h.mv r d.K d.aN (d.A+1) d.j;have e:({f with O:=r,K:=d.K,aN:=d.aN,A:=d.A+1,j:=d.j}:Z)={f with A:=f.A+1,O:=r}:=by rw[v,w,y,z]
   rwa[e]at this
  have B:=afZ (D.at (f.A+1) r) (E.at (f.A+1) r) H b;have I:(aS f x).j=(eY {f with A:=f.A+1,O:=r} b).2:=by rw[e0]
  have K:(aS d x).j=(eY {d with A:=d.A+1,O:=r} b).2:=by rw[A]
  rw[I,K];refine⟨B.1,λg=>?_⟩;obtain⟨p,L,q⟩|⟨p,a,l,k,q,N⟩:=B.2 g
  .refine .inl ⟨p,L,?_⟩;rw[e0,A,g,p];obtain⟨O,P,Q,R,q5,_⟩:=q.xV;have:=q.mv (eY {d with A:=d.A+1,O:=r} b).1.O (eY {d with A:=d.A+1,O:=r} b).1.K (eY {d with A:=d.A+1,O:=r} b).1.aN (eY {d with A:=d.A+1,O:=r} b).1.A 0;generalize(eY {d with A:=d.A+1,O:=r} b).1=s at *;generalize(eY {f with A:=f.A+1,O:=r} b).1=C at *;have e:({C with O:=s.O,K:=s.K,aN:=s.aN,A:=s.A,j:=0}:Z)={C with j:=0}:=by rw[O,P,Q,R]
   rwa[e]at this
  refine .inr ⟨p,b,r,a,l,k,G,q,?_⟩;rw[e0,g,N]
 by_cases t:(x.toNat:Int)=10/\f.O=true
 .rw[RV o t,RV i<|by rwa[u]];refine⟨λg=>aj6 rfl g,λ_=>.inl ⟨rfl,c,?_⟩⟩;have:=h.mv false d.K d.aN (d.A+1) 0;have e:({f with O:=false,K:=d.K,aN:=d.aN,A:=d.A+1,j:=0}:Z)={f with A:=f.A+1,O:=false,j:=0}:=by rw[v,w,y]
  rwa[e]at this
 have m:¬((x.toNat:Int)=10/\d.O=true):=by rwa[u]
 by_cases n:(x.toNat:Int)=13
 .exact j true 10 (.inr ⟨n,rfl⟩) (RX o t n) (RX i m n)
 exact j false x.toNat (.inl rfl) (RY o t n) (RY i m n)
def Sm{x:UInt8}(h:s.j=0):(aS s x).A=s.A+1:=by
 rw[aS,J h];exact GI _ _
def Sn:∀(D:U) {a b:Z} {c:Sc},W a->V a->Nn a b c->a.j=0->
 (∃c p,p<+:D/\Nn (aQ a p) (aQ b p) c/\(aQ a p).j=0/\wT (aQ a D)=wT (aQ a p)/\wT (aQ b D)=wT (aQ b p)/\(aQ b D).j=(aQ a D).j/\(aQ a D).j≠8/\(aQ b D).A=(aQ a D).A/\((aQ a D).j=0->p=D))
 \/(∃c p x q,D=p++x::q/\Nn (aQ a p) (aQ b p) c/\(aQ a p).j=0/\(aQ a (p++[x])).j=0/\(aQ b (p++[x])).j=8/\Bad (aQ a p) x c (aQ a (p++[x])))
 |[],a,b,c,j,l,h,d=>.inl ⟨c,[],prefix_refl _,h,d,rfl,rfl,h.xV.2.2.2.2.1,by show a.j≠8;rw[d];decide,h.xV.2.2.2.1,λ_=>rfl⟩
 |x::r,a,b,c,j,l,h,d=>by
  have v:=af0 j l h d x;have f:b.j=0:=h.xV.2.2.2.2.1.trans d;by_cases g:(aS a x).j=0
  .rcases v.2 g with⟨e,H,i⟩|⟨e,i⟩
   .rcases Sn r (QI j x g) (aeQ j l d x g) i g with⟨m,p,A,n,o,s,t,u,B,C,E⟩|⟨m,p,y,q,F,n,o,s,t,u⟩
    .exact .inl ⟨m,x::p,cons_prefix_cons.2 ⟨rfl,A⟩,n,o,s,t,u,B,C,λk=>by rw[E k]⟩
    exact .inr ⟨m,x::p,y,q,by rw[F];rfl,n,o,s,t,u⟩
   exact .inr ⟨c,[],x,r,rfl,h,d,g,e,i⟩
  obtain⟨e,i⟩:=v.1 g;left;have e0:aQ a (x::r)=aS a x:=JX r _ g;have G:aQ b (x::r)=aS b x:=JX r _ (by rwa[e]);have w:=J_ a x d g;have z:=J_ b x f (by rwa[e]);rw[e0,G];exact⟨c,[],nil_prefix,h,d,EW w.1 w.2,EW z.1 z.2,e,i,by rw[Sm f,Sm d,h.xV.2.2.2.1],λk=>aj6 k g⟩
def af2(d a t:Int):Nn (bB d a t false) (bB d a t true) Sc.zero:=
 ⟨⟨rfl,λ_=>⟨rfl,rfl,rfl⟩,rfl,rfl,λg=>aj6 (show(0:Int)=19 from g) (by decide)⟩,λg=>aj6 (show(9:Int)<=0 from g.1) (by decide)⟩
def oK(b:UInt8):U:=if b=60 then[38,108,116,59]else if b=62 then[38,103,116,59]else if b=38 then[38,97,109,112,59]else if b=13 then[38,35,49,51,59]else[]
def qF(b:UInt8):U:=if b=34 then[38,113,117,111,116,59]else if b=9 then[38,35,57,59]else if b=10 then[38,35,49,48,59]else oK b
def either(b:UInt8)(r:U):U:=if r=[]then[b]else r
def nJ(v:U):U:=v.flatMap λb=>either b (oK b)
def nK(v:U):U:=v.flatMap λb=>either b (qF b)
def jQ(n v:U):U:=32::n++[61,34]++nK v++[34]
def m_(p:U):U:=if p=[]then fR else fR++[58]++p
def pM(e:Ev)(c:List Ev):U:=60::e.B++c.flatMap (λb=>jQ (m_ b.B) b.val)++e.f.flatMap (λa=>jQ a.B a.val)++[62]
def ng(e:Ev):U:=
 if e.kind=2 then[60,47]++e.B++[62]
 else if e.kind=3 then nJ e.val
 else if e.kind=4 then[60,33,45,45]++e.val++[45,45,62]
 else if e.kind=5 then[60,63]++e.B++(if e.val=[]then[]else 32::e.val)++[63,62]
 else[]
def nX(a:List Ev):List Ev->U
 |[]=>[]
 |e::r=>if e.kind=6 then nX (a++[e]) r else if e.kind=1 then pM e a++nX [] r else ng e++nX [] r
def gq(l:List Ev):U:=nX [] l
structure Vv where
 od:Int
 oa:Int
 S:Int
 st:Int
 op:List U
 ov:Bool
 tk:U
 ct:Int
 nm:U
 an:U
 ats:List aI
 hd:U
 li:List Ev
 tx:U
 qt:Int
 mt:Int
 pt:Option (Int×Int)
 rf:Option Mk.Rf
def af3(s:Z):Option (Int×Int)->Prop
 |none=>s.t=0
 |some p=>s.pc=p.1/\s.t=p.2/\0<p.2
def af4(s:Z):Option Mk.Rf->Prop
 |none=>aZ s.rp=false
 |some r=>s.rp=r.place/\s.rn=r.B/\s.rc=r.code/\aZ r.place=true
structure Is(s:Z)(v:Vv):Prop where
 en:s.j=0
 rt:s.O=false
 on:s.on=false
 cn:s.T=[]
 od:s.od=v.od
 oa:s.oa=v.oa
 S:s.S=v.S
 st:s.H=v.st
 op:s.I=v.op
 ov:s.over=v.ov
 tk:s.i=v.tk
 ct:s.G=v.ct
 nm:s.B=v.nm
 an:s.attr=v.an
 ats:s.f=v.ats
 hd:s.D=v.hd
 li:s.C=v.li
 tx:s.F=v.tx
 qt:s.aj2=v.qt
 mt:s.aW=v.mt
 pt:af3 s v.pt
 rf:af4 s v.rf
def Quiet(v:Vv):Prop:=v.pt=none/\v.rf=none
def inT(v:Vv):Bool:=v.st==1||v.st==2
def pv(v:Vv)(c:Int):Vv:=if inT v then{v with tx:=v.tx++dB c}else{v with tk:=v.tk++dB c,ct:=v.ct+1}
def af5(a b:U):nJ (a++b)=nJ a++nJ b:=nB
def af6(a b:U):nK (a++b)=nK a++nK b:=nB
variable {d a t:Int}{o:List U}{ov:Bool}{li:List Ev}{tx:U}{q m:Int}
end
section
open Mk
end
namespace Q
open Rf
open Mk hiding Rf
variable {a:Int}
def ajh(b:UInt8):vk b=either b (oK b):=by
 unfold vk either oK;by_cases a:b=60
 .simp[a]
 by_cases c:b=62
 .simp[c]
 by_cases d:b=38
 .simp[d]
 by_cases e:b=13
 .simp[e]
 simp[a,c,d,e]
def aji(b:UInt8):xB b=either b (qF b):=by
 by_cases a:b=60
 .subst a;decide
 by_cases c:b=62
 .subst c;decide
 by_cases d:b=38
 .subst d;decide
 by_cases f:b=13
 .subst f;decide
 have e:vk b=[b]:=by simp[vk,a,c,d,f]
 rw[xB,e];unfold either qF oK;by_cases g:b=34
 .simp[g]
 by_cases h:b=9
 .simp[h]
 by_cases i:b=10
 .simp[i]
 simp[a,c,d,f,g,h,i]
def ajj(v:U):lH v false=nJ v:=by
 unfold lH nJ;congr 1
 funext b;exact ajh b
def Vs(v:U):lH v true=nK v:=by
 unfold lH nK;congr 1
 funext b;exact aji b
def ajk(a:aI):qb a=jQ a.B a.val:=by
 rw[qb,jQ,Vs];simp
def ajl(e:Ev):nG e=jQ (m_ e.B) e.val:=by
 rw[nG,jQ,Rf.Bo,m_,Vs];split<;>simp[Mk.fR]
def ajm(e:Ev)(c:List Ev)(h:e.kind=1):Rf.one (c.flatMap λb=>jQ (m_ b.B) b.val) e=pM e c:=by
 rw[Rf.one,J h];unfold Rf.tag pM;have:(e.f.flatMap qb)=e.f.flatMap λa=>jQ a.B a.val:=by
  congr 1
  funext a;exact ajk a
 rw[this];simp
def Vt(e:Ev)(x:U)(h:e.kind≠1):Rf.one x e=ng e:=by
 rw[Rf.one,ng,M h,ajj];simp
def FM:∀(l:List Ev) (a:List Ev) (out:U),sG l (a.flatMap λb=>jQ (m_ b.B) b.val) out=out++nX a l
 |[],a,out=>by simp[sG,nX]
 |e::l,a,out=>by
  unfold sG nX;by_cases c:e.kind=6
  .rw[J c,J c];have h:=FM l (a++[e]) out;rw[nB]at h;simp only[mQ,Ay,aj1]at h;rw[<-ajl]at h;have e0:Rf.one (a.flatMap λb=>jQ (m_ b.B) b.val) e=[]:=by
    rw[Vt _ _<|by omega,ng,M,M,M,M]
   rwa[e0,aj1]
  rw[M c,M c];by_cases d:e.kind=1
  .rw[J d,ajm e a d];have h:=FM l [] (out++pM e a);rw[Ay]at h;rw[h,jB]
  rw[M d,Vt e _ d];have h:=FM l [] (out++ng e);rw[Ay]at h;rw[h,jB]
def ajn(l:List Ev):Rf.yC l=gq l:=by
 have:=FM l [] [];rwa[Ay,ul]at this
def ajo{b c:Int}{on:Bool}(o:Rf.lG a b c=true)(d:1<=a)(e:8<=c)(f:0<=b)(l:List Ev):
 ((aQ (bB a b c on) (gq l)).j=0/\fO (aQ (bB a b c on) (gq l))=true/\(bK (aQ (bB a b c on) (gq l))).C=l->tu a b c on l=(gq l,0))/\
 (¬((aQ (bB a b c on) (gq l)).j=0/\fO (aQ (bB a b c on) (gq l))=true/\(bK (aQ (bB a b c on) (gq l))).C=l)->tu a b c on l=([],11)):=by
 have i:((fN a b c on (gq l)).whole&&Rf.lZ (Rf.Ar (fN a b c on (gq l)).y) l)=true↔((aQ (bB a b c on) (gq l)).j=0/\fO (aQ (bB a b c on) (gq l))=true/\(bK (aQ (bB a b c on) (gq l))).C=l):=by
  rw[nQ,Rf.LB];obtain⟨p,q,u⟩|⟨n,t,v,w,j,_⟩:=yu (on:=on) d e f (gq l)
  .rw[q,<-(Lr u rfl rfl)];exact⟨λh=>⟨p,h⟩,λh=>h.2⟩
  constructor
  .rintro⟨h,_⟩;rw[j]at h;cases h
  rintro⟨r,s,x⟩;exfalso;have k:=Am (on:=on) d e f (gq l) r;rw[j]at k;have m:=k.2;rw[s]at m;cases m
 unfold tu;rw[o,J rfl,ajn];exact⟨λh=>J (i.2 h),λh=>M λg=>h (i.1 g)⟩
theorem ajq(b:List (U×U))(c:List Nat)(l:List Ev)(s:Z):Mk.rest (sn b c l s)=Mk.rest s:=rfl
def ajr{b a:Z}{c:Go.Proofs.YtmgfijllcdadgaaGreatDoor.Sc}(h:Nn b a c):Mk.rest a=Mk.rest b:=by
 by_cases d:b.H=19
 .have e:=h.eq;rw[e];have f:∀(x y:Z),x.H=19->y={x with f:=y.f}->Mk.rest y=Mk.rest x:=by
   intro x y hx g;rw[g];unfold Mk.rest Mk.dD Mk.jw Mk.qX Mk.iR Mk.kW;simp only[hx];rfl
  rw[<-ajq a.m a.T a.C b];exact f (sn a.m a.T a.C b) _ d rfl
 rw[h.toNm.ai d];rfl
def ajs{d t:Int}(l:1<=d)(h:8<=t)(m:0<=a)(n:a<=32)(T:U)(b:(aQ (bB d a t true) T).j=0):
 (aQ (bB d a t false) T).j=0/\Mk.rest (aQ (bB d a t true) T)=Mk.rest (aQ (bB d a t false) T):=by
 obtain⟨c,p,v,i,o,r,f,j,w,y,s⟩|⟨c,p,x,q,u,i,o,r,f,j⟩:=Sn T (BO d a t false l h n) (aeR d a t h m) (af2 d a t) rfl
 .have k:(aQ (bB d a t false) T).j=0:=by rwa[<-j]
  have g:=s k;subst g;exact⟨k,ajr i⟩
 exfalso;have e:T=(p++[x])++q:=by rw[u];simp
 rw[e,CJ,wN _ _<|by rw[f];decide,f]at b;exact aj6 b
def ajt{d e:Int}{g:Bool}(b:1<=d)(c:8<=e)(f:0<=a)(i:a<=32)(s:U)(j:(aQ (bB d a e g) s).j=0):
 vK d a e g s (Mk.rest (aQ (bB d a e g) s))=true:=by
 cases g with
 |false=>exact UQ b c f i s j
 |true=>
  obtain⟨k,l⟩:=ajs b c f i s j;have m:=Ju (zL _ (BO d a e true b c i) j);have h:=UQ b c f i s k;unfold vK at h⊢;rw[(Am b c f s j).1,FH,M,l];rw[(Am b c f s k).1,FH]at h;split at h
  .cases h
  exact h
