import Derived.Test.YtmgfijllcdadgaaGreatDoorNW32
import Derived.Test.YtmgfijllcdadgaaGreatDoorNW13
import Derived.Laws.CopyOwn
import Derived.Laws.Tables
import Derived.Deep.WholeRow
import Derived.Test.YtmgfijllcdadgaaGreatDoorNW11
set_option linter.unusedVariables false
set_option linter.unusedSimpArgs false
namespace Go.Proofs.YtmgfijllcdadgaaGreatDoor.U
open Go.RowKit
open Mk (Bs Ev aD)
open V
open Go.Proofs.Tryz
open Rf (kg)
variable {v:Value}{W W0:World}{x:kg}
def mF:Array Value:=#[.slice none 0 0,.int .i64 0,.bool false,.int .i64 0,.slice none 0 0,.int .i64 0,.int .i64 0]
def fZ(x:kg)(ea:Option Addr)(ec:Nat)(oa:Option Addr)(oc:Nat):Array Value:=#[.slice ea x.events.length ec,.int .i64 x.err,.bool x.whole,.int .i64 (x.at_:Int),.slice oa x.opn.length oc,.int .i64 x.line,.int .i64 x.column]
theorem LG:(Tryz.prog.info? 97).map (·.size)=some 7:=by kernel_rfl
theorem LH(x:kg)(a:Option Addr)(b:Nat)(oa:Option Addr)(c:Nat):∀v∈(fZ x a b oa c).toList,v.oneCell' =true:=by simp[fZ,Value.oneCell']
theorem uq(w:World)(x:kg)(a:Option Addr)(b:Nat)(oa:Option Addr)(c:Nat):
 (storeCells ⟨w.heap.size,0,none⟩ (fZ x a b oa c).toList 0).run Tryz.prog (w.alloc (.cells #[.slice none 0 0,.int .i64 0,.bool false,.int .i64 0,.slice none 0 0,.int .i64 0,.int .i64 0] 97))=.ok () (w.alloc (.cells (fZ x a b oa c) 97)):=
 run_storeCells_new (P:=Tryz.prog) w 97 _ (fZ x a b oa c) LG rfl (by simp[fZ,Value.oneCell'])
theorem uw(w:World)(g:Nat)(x:kg)(a:Option Addr)(b:Nat)(oa:Option Addr)(c:Nat)(d:w.heap[g]?=some (.cells mF 97 (0,0))):
 (storeCells ⟨g,0,none⟩ (fZ x a b oa c).toList 0).run Tryz.prog w=.ok () (w.setRow g (fZ x a b oa c)):=
 run_storeCells_from (P:=Tryz.prog) g 97 (fZ x a b oa c).toList 0 mF w d (by simp[fZ,mF]) (LH _ _ _ _ _)
structure CQ(n:Nat)(wx:World)(x:kg)(ea:Option Addr)(ec:Nat)(oa:Option Addr)(oc:Nat):Prop where
 ev:∃hi,bN n hi wx (.slice ea x.events.length ec) x.events
 nm:wx.ownsRow n 9 1 (.slice oa x.opn.length oc) x.opn.length (x.opn.map sv)
 lo:∀k,(Value.slice ea x.events.length ec).ownBlock=some k→n≤k
def pZ(W0 wx:World)(s:Value)(x:kg):Prop:=
 ∃g ea ec oa oc,s=.pointer (some ⟨g,0,none⟩)∧W0.heap.size≤g∧wx.heap[g]?=some (.cells (fZ x ea ec oa oc) 97 (0,0))∧CQ W0.heap.size wx x ea ec oa oc∧Below W0.heap.size W0 wx
theorem bN.xQ{d i:Nat}{w w' :World}{l:List Ev}(h:bN d i w v l){g:Nat}(m:∀k,k≠g→w'.heap[k]?=w.heap[k]?)(n:w.heap.size≤w'.heap.size)(s:∀a,v.ownBlock=some a→a≠g)(B:g<d):bN d i w' v l:=by
 obtain⟨a,c,p,t⟩:=h.form;refine⟨⟨a,c,p,fun k e=>?_⟩,h.len⟩;obtain⟨b,o,u,r,x,y,z⟩:=t k e;have f:b≠g:=s b (by rw[p,r];rfl);exact⟨b,o,u,r,Nat.lt_of_lt_of_le x n,fun j A=>by rw[fU (m b f)];exact y j A,z.keep (fun q C _ _=>m q (by omega)) n⟩
theorem CS{f:World}(j:pP W f v x):∃a b oa c,v=.agg (fZ x a b oa c)∧CQ W.heap.size f x a b oa c∧∀k,(Value.slice a x.events.length b).ownBlock=some k→W.heap.size≤k:=by
 obtain⟨n,vo,l,rfl,g,d,m,h⟩:=j;have e:l.length=x.events.length:=by rw[←g];simp
 obtain⟨a,b,rfl⟩:=b_ d;obtain⟨oa,c,rfl⟩:=b_ h;have i:=bN.of d m;rw[g,e]at i;refine⟨a,b,oa,c,by rw[e];rfl,⟨⟨_,i⟩,h,?_⟩,?_⟩;all_goals
  intro k q;rw[←e]at q;exact(World.ownsRow.lt d k q).1
theorem uy{b:World}(j:Below W0.heap.size W0 W)(n:pP W b v x)(l:Below W.heap.size W b):
 ∃d e oa f,v=.agg (fZ x d e oa f)∧pZ W0 (b.alloc (.cells (fZ x d e oa f) 97)) (.pointer (some ⟨b.heap.size,0,none⟩)) x:=by
 obtain⟨d,e,oa,f,p,m,r⟩:=CS n;have g:=j.size;have D:=l.size;obtain⟨s,t⟩:=m.ev;refine⟨d,e,oa,f,p,_,d,e,oa,f,rfl,by omega,heap_alloc_new b _,⟨⟨s,?_⟩,?_,fun k q=>by have:=r k q;omega⟩,(j.trans (l.mono g)).alloc (by omega) _⟩
 .have:=t.below (cZ b (.cells (fZ x d e oa f) 97));obtain⟨a,c,h,u⟩:=this.form;refine⟨⟨a,c,h,fun k i=>?_⟩,this.len⟩;obtain⟨w,o,y,z,A,B,C⟩:=u k i;exact⟨w,o,y,z,A,B,C.low g⟩
 exact nM (m.nm.alloc _) g
theorem uz{b:World}(s:Below W0.heap.size W0 W)(u:pP (W.alloc (.cells mF 97)) b v x)(i:Below (W.alloc (.cells mF 97)).heap.size (W.alloc (.cells mF 97)) b):
 ∃d e oa f,v=.agg (fZ x d e oa f)∧b.heap[W.heap.size]?=some (.cells mF 97 (0,0))∧pZ W0 (b.setRow W.heap.size (fZ x d e oa f)) (.pointer (some ⟨W.heap.size,0,none⟩)) x:=by
 obtain⟨d,e,oa,f,w,h,j⟩:=CS u;have l:=s.size;have y:=i.size;have t:b.heap[W.heap.size]?=some (.cells mF 97 (0,0)):=(i.block _ (by simp)).trans (heap_alloc_new W _);have m:(W.alloc (.cells mF 97)).heap.size=W.heap.size+1:=by simp
 rw[m]at y h j;obtain⟨z,A⟩:=h.ev;refine⟨d,e,oa,f,w,t,_,d,e,oa,f,rfl,l,setRow_heap _ _ _ _ _ _ t,⟨⟨z,?_⟩,?_,fun k q=>by have:=j k q;omega⟩,below_setRow ((s.alloc l _).trans (i.mono (by simp;omega))) l _⟩
 .have:=bN.xQ A (g:=W.heap.size) (fun k q=>setRow_other b W.heap.size k (fZ x d e oa f) q) (by simp) (fun k q=>by have:=j k q;omega) (by omega);obtain⟨a,c,n,B⟩:=this.form;refine⟨⟨a,c,n,fun k p=>?_⟩,this.len⟩;obtain⟨C,o,D,E,F,G,H⟩:=B k p;exact⟨C,o,D,E,F,G,H.low (by omega)⟩
 refine nM (fP (r:=⟨9,1,_,_,_⟩) h.nm fun k q=>setRow_other b W.heap.size k _ ?_) (show W0.heap.size≤W.heap.size+1 by omega);have:=(World.ownsRow.lt h.nm k q).1;omega
end Go.Proofs.YtmgfijllcdadgaaGreatDoor.U
namespace Go.Proofs.YtmgfijllcdadgaaGreatDoor
open Mk (St Bs Ev aD)
open Mk (gm dR dX dY jK eP cQ cW ja lM fJ eT Pp iq iy aY gN gq fu dM dO ju iP fw)
variable {s:St}{b:Int}{n:Bs}
def iG(c l:Int):Prop:=(l=1∧2≤c∧(c<864∨895<c)∧c≤17407)∨(l=2∧0≤c∧c≤271)∨(l=3∧0≤c∧c≤4)
def uD:List Bs:=[[108],[108,116],[103],[103,116],[97],[97,109],[97,109,112],[113],[113,117],[113,117,111],[113,117,111,116],[97,112],[97,112,111],[97,112,111,115]]
def oz(p:Int)(n:Bs)(c:Int):Prop:=
 (p=1∧n=[])∨(p=2∧n∈uD)∨((p=3∨p=4)∧c=0)∨((p=5∨p=6)∧0≤c∧c≤1114111)
def jV(t:Int)(n:Bs):Prop:=(∀x∈n,gm (x.toNat:Int)=true)∧(n.length:Int)≤t
structure W(s:St):Prop where
 st:0≤s.state∧s.state≤21
 o0:s.state=0→s.opn=[]
 o1:(s.state=1∨s.state=2∨s.state=6∨s.state=20∨s.state=21)→s.opn≠[]
 ov:s.over=true→s.opn=[]∧¬(12≤s.state∧s.state≤19)
 p0:0≤s.pl
 pl:0<s.pl→(s.state=1∨s.state=2∨s.state=7∨s.state=11∨s.state=17)∧s.held=[]∧iG s.pc s.pl∧Mk.isOpen s.rp=false
 rf:Mk.isOpen s.rp=true→(s.state=1∨s.state=17)∧oz s.rp s.rn s.rc
 hs:Hs s.state s.held
 m6:s.state=6→0≤s.matched∧s.matched<6
 lI:s.state=20→0≤s.matched∧s.matched≤(Mk.innermost s).length
 tk:s.state≠7→s.state≠8→s.state≠11→s.state≠12→s.state≠14→s.state≠17→s.token=[]∧s.count=0
 c8:(s.state=8∨s.state=12∨s.state=14)→s.count=s.token.length
 gD:s.state=14→(Mk.Pu s s.token=true→s.count+1≤s.ot)∧s.aC.length<s.oa
 oC:s.state=17→s.quote=34∨s.quote=39
 bd:1≤s.od∧8≤s.ot∧s.oa≤32
 dQ:¬(13≤s.state∧s.state≤19)→s.aC=[]
 rq:∀n∈s.opn,jV s.ot n
 gM:s.state=12→jV s.ot s.token
 jh:13≤s.state→s.state≤19→jV s.ot s.name
 dp:(s.opn.length:Int)≤s.od
 iV:12≤s.state→s.state≤19→(s.opn.length:Int)<s.od
 q0:0≤s.quote∧s.quote≤255
theorem xR(s:St)(n:Bs):dR s n={s with list:=(dR s n).list,text:=(dR s n).text,aG:=(dR s n).aG,cnt:=(dR s n).cnt,over:=decide (s.opn.length=0),state:=if s.opn.length=0 then 0 else 1}:=by
 have e0:=kG s ⟨2,n,Mk.aZ s n,[],[]⟩;have a:=sF (Mk.cG (Mk.add s ⟨2,n,Mk.aZ s n,[],[]⟩)).reverse (Mk.add s ⟨2,n,Mk.aZ s n,[],[]⟩);unfold dR Mk.eD Mk.resume;rw[a];rw[e0];rfl
theorem ru(b:Int)(h:b<128):Mk.encode b=[Mk.u8 b]:=by unfold Mk.encode Mk.eO;rw[if_pos h];rfl
theorem CU(h:dX s=true)(c:Int):Mk.put s c={s with text:=s.text++Mk.encode c}:=by unfold Mk.put;rw[if_pos h]
theorem oD(h:dX s=false)(c:Int):Mk.put s c={s with token:=s.token++Mk.encode c,count:=s.count+1}:=by unfold Mk.put;rw[h];rfl
theorem xS(s:St)(c:Int):∃x t n,Mk.put s c={s with text:=x,token:=t,count:=n}∧((s.state=1∨s.state=2)→t=s.token∧n=s.count):=by
 cases h:dX s
 .refine⟨s.text,_,_,oD h c,fun a=>?_⟩;exfalso;unfold dX at h;rcases a with a|a<;>simp[a]at h
 exact⟨_,s.token,s.count,CU h c,fun _=>⟨rfl,rfl⟩⟩
theorem CV:∀(l:Bs) (s:St),∃x t n,dY s l={s with text:=x,token:=t,count:=n}∧((s.state=1∨s.state=2)→t=s.token∧n=s.count)
 |[],s=>⟨s.text,s.token,s.count,rfl,fun _=>⟨rfl,rfl⟩⟩
 |y::r,s=>by
  obtain⟨x,t,n,a,c⟩:=xS s y.toNat;obtain⟨d,e,f,g,h⟩:=CV r (Mk.put s y.toNat);refine⟨d,e,f,?_,fun b=>?_⟩
  .show dY (Mk.put s y.toNat) r=_;rw[g,a]
  have:=h (by rw[a];exact b);rw[a]at this;exact⟨this.1.trans (c b).1,this.2.trans (c b).2⟩
theorem CW(h:W {s with pl:=0,pc:=0})(e:s.state=1∨s.state=2∨s.state=7∨s.state=11∨s.state=17)(f:s.held=[])(l:Mk.isOpen s.rp=false)(p:Int×Int)(c:p.2=0∨iG p.1 p.2):W (jK s p):=by
 have a:=h;unfold jK;split
 .rename_i b;have b:p.2=0:=by simpa using b
  obtain⟨x,t,n,d,m⟩:=xS {s with pc:=p.1,pl:=p.2} p.1;rw[d]
  exact{h with
   p0:=by show 0≤p.2;omega
   pl:=fun f=>by exfalso;have:0<p.2:=f;omega
   tk:=fun i g2 j o r k=>by
    have u:s.state=1∨s.state=2:=by have v:s.state≠7:=i;have w:s.state≠11:=j;have y:s.state≠17:=k;omega
    have:=m u
    have q:=h.tk i g2 j o r k
    exact⟨this.1.trans q.1,this.2.trans q.2⟩
   c8:=fun g=>by exfalso;have g:s.state=8∨s.state=12∨s.state=14:=g;omega
   gD:=fun g=>by exfalso;have g:s.state=14:=g;omega
   gM:=fun g=>by exfalso;have g:s.state=12:=g;omega}
 rename_i b;have b:p.2≠0:=by simpa using b
 have d:iG p.1 p.2:=by rcases c with c|c;exact absurd c b;exact c
 exact{h with
  p0:=by show 0≤p.2;unfold iG at d;omega
  pl:=fun _=>⟨e,f,d,l⟩}
theorem LI{p:Int×Int}(a:0≤b)(h:eP b=some p):p.2=0∨iG p.1 p.2:=by
 unfold eP at h;unfold iG;split at h
 .cases h;exact .inl rfl
 split at h
 .cases h;exact .inr (.inl ⟨rfl,by dsimp only;omega⟩)
 split at h
 .cases h;exact .inr (.inr (.inl ⟨rfl,by dsimp only;omega⟩))
 split at h
 .cases h;exact .inr (.inr (.inr ⟨rfl,by dsimp only;omega⟩))
 cases h
theorem CX{c l:Int}{p:Int×Int}(a:iG c l)(h:cQ c l b=some p):p.2=0∨iG p.1 p.2:=by
 unfold cQ at h;split at h
 .cases h
 split at h
 .rename_i e d;cases h;unfold Mk.ij at d;unfold iG at a⊢;rcases a with⟨rfl,a⟩|⟨rfl,a⟩|⟨rfl,a⟩
  .exact .inl rfl
  .simp at d;refine .inr (.inl ⟨by omega,by dsimp only;omega⟩)
  simp at d;refine .inr (.inr (.inl ⟨by omega,by dsimp only;omega⟩))
 cases h
theorem nu(h:W s)(c:s.state=1∨s.state=2∨s.state=7∨s.state=11∨s.state=17)(i:Mk.isOpen s.rp=false)(b:Int)(j:0≤b)(a:(cW s b).2=0):W (cW s b).1:=by
 unfold cW at a⊢;split at a
 .simp at a
 rename_i p k;dsimp only;split at a
 .rename_i l;rw[if_pos l];obtain⟨x,t,n,m,o⟩:=CV s.held s;have r:=LI j k;dsimp only;rw[m];refine CW (s:={s with text:=x,token:=t,count:=n,held:=[]}) ?_ c rfl i p r
  exact{h with
   p0:=Int.le_refl _
   pl:=fun g=>absurd (show(0:Int)<0 from g) (by decide)
   hs:=.inl rfl
   tk:=fun d g2 e u v f=>by
    have w:s.state=1∨s.state=2:=by have y:s.state≠7:=d;have z:s.state≠11:=e;have A:s.state≠17:=f;omega
    have:=o w
    have q:=h.tk d g2 e u v f
    exact⟨this.1.trans q.1,this.2.trans q.2⟩
   c8:=fun g=>by exfalso;have g:s.state=8∨s.state=12∨s.state=14:=g;omega
   gD:=fun g=>by exfalso;have g:s.state=14:=g;omega
   gM:=fun g=>by exfalso;have g:s.state=12:=g;omega}
 simp at a
theorem LJ(h:W s)(c:0<s.pl)(b:Int)(a:(ja s b).2=0):W (ja s b).1:=by
 obtain⟨d,g2,e,f⟩:=h.pl c;unfold ja at a⊢;split at a
 .simp at a
 rename_i p i;dsimp only;refine CW ?_ d g2 f p (CX e i);exact{h with p0:=Int.le_refl _,pl:=fun g=>absurd (show(0:Int)<0 from g) (by decide)}
theorem CY{r:Mk.Rf}(v:n=[]∨n∈uD)(h:Mk.letter n b=some r)(i:Mk.isOpen r.place=true):oz r.place r.name r.code:=by
 unfold Mk.letter at h;have j:∀(l:List (Bs×Int)) (m:Bs),(∀q∈l,m.isPrefixOf q.1=true→m≠q.1→m≠[]→m∈uD)→m≠[]→∀r,lM m l=some r→Mk.isOpen r.place=true→oz r.place r.name r.code:=by
  intro l m;induction l with
  |nil=>intro _ _ r h;cases h
  |cons q t ih=>
   intro a s r h i;obtain⟨w,x⟩:=q;unfold lM at h;split at h
   .cases h;exact absurd (show Mk.isOpen 7=true from i) (by decide)
   split at h
   .rename_i c u;cases h;exact .inr (.inl ⟨rfl,a _ List.mem_cons_self u (fun e=>c e.symm) s⟩)
   exact ih (fun q o=>a q (List.mem_cons_of_mem _ o)) s r h i
 refine j _ _ ?_ (by simp) r h i;intro q a hpre p d;have f:∀q∈fJ,∀k<6,q.1.take k≠q.1→q.1.take k≠[]→q.1.take k∈uD:=by decide
 have g:∀q∈fJ,q.1.length<6:=by decide
 have c:=List.prefix_iff_eq_take.1 (List.isPrefixOf_iff_prefix.1 hpre);have u:=(List.isPrefixOf_iff_prefix.1 hpre).length_le;have y:=g q a;rw[c];exact f q a _ (by omega) (by rw[←c];exact p) (by rw[←c];exact d)
theorem LK{p:Int}{c:Int}{r:Mk.Rf}(o:0≤b)(k:oz p n c)(h:eT ⟨p,n,c⟩ b=some r)(f:Mk.isOpen r.place=true):oz r.place r.name r.code:=by
 have j:∀(base v:Int),0<base→Mk.digit b base=some v→0≤v:=by
  intro base v i hd;unfold Mk.digit at hd;split at hd
  .cases hd
  cases hd;unfold Mk.digitVal Mk.isDigit;repeat' split
  all_goals simp_all
  all_goals omega
 have a:∀(base pl:Int),(pl=5∨pl=6)→0<base→0≤c→∀r,Pp c b base pl=some r→oz r.place r.name r.code:=by
  intro base pl e i g r h;unfold Pp at h;split at h
  .cases h
  rename_i v l;split at h
  .cases h
  cases h;have:=j base v i l;have q:0≤c*base:=Int.mul_nonneg g (by omega);exact .inr (.inr (.inr ⟨e,by dsimp only;omega,by dsimp only;omega⟩))
 have d:∀(base pl:Int),(pl=5∨pl=6)→0<base→0≤c→∀r,iq c b base pl=some r→Mk.isOpen r.place=true→oz r.place r.name r.code:=by
  intro base pl e i g r h f;unfold iq at h;split at h
  .split at h
   .cases h;exact absurd (show Mk.isOpen 7=true from f) (by decide)
   cases h
  exact a base pl e i g r h
 unfold eT at h;dsimp only at h;rcases k with⟨rfl,rfl⟩|⟨rfl,m⟩|⟨rfl|rfl,rfl⟩|⟨rfl|rfl,g⟩
 .simp at h;split at h
  .cases h;exact .inr (.inr (.inl ⟨.inl rfl,rfl⟩))
  exact CY (.inl rfl) h f
 .simp at h;exact CY (.inr m) h f
 .simp at h;split at h
  .cases h;exact .inr (.inr (.inl ⟨.inr rfl,rfl⟩))
  exact a 10 5 (.inl rfl) (by decide) (by decide) r h
 .simp at h;exact a 16 6 (.inr rfl) (by decide) (by decide) r h
 .simp at h;exact d 10 5 (.inl rfl) (by decide) g.1 r h f
 simp at h;exact d 16 6 (.inr rfl) (by decide) g.1 r h f
theorem LL(h:W s)(e:Mk.isOpen s.rp=true)(f:s.pl=0)(b:Int)(i:0≤b)(c:(iy s b).2=0):W (iy s b).1:=by
 obtain⟨j,g2⟩:=h.rf e;unfold iy at c⊢;split at c
 .simp at c
 rename_i r k;split
 .rename_i a
  exact{h with
   pl:=fun g=>by have g:0<s.pl:=g;omega
   rf:=fun _=>⟨j,LK i g2 k a⟩}
 rename_i a;obtain⟨x,t,n,l,m⟩:=xS (Mk.setRef s r) r.code;dsimp only;rw[l]
 exact{h with
  pl:=fun g=>by have g:0<s.pl:=g;omega
  rf:=fun g=>absurd g a
  tk:=fun o p u v w d=>by
   have y:s.state=1:=by have d:s.state≠17:=d;omega
   have:=m (.inl y)
   have q:=h.tk o p u v w d
   exact⟨this.1.trans q.1,this.2.trans q.2⟩
  c8:=fun g=>by exfalso;have g:s.state=8∨s.state=12∨s.state=14:=g;omega
  gD:=fun g=>by exfalso;have g:s.state=14:=g;omega
  gM:=fun g=>by exfalso;have g:s.state=12:=g;omega}
structure Wq(s:St):Prop extends W s where
 q:s.pl=0
 r:Mk.isOpen s.rp=false
theorem iW(h:Wq s)(e:s.held=[])(b:s.token=[]∧s.count=0)(f:s.aC=[])(st:Int)(i:0≤st∧st≤21)(j:st=0→s.opn=[])(k:(st=1∨st=2∨st=6∨st=20∨st=21)→s.opn≠[])
 (l:s.over=true→s.opn=[]) (m:Int) (n:st=6→0≤m∧m<6) (c:st=20→0≤m∧m≤(Mk.innermost s).length) (d:¬(12≤st∧st≤19)):Wq {s with state:=st,matched:=m}:=
 {h with
  st:=i
  o0:=j
  o1:=k
  ov:=fun g=>⟨l g,d⟩
  pl:=fun g=>by have g:0<s.pl:=g;have:=h.q;omega
  rf:=fun g=>absurd (h.r.symm.trans g) (by decide)
  hs:=.inl e
  m6:=n
  lI:=c
  tk:=fun _ _ _ _ _ _=>b
  c8:=fun _=>by show s.count=s.token.length;rw[b.1,b.2];rfl
  gD:=fun g=>by exfalso;have g:st=14:=g;omega
  oC:=fun g=>by exfalso;have g:st=17:=g;omega
  dQ:=fun _=>f
  gM:=fun g=>by exfalso;have g:st=12:=g;omega
  jh:=fun a g2=>by exfalso;have a:13≤st:=a;have g2:st≤19:=g2;omega
  iV:=fun a g2=>by exfalso;have a:12≤st:=a;have g2:st≤19:=g2;omega}
theorem Wq.told(h:Wq s)(l:List Ev)(x:Bs):Wq {s with list:=l,text:=x}:={h with}
theorem CZ(h:Wq s)(a:s.held=[])(b:s.token=[]∧s.count=0)(c:s.aC=[])(d:s.over=true→s.opn=[]):Wq (Mk.resume s):=by
 have e:(s.opn.length=0)↔s.opn=[]:=List.length_eq_zero_iff;unfold Mk.resume;refine iW h a b c _ (by split<;>omega) (fun g=>?_) (fun g=>?_) d s.matched (fun g=>?_) (fun g=>?_) ?_;all_goals split at * <;>first|omega|simp_all
theorem Qr(h:Wq s)(e:Ev):Wq (Mk.add s e):=by rw[kG];exact h.told _ _
theorem Qs(s:St)(e:Ev):(Mk.add s e).held=s.held∧(Mk.add s e).token=s.token∧(Mk.add s e).count=s.count∧(Mk.add s e).aC=s.aC∧(Mk.add s e).over=s.over∧(Mk.add s e).opn=s.opn∧(Mk.add s e).state=s.state:=by
 rw[kG];exact⟨rfl,rfl,rfl,rfl,rfl,rfl,rfl⟩
theorem rz(h:Wq s)(c:s.held=[])(a:s.state≠14):Wq (aY s):=
 {h with
  tk:=fun _ _ _ _ _ _=>⟨rfl,rfl⟩
  c8:=fun _=>rfl
  gD:=fun g=>absurd g a
  gM:=fun _=>⟨fun x b=>(by cases b),by show(0:Int)≤s.ot;have:=h.bd;omega⟩}
theorem PU(h:Wq s)(hd:Bs)(hs:Hs s.state hd):Wq {s with held:=hd}:={h with hs:=hs,pl:=fun g=>by have g:0<s.pl:=g;have:=h.q;omega}
theorem LM(h:Wq s)(a:s.state=7):Wq (Mk.mH s):=by
 have b:Wq (aY {s with held:=[]}):=rz (PU h [] (.inl rfl)) rfl (by show s.state≠14;omega);have c:=Qr b ⟨4,[],[],s.token,[]⟩;have f:=Qs (aY {s with held:=[]}) ⟨4,[],[],s.token,[]⟩;have d:s.aC=[]:=h.dQ (by omega);exact CZ c (f.1) ⟨f.2.1,f.2.2.1⟩ (f.2.2.2.1.trans d) (fun g=>by rw[f.2.2.2.2.2.1];rw[f.2.2.2.2.1]at g;exact(h.ov g).1)
theorem uE(h:Wq s)(n:Bs)(a:13≤s.state→s.state≤19→jV s.ot n):Wq {s with name:=n}:={h with jh:=a}
theorem Qt{t:Int}(h:8≤t):jV t []:=⟨fun x a=>(by cases a),by simp;omega⟩
theorem Qu(h:Wq s)(b:s.state=9∨s.state=11):Wq (Mk.lf s):=by
 have c:Wq (aY {s with held:=[]}):=rz (PU h [] (.inl rfl)) rfl (by show s.state≠14;omega);have a:=Qr c ⟨5,s.name,[],s.token,[]⟩;have f:=Qs (aY {s with held:=[]}) ⟨5,s.name,[],s.token,[]⟩;have d:s.aC=[]:=h.dQ (by omega);exact CZ (uE a [] fun _ _=>Qt a.bd.2.1) (f.1) ⟨f.2.1,f.2.2.1⟩ (f.2.2.2.1.trans d) (fun g=>by show(Mk.add (aY {s with held:=[]}) ⟨5,s.name,[],s.token,[]⟩).opn=[];rw[f.2.2.2.2.2.1];have g:(Mk.add (aY {s with held:=[]}) ⟨5,s.name,[],s.token,[]⟩).over=true:=g;rw[f.2.2.2.2.1]at g;exact(h.ov g).1)
theorem LN(h:Wq s)(a:s.state=7)(b:Int)(f:0≤b)(c:(gN s b).2=0):W (gN s b).1:=by
 unfold gN at c⊢;split at c
 .rename_i g;rw[if_pos g];exact(LM h a).toW
 rename_i g;rw[if_neg g];split at c
 .simp at c
 rename_i g2;rw[if_neg g2];split at c
 .rename_i d;rw[if_pos d];refine(PU h _ ?_).toW;rcases h.hs with e|⟨_,e|e⟩|⟨e,_⟩|⟨e,_⟩
  .rw[e];exact .inr (.inl ⟨a,.inl rfl⟩)
  .rw[e];exact .inr (.inl ⟨a,.inr rfl⟩)
  .exact absurd e g2
  .omega
  omega
 rename_i d;rw[if_neg d];exact nu h.toW (by omega) h.r b f c
theorem LO(h:Wq s)(a:s.state=2)(b:Int)(i:0≤b)(c:(gq s b).2=0):W (gq s b).1:=by
 have f:dX s=true:=by unfold dX;simp[a]
 unfold gq at c⊢;split at c
 .rename_i g;rw[if_pos g];have j:=h.o1 (by omega);exact(iW (PU h [] (.inl rfl)) rfl (h.tk (by omega) (by omega) (by omega) (by omega) (by omega) (by omega)) (h.dQ (by omega)) 1 (by omega) (by omega) (fun _=>j) (fun g=>(h.ov g).1) s.matched (by omega) (by omega) (by omega)).toW
 rename_i g;rw[if_neg g];split at c
 .rename_i g2;rw[if_pos g2,CU f];exact{h with}
 rename_i g2;rw[if_neg g2];split at c
 .rename_i d;rw[if_pos d];refine(PU h _ ?_).toW;rcases h.hs with e|⟨e,_⟩|⟨_,e|e⟩|⟨e,_⟩
  .rw[e];exact .inr (.inr (.inl ⟨a,.inl rfl⟩))
  .omega
  .rw[e];exact .inr (.inr (.inl ⟨a,.inr rfl⟩))
  .exact absurd ⟨d,e⟩ g2
  omega
 rename_i d;rw[if_neg d];exact nu h.toW (by omega) h.r b i c
theorem Qv(h:Wq s)(a:s.state=11)(b:Int)(f:0≤b)(c:(fu s b).2=0):W (fu s b).1:=by
 have e:dX s=false:=by unfold dX;simp[a]
 unfold fu at c⊢;split at c
 .rename_i g;rw[if_pos g];exact(Qu h (by omega)).toW
 rename_i g;rw[if_neg g];split at c
 .rename_i g2;rw[if_pos g2];split at c
  .rename_i d;rw[if_pos d,oD e]
   exact{h with
    tk:=fun j k i l m n=>absurd a i
    c8:=fun g=>by exfalso;have g:s.state=8∨s.state=12∨s.state=14:=g;omega
    gD:=fun g=>by exfalso;have g:s.state=14:=g;omega
    gM:=fun g=>by exfalso;have g:s.state=12:=g;omega}
  simp at c
 rename_i g2;rw[if_neg g2];split at c
 .rename_i d;rw[if_pos d];exact(PU h _ (.inr (.inr (.inr ⟨a,rfl⟩)))).toW
 rename_i d;rw[if_neg d];exact nu h.toW (by omega) h.r b f c
theorem PV(h:gm b=true):0≤b∧b<128:=by
 unfold gm dM Mk.eC Mk.isDigit at h;simp at h;omega
theorem Qw(h:dM b=true):0≤b∧b<128:=PV (by unfold gm;rw[h];rfl)
theorem LP(h:Wq s)(c:s.state=8)(b:Int)(a:(dO s b).2=0):W (dO s b).1:=by
 have d:dX s=false:=by unfold dX;simp[c]
 have f:s.held=[]:=h.hs.none (by omega) (by omega) (by omega);unfold dO at a⊢;split at a
 .simp at a
 rename_i g;rw[if_neg g];split at a
 .rename_i g2;rw[if_pos g2];unfold Mk.gG at a⊢;split at a
  .rename_i e;rw[if_pos e,oD d,ru b (PV g2).2]
   exact{h with
    tk:=fun m j n o p q=>absurd c j
    c8:=fun _=>by have:=h.c8 (.inl c);show s.count+1=((s.token++[_]).length:Int);simp;omega
    gD:=fun g=>by exfalso;have g:s.state=14:=g;omega
    gM:=fun g=>by exfalso;have g:s.state=12:=g;omega}
  simp at a
 rename_i g2;rw[if_neg g2];split at a
 .simp at a
 rename_i e;rw[if_neg e];split at a
 .simp at a
 rename_i k;rw[if_neg k];have l:=uE (rz h f (by omega)) s.token (fun i g2=>by exfalso;have i:13≤s.state:=i;omega);exact(iW l f ⟨rfl,rfl⟩ (h.dQ (by omega)) _ (by split<;>omega) (by split<;>omega) (by split<;>omega) (fun g=>(h.ov g).1) s.matched (by split<;>omega) (by split<;>omega) (by split<;>omega)).toW
theorem LQ(h:Wq s)(c:s.state=10)(b:Int)(d:0≤b)(a:(ju s b).2=0):W (ju s b).1:=by
 have e:s.held=[]:=h.hs.none (by omega) (by omega) (by omega);unfold ju at a⊢;split at a
 .rename_i g;rw[if_pos g];exact h.toW
 rename_i g;rw[if_neg g];refine Qv ?_ rfl b d a;exact iW h e (h.tk (by omega) (by omega) (by omega) (by omega) (by omega) (by omega)) (h.dQ (by omega)) 11 (by omega) (by omega) (by omega) (fun g=>(h.ov g).1) s.matched (by omega) (by omega) (by omega)
theorem LR(h:Wq s)(c:s.state=0)(b:Int)(a:(iP s b).2=0):W (iP s b).1:=by
 have d:s.held=[]:=h.hs.none (by omega) (by omega) (by omega);unfold iP at a⊢;split at a
 .rename_i g;rw[if_pos g];exact h.toW
 rename_i g;rw[if_neg g];split at a
 .rename_i g2;rw[if_pos g2];exact(iW h d (h.tk (by omega) (by omega) (by omega) (by omega) (by omega) (by omega)) (h.dQ (by omega)) 3 (by omega) (by omega) (by omega) (fun g=>(h.ov g).1) s.matched (by omega) (by omega) (by omega)).toW
 simp at a
theorem rA(h:Wq s)(n:Int):Wq {s with brackets:=n}:={h with}
theorem LS(h:Wq s)(c:s.state=1)(b:Int)(e:0≤b)(a:(fw s b).2=0):W (fw s b).1:=by
 have i:s.held=[]:=h.hs.none (by omega) (by omega) (by omega);have j:=h.tk (by omega) (by omega) (by omega) (by omega) (by omega) (by omega);unfold fw at a⊢;split at a
 .rename_i g;rw[if_pos g];exact(iW (rA h 0) i j (h.dQ (by omega)) 3 (by omega) (by omega) (by omega) (fun g=>(h.ov g).1) s.matched (by omega) (by omega) (by omega)).toW
 rename_i g;rw[if_neg g];split at a
 .rename_i g2;rw[if_pos g2]
  exact{rA h 0 with
   rf:=fun _=>⟨.inl c,.inl ⟨rfl,rfl⟩⟩
   pl:=fun g=>by have g:0<s.pl:=g;have:=h.q;omega}
 rename_i g2;rw[if_neg g2];split at a
 .rename_i f;rw[if_pos f];split at a
  .simp at a
  rename_i d;rw[if_neg d];exact nu (rA h 0).toW (.inl c) h.r b e a
 rename_i f;rw[if_neg f];split at a
 .rename_i d;rw[if_pos d];exact nu (rA h (if s.brackets==0 then 1 else 2)).toW (.inl c) h.r b e a
 rename_i d;rw[if_neg d];exact nu (rA h 0).toW (.inl c) h.r b e a
end Go.Proofs.YtmgfijllcdadgaaGreatDoor
