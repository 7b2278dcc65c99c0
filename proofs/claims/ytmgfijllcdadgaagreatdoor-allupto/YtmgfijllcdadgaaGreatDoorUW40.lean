import Derived.Test.YtmgfijllcdadgaaGreatDoorUW39
import Derived.Deep.RegionHeld3
set_option linter.all false
set_option maxHeartbeats 8000000
set_option maxRecDepth 100000
namespace Go.Proofs.YtmgfijllcdadgaaGreatDoor.V
open Go.RowKit
open Go.Proofs.Tryz
open Rf
open Mk (U Ev aI)
variable {b g u:Nat}{L:bA}{w a:World}{t:TypeId}{vs:List Value}
def BG:bA:=⟨none,0,none,0,none,0,[],[]⟩
section
variable {od oa ot:Int}{on:Bool}{s:U}
def DG(w:World)(od oa ot:Int)(on:Bool)(s:U):bD (w.alloc (.cells #[.int .i64 od,.int .i64 oa,.int .i64 ot,.bool on,.string ⟨s.toArray⟩,.int .i64 0,.int .i64 0,.int .i64 0,.bool false,.slice none 0 0,.slice none 0 0,.slice none 0 0] 111)) w.heap.size (gT od oa ot on s) BG:=by
 refine⟨dI w _,?_,rfl,rfl⟩;refine⟨λr a=>?_,?_⟩
 .simp only[eP,BG,qO,aj1,oN,qm,uD]at a;obtain rfl|rfl|rfl:=a<;>exact lq _ _ _ _
 simp[eP,BG,cZ,jm,jo,gH,Value.ownBlock,gT]
def Pg(e:1<=od)(f:od<=64)(a:0<=oa)(g:oa<=32)(h:8<=ot)(b:ot<=1024)(c:s.length<=100000000):Fit (gT od oa ot on s):=
 ⟨⟨by show s.length<=_;omega,dO _,by show 0<=ot;omega,b⟩,by show 1<=ot;omega,⟨a,by show oa<=_;omega⟩,by show od<=_;omega,by show((0:Nat):Int)<=od;omega,rfl,c,(λt d=>nomatch d),dO _⟩
def zw(b w' :World)(v:Value)(x:Rf.rL):Prop:=
 ∃c d a,v=.agg #[c,.int .i64 x.err,.bool x.whole,.int .i64 (x.A:Int),d,.int .i64 x.K,.int .i64 x.aN]/\a.map (·.1)=x.y/\w'.ownsRow b.heap.size 65 5 c a.length (dU a)/\(∀p∈a,ij b.heap.size w'.heap.size w' p.2 p.1.f)/\w'.ownsRow b.heap.size 9 1 d x.I.length (x.I.map sv)
def Ph{w0 w' :World}{r:R}(h:bD w' b r L)(d:w0.heap.size<=b):
 L.es.map (·.1)=r.y/\w'.ownsRow w0.heap.size 65 5 (.slice L.ea r.y.length L.ec) L.es.length (dU L.es)/\(∀p∈L.es,ij w0.heap.size w'.heap.size w' p.2 p.1.f)/\w'.ownsRow w0.heap.size 9 1 (.slice L.oa r.I.length L.oc) r.I.length (r.I.map sv):=by
 have a:L.es.length=r.y.length:=by rw[<-h.evs];simp
 refine⟨h.evs,?_,λp c=>?_,?_⟩
 .rw[a];exact xC (h.rows.own (jm r L)<|by simp[eP]) (by omega)
 .exact(ij.of (h.rows.own (bR p)<|by simp only[eP,oN,List.mem_append,AQ];right;right;right;left;exact⟨p,c,rfl⟩)).low (by omega)
 exact xC (h.rows.own (jo r L)<|by simp[eP]) (by omega)
def jO(w:World)(g:Nat):Nat->List Value->World
 |_,[]=>w
 |i,v::a=>jO (w.setCell ⟨g,i,none⟩ v) g (i+1) a
def zx(a:World)(g:Nat)(b:List Value)(o:Obj):World:=((jO a g 0 b).alloc o).drew
def uN(w:World)(o:Obj):(w.alloc o).heap.size=w.heap.size+1:=by simp
def size_set(w:World)(a:Addr)(v:Value):(w.setCell a v).heap.size=w.heap.size:=by simp[World.setCell]
def abA{i:Nat}{a:List Value}(h:w.heap[g]?=some (.cells a.toArray t (0,0)))(v:Value):(w.setCell ⟨g,i,none⟩ v).heap[g]?=some (.cells (a.set i v).toArray t (0,0)):=by
 simp[World.setCell,rE,h]
def zy(a:List Value):Nat->List Value->List Value
 |_,[]=>a
 |i,v::b=>zy (a.set i v) (i+1) b
def BH(g:Nat):∀(a:List Value) (w:World) (i:Nat),(jO w g i a).heap.size=w.heap.size
 |[],w,i=>rfl
 |v::a,w,i=>by rw[jO,BH g a,size_set]
def xK(g:Nat):∀(a:List Value) (w:World) (i:Nat),(jO w g i a).os=w.os/\(jO w g i a).tape=w.tape/\(jO w g i a).output=w.output
 |[],w,i=>⟨rfl,rfl,rfl⟩
 |v::a,w,i=>by rw[jO];exact xK g a _ _
def aj5{g:Nat}{t:TypeId}:∀(a:List Value) (w:World) (i:Nat) (b:List Value),w.heap[g]?=some (.cells b.toArray t (0,0))->(jO w g i a).heap[g]?=some (.cells (zy b i a).toArray t (0,0))
 |[],w,i,b,h=>h
 |v::a,w,i,b,h=>by rw[jO,zy];exact aj5 a _ _ _ (abA h v)
def xL{g k:Nat}(b:k≠g):∀(a:List Value) (w:World) (i:Nat),(jO w g i a).heap[k]?=w.heap[k]?
 |[],w,i=>rfl
 |v::a,w,i=>by rw[jO,xL b a,kR _ _ _ _ b]
def abB{b:List Value}{o:Obj}(h:a.heap[g]?=some (.cells b.toArray t (0,0))):(zx a g vs o).heap[g]?=some (.cells (zy b 0 vs).toArray t (0,0)):=
 (dG _ _ _<|by rw[BH];exact(Array.getElem?_eq_some_iff.1 h).1).trans (aj5 vs a 0 b h)
def IB(a:World)(g:Nat)(b:List Value)(o:Obj)(k:Nat)(c:k≠g)(d:k<a.heap.size):(zx a g b o).heap[k]?=a.heap[k]?:=
 (dG _ _ _<|by rwa[BH]).trans (xL c b a 0)
def abC{B:Nat}(a:World)(g:Nat)(b:List Value)(o:Obj)(c:B<=g)(d:B<=a.heap.size):Below B a (zx a g b o):=
 ⟨(xK g b a 0).1,(xK g b a 0).2.1,(xK g b a 0).2.2,by show a.heap.size<=(World.alloc _ o).heap.size;rw[uN,BH];omega,λk e=>IB a g b o k (by omega) (by omega)⟩
theorem IC(h i j k l m n a b c d e f g:Value):zy [h,i,j,k,l,m,n] 0 [a,b,c,d,e,f,g]=[a,b,c,d,e,f,g]:=rfl
abbrev pF(r:R)(L:bA)(n:Nat)(line a:Int):List Value:=[.slice L.ea r.y.length L.ec,.int .i64 r.err,.bool r.whole,.int .i64 (n:Int),.slice L.oa r.I.length L.oc,.int .i64 line,.int .i64 a]
def tY(w:World)(g:Nat):List (Nat×Value)->World
 |[]=>w
 |p::l=>tY (w.setCell ⟨g,p.1,none⟩ p.2) g l
def Pj(g:Nat):∀(l:List (Nat×Value)) (w:World),(tY w g l).heap.size=w.heap.size
 |[],w=>rfl
 |p::l,w=>by rw[tY,Pj g l,size_set]
def Ek(g:Nat):∀(l:List (Nat×Value)) (w:World),(tY w g l).os=w.os/\(tY w g l).tape=w.tape/\(tY w g l).output=w.output
 |[],w=>⟨rfl,rfl,rfl⟩
 |p::l,w=>by rw[tY];exact Ek g l _
def ID{g k:Nat}(a:k≠g):∀(l:List (Nat×Value)) (w:World),(tY w g l).heap[k]?=w.heap[k]?
 |[],w=>rfl
 |p::l,w=>by rw[tY,ID a l,kR _ _ _ _ a]
def rO(a:World)(u g:Nat)(b:List (Nat×Value))(c:List Value):World:=jO (tY a u b) g 0 c
def Pk{ps:List (Nat×Value)}{b:List Value}(c:g≠u)(h:a.heap[g]?=some (.cells b.toArray t (0,0))):(rO a u g ps vs).heap[g]?=some (.cells (zy b 0 vs).toArray t (0,0)):=
 aj5 vs _ 0 b ((ID c ps a).trans h)
def zA{k:Nat}(b:List (Nat×Value))(c:List Value)(d:k≠u)(e:k≠g):(rO a u g b c).heap[k]?=a.heap[k]?:=
 (xL e c _ 0).trans (ID d b a)
def IE{B:Nat}(a:World)(c:List (Nat×Value))(b:List Value)(d:B<=u)(e:B<=g):Below B a (rO a u g c b):=
 ⟨(xK g b _ 0).1.trans (Ek u c a).1,(xK g b _ 0).2.1.trans (Ek u c a).2.1,(xK g b _ 0).2.2.trans (Ek u c a).2.2,by show a.heap.size<=(jO _ g 0 b).heap.size;rw[BH,Pj];exact a_ _,λk f=>zA c b (by omega) (by omega)⟩
theorem IG:(prog.info? 97).map (·.size)=some 7:=by kernel_rfl
def II(od oa ot:Int)(on:Bool)(s:U):cO (gT od oa ot on s) BG=[]:=by
 simp[cO,eP,BG,cZ,jm,jo,gH,Value.ownBlock,gT]
def Pm{d:World}{a e g:Obj}{q r:R}{i:bA}(c:bL (((w.alloc a).alloc e).alloc g) b (cO q L) d r i)(j:cO q L=[])(m:b=w.heap.size+1+1):
 d.heap[w.heap.size]?=some a/\d.heap[w.heap.size+1]?=some e/\Below w.heap.size w d:=by
 rw[j]at c;have l:=c.fr.size;have f:∀k,k<w.heap.size+1+1->d.heap[k]?=((w.alloc a).alloc e).heap[k]?:=λk f=>
  (c.fr.block k (by simp;omega) (by omega) (by simp)).trans (dG _ _ _<|by simp;omega)
 refine⟨?_,?_,⟨c.fr.os,c.fr.tape,c.fr.output,by simp at l;omega,λk h=>?_⟩⟩
 .rw[f _<|by omega,dG _ _ _<|by simp];exact dI w a
 .rw[f _<|by omega];have:=dI (w.alloc a) e;rwa[show(w.alloc a).heap.size=w.heap.size+1 by simp]at this
 rw[f _<|by omega,dG _ _ _<|by simp;omega,dG _ _ _ h]
def abD{w2 c:World}{O:Obj}{p q:R}{d:bA}(a:bL (w2.alloc O).drew b (cO p L) c q d)(e:cO p L=[])(f:b=w2.heap.size):Below w2.heap.size w2 c:=by
 rw[e]at a;have g:=a.fr.size;have i:(w2.alloc O).drew.heap.size=w2.heap.size+1:=by simp
 exact⟨a.fr.os,a.fr.tape,a.fr.output,by omega,λk h=>(a.fr.block k (by omega) (by omega) (by simp)).trans (dG _ _ _ h)⟩
def akd{Q:Exit->Act->World->Prop}{a:Act}(h:Hid (Q .ret a w)):Q .ret a w:=h
def bN{a:Array Value}(h:w.heap[g]?=some (.cells a t (0,0))):(∀i,w.cell? ⟨g,i,none⟩=a[i]?)/\(∀i,w.frozen? ⟨g,i,none⟩=false)/\g<w.heap.size:=
 ⟨λi=>by simp[World.cell?,h],λi=>by simp[World.frozen?,h],(Array.getElem?_eq_some_iff.1 h).1⟩
def tP(d1:1<=od)(d2:od<=64)(a1:0<=oa)(a2:oa<=32)(t1:8<=ot)(t2:ot<=1024)(hs:s.length<=100000000)(w:World)(hG:gQ w):
 Calls prog 45 #[.agg #[.int .i64 od,.int .i64 oa,.int .i64 ot,.bool on],.string ⟨s.toArray⟩] w λe w' =>∃v,e=.returned v/\zw w w' v (fN od oa ot on s)/\Below w.heap.size w w' :=by
 have aa:=hG.lt;have A:=λ(W:World) (hb:Below w.heap.size w W) (tx:U) (ap:tx.length<=100000000)=>O_ (DG W od oa ot on tx) (Pg d1 d2 a1 a2 t1 t2 ap) (hG.below (hb.trans ((Below.refl _ _).alloc (a_ _) _ |>.mono hb.size))) (i_ aa hb.size);have L:=A ((w.alloc (.cells #[.int .i64 od,.int .i64 oa,.int .i64 ot,.bool on] 40)).alloc (.cells #[.slice none 0 0,.int .i64 0,.bool false,.int .i64 0,.slice none 0 0,.int .i64 0,.int .i64 0] 97)) (((Below.refl _ _).alloc (a_ _) _).alloc (by simp) _) s hs;rw[show((w.alloc (.cells #[.int .i64 od,.int .i64 oa,.int .i64 ot,.bool on] 40)).alloc (.cells #[.slice none 0 0,.int .i64 0,.bool false,.int .i64 0,.slice none 0 0,.int .i64 0,.int .i64 0] 97)).heap.size=w.heap.size+1+1 by simp]at L;have ab:=Y λn hn W=>G_ s n hn (by omega) W;obtain⟨b2,j⟩:=aj8 (fN od oa ot on s);rw[<-j];unfold fN at j;simp only at j;obtain⟨r,hr⟩:=akb (lY (gT od oa ot on s));rw[hr]at j L;have ad:=Y L;have aq:=Y hG;clear hG L;by_cases y:r.stop=2
 .rw[J y]at j;have e2:=aka y;have ar:r.A<=s.length:=by
   have h5:=Iz (gT od oa ot on s) (dO _) (by show 1<=ot;omega) hs;rw[hr]at h5;exact h5.2.1
  obtain⟨q,hq⟩:=akb (lY (gT od oa ot on (s.take r.A)));have a0:=Y λ(W:World) (hb:Below w.heap.size w W)=>O_ (w:=(W.alloc _).drew) ((DG W od oa ot on (s.take r.A)).keep λ_ _=>rfl) (Pg d1 d2 a1 a2 t1 t2<|by rw[iB];omega) (aq.u.below ((hb.trans ((Below.refl _ _).alloc (a_ _) _ |>.mono hb.size)).drew)) (i_ aa hb.size);rw[hq]at j a0;have HF:=Y j;have a3:=Y (ab.u r.A ar);generalize(Rf.place s r.A).1=line at *;generalize(Rf.place s r.A).2=c at *;have b3:ByteArray.extract ⟨s.toArray⟩ 0 r.A=⟨(s.take r.A).toArray⟩:=by
   have:=pE s 0 r.A;rwa[jV,wX]at this
  have az:(r.A:Int)<=(s.length:Int):=by omega
  have b4:r.A+1<=100000001:=by omega
  clear j hr y A hq;go_enter func45,ntmps45;go_wp2_with(go_at_call 62;go_call ad.u as e f ⟨rfl,b,m⟩;obtain⟨p,t,C⟩:=Pm m (II _ _ _ _ _) rfl;obtain⟨au,av,ae⟩:=bN p;obtain⟨a4,a5,z⟩:=bN t;have D:=Y C;have N:=Y m.X;obtain⟨l,af,E⟩:=m.X.zzw;have ag:=Y p;have a6:=Y t;clear m p t C);have c9:f.cell? ⟨w.heap.size+1+1,9,none⟩=some (.slice b.ea r.y.length b.ec):=by rw[l];rfl
  have c7:f.cell? ⟨w.heap.size+1+1,7,none⟩=some (.int .i64 r.err):=by rw[l];rfl
  have c8:f.cell? ⟨w.heap.size+1+1,8,none⟩=some (.bool r.whole):=by rw[l];rfl
  have F:f.cell? ⟨w.heap.size+1+1,10,none⟩=some (.slice b.oa r.I.length b.oc):=by rw[l];rfl
  have n9:=World.new_ne f _ c9;have n7:=World.new_ne f _ c7;have n8:=World.new_ne f _ c8;have a7:=World.new_ne f _ F;go_region_held3 (λW=>W.cell? ⟨w.heap.size+1+1,9,none⟩=some (.slice b.ea r.y.length b.ec)/\W.cell? ⟨w.heap.size+1+1,7,none⟩=some (.int .i64 r.err)/\W.cell? ⟨w.heap.size+1+1,8,none⟩=some (.bool r.whole)/\W.cell? ⟨w.heap.size+1+1,10,none⟩=some (.slice b.oa r.I.length b.oc)) (go_keep) (fail);have ah:∀o i,(f.alloc o).cell? ⟨w.heap.size+1+1,i,none⟩=[Value.int .i64 r.od,.int .i64 r.oa,.int .i64 r.S,.bool r.on,.string ⟨r.s.toArray⟩,.int .i64 r.A,.int .i64 r.stop,.int .i64 r.err,.bool r.whole,.slice b.ea r.y.length b.ec,.slice b.oa r.I.length b.oc,.slice b.ga r.P.length b.gc][i]?:=λo i=>by
   rw[<-l i];simp only[World.cell?];rw[dG _ _ _ E]
  have ai:∀o i,(f.alloc o).cell? ⟨w.heap.size+1,i,none⟩=(#[Value.slice none 0 0,.int .i64 0,.bool false,.int .i64 0,.slice none 0 0,.int .i64 0,.int .i64 0])[i]?:=λo i=>by
   rw[<-a4 i];simp only[World.cell?];rw[dG _ _ _ z]
  have aj:∀o i,(f.alloc o).frozen? ⟨w.heap.size+1,i,none⟩=false:=λo i=>by
   rw[<-a5 i];simp only[World.frozen?];rw[dG _ _ _ z]
  clear n9 n7 n8 a7 c9 c7 c8 F;have ak:=D.u.size;have a8:Below w.heap.size w (f.alloc (.cells (pF r b s.length 0 0).toArray 97)).drew:=(D.u.alloc ak _).drew;have G:((f.alloc (.cells (pF r b s.length 0 0).toArray 97)).drew).heap[w.heap.size]?=_:=(dG _ _ _ ae).trans ag.u;have S:((f.alloc (.cells (pF r b s.length 0 0).toArray 97)).drew).heap[w.heap.size+1]?=_:=(dG _ _ _ z).trans a6.u;have T:((f.alloc (.cells (pF r b s.length 0 0).toArray 97)).drew).heap[f.heap.size]?=_:=dI f _;go_wp2_with fail;generalize aw:(f.alloc (.cells (pF r b s.length 0 0).toArray 97)).drew=w2 at *;have al:=Y a8;have b0:=Y G;have H:=Y S;have X:=Y T;obtain⟨b5,b6,b7⟩:=bN G;have ax:=Y (a0.u w2 a8);clear aw a8 G S T a0 ah ai aj l af;generalize f.heap.size=u at *;go_region;have ay:u<w2.heap.size:=(bN X.u).2.2;have am:w.heap.size+1<w2.heap.size:=(bN H.u).2.2
  go_wp2_with(first
   |(go_at_call 62;go_call ax.u as e w3 ⟨rfl,d,O⟩;have P:=Y (abD O (II _ _ _ _ _) rfl);obtain⟨b8,b9,ba⟩:=bN ((P.u.block u ay).trans X.u);obtain⟨bb,bc,bd⟩:=bN ((P.u.block _ am).trans H.u);have an:=Y O.X;obtain⟨be,bf,b1⟩:=O.X.zzw;clear O)
   |(go_at_call 63;go_call(a3.u _)as e w4 ⟨rfl,hw⟩;obtain rfl:=hw.symm)
   |with_reducible refine akd ?_)
  have hF:=HF.u;subst hF;have x:=Pk (u:=u) (ps:=[(0,.slice d.ea q.y.length d.ec),(4,.slice d.oa q.I.length d.oc),(3,.int .i64 ((r.A:Int)+1)),(5,.int .i64 line),(6,.int .i64 c)]) (vs:=[.slice d.ea q.y.length d.ec,.int .i64 r.err,.bool r.whole,.int .i64 ((r.A:Int)+1),.slice d.oa q.I.length d.oc,.int .i64 line,.int .i64 c]) (by omega) ((P.u.block _ am).trans H.u);rw[IC]at x;have I:=an.u.keep (w' :=(rO w3 u (w.heap.size+1) [(0,.slice d.ea q.y.length d.ec),(4,.slice d.oa q.I.length d.oc),(3,.int .i64 ((r.A:Int)+1)),(5,.int .i64 line),(6,.int .i64 c)] [.slice d.ea q.y.length d.ec,.int .i64 r.err,.bool r.whole,.int .i64 ((r.A:Int)+1),.slice d.oa q.I.length d.oc,.int .i64 line,.int .i64 c])) λk R=>by
   have h8:=an.u.jh;obtain rfl|R:=R
   .exact zA _ _ (by omega) (by omega)
   exact zA _ _ (by have:=(h8 k R).1;omega) (by have:=(h8 k R).1;omega)
  have ao:=al.u.size;obtain⟨k1,k2,k3,k4⟩:=Ph (w0:=w) I (by omega);have K:=(al.u.trans (P.u.mono ao)).trans (IE (B:=w.heap.size) w3 (u:=u) (g:=w.heap.size+1) [(0,.slice d.ea q.y.length d.ec),(4,.slice d.oa q.I.length d.oc),(3,.int .i64 ((r.A:Int)+1)),(5,.int .i64 line),(6,.int .i64 c)] [.slice d.ea q.y.length d.ec,.int .i64 r.err,.bool r.whole,.int .i64 ((r.A:Int)+1),.slice d.oa q.I.length d.oc,.int .i64 line,.int .i64 c] (by omega) (by omega));obtain⟨W,hW⟩:=aj8 ((rO w3 u (w.heap.size+1) [(0,.slice d.ea q.y.length d.ec),(4,.slice d.oa q.I.length d.oc),(3,.int .i64 ((r.A:Int)+1)),(5,.int .i64 line),(6,.int .i64 c)] [.slice d.ea q.y.length d.ec,.int .i64 r.err,.bool r.whole,.int .i64 ((r.A:Int)+1),.slice d.oa q.I.length d.oc,.int .i64 line,.int .i64 c]));have a9:∀(Q:Exit->Act->World->Prop) (a:Act),Q .ret a W->Q .ret a (rO w3 u (w.heap.size+1) [(0,.slice d.ea q.y.length d.ec),(4,.slice d.oa q.I.length d.oc),(3,.int .i64 ((r.A:Int)+1)),(5,.int .i64 line),(6,.int .i64 c)] [.slice d.ea q.y.length d.ec,.int .i64 r.err,.bool r.whole,.int .i64 ((r.A:Int)+1),.slice d.oa q.I.length d.oc,.int .i64 line,.int .i64 c]):=λQ a h=>by rwa[<-hW]
  rw[<-hW]at x k2 k3 k4 K;clear I;refine Y (a9 _ _ ?_);refine bodyPost_ret (yK rfl _ _ (w.heap.size+1) 97 _ (0,0) _ rfl x underlying97 rfl IG) rfl ?_;exact⟨_,rfl,⟨_,_,d.es,rfl,k1,k2,k3,k4⟩,K⟩
 rw[M y]at j;have e2:=aj7 y;have HF:=Y j;have a3:=Y (ab.u s.length (a_ _));generalize(Rf.place s s.length).1=line at *;generalize(Rf.place s s.length).2=c at *;clear j hr y A;go_enter func45,ntmps45;go_wp2_with(go_at_call 62;go_call ad.u as e f ⟨rfl,b,m⟩;obtain⟨p,t,C⟩:=Pm m (II _ _ _ _ _) rfl;obtain⟨au,av,ae⟩:=bN p;obtain⟨a4,a5,z⟩:=bN t;have D:=Y C;have N:=Y m.X;obtain⟨l,af,E⟩:=m.X.zzw;have ag:=Y p;have a6:=Y t;clear m p t C);have c9:f.cell? ⟨w.heap.size+1+1,9,none⟩=some (.slice b.ea r.y.length b.ec):=by rw[l];rfl
 have c7:f.cell? ⟨w.heap.size+1+1,7,none⟩=some (.int .i64 r.err):=by rw[l];rfl
 have c8:f.cell? ⟨w.heap.size+1+1,8,none⟩=some (.bool r.whole):=by rw[l];rfl
 have F:f.cell? ⟨w.heap.size+1+1,10,none⟩=some (.slice b.oa r.I.length b.oc):=by rw[l];rfl
 have n9:=World.new_ne f _ c9;have n7:=World.new_ne f _ c7;have n8:=World.new_ne f _ c8;have a7:=World.new_ne f _ F;go_region_held3 (λW=>W.cell? ⟨w.heap.size+1+1,9,none⟩=some (.slice b.ea r.y.length b.ec)/\W.cell? ⟨w.heap.size+1+1,7,none⟩=some (.int .i64 r.err)/\W.cell? ⟨w.heap.size+1+1,8,none⟩=some (.bool r.whole)/\W.cell? ⟨w.heap.size+1+1,10,none⟩=some (.slice b.oa r.I.length b.oc)) (go_keep) (fail);have ah:∀o i,(f.alloc o).cell? ⟨w.heap.size+1+1,i,none⟩=[Value.int .i64 r.od,.int .i64 r.oa,.int .i64 r.S,.bool r.on,.string ⟨r.s.toArray⟩,.int .i64 r.A,.int .i64 r.stop,.int .i64 r.err,.bool r.whole,.slice b.ea r.y.length b.ec,.slice b.oa r.I.length b.oc,.slice b.ga r.P.length b.gc][i]?:=λo i=>by
  rw[<-l i];simp only[World.cell?];rw[dG _ _ _ E]
 have ai:∀o i,(f.alloc o).cell? ⟨w.heap.size+1,i,none⟩=(#[Value.slice none 0 0,.int .i64 0,.bool false,.int .i64 0,.slice none 0 0,.int .i64 0,.int .i64 0])[i]?:=λo i=>by
  rw[<-a4 i];simp only[World.cell?];rw[dG _ _ _ z]
 have aj:∀o i,(f.alloc o).frozen? ⟨w.heap.size+1,i,none⟩=false:=λo i=>by
  rw[<-a5 i];simp only[World.frozen?];rw[dG _ _ _ z]
 clear n9 n7 n8 a7 c9 c7 c8 F
 go_wp2_with(first
  |(go_at_call 63;go_call(a3.u _)as e w2 ⟨rfl,hw⟩;obtain rfl:=hw.symm)
  |with_reducible refine akd ?_)
 have hO:=a6.u;have hF:=HF.u;subst hF;have x:=abB (vs:=pF r b s.length line c) (o:=.cells (pF r b s.length line c).toArray 97) hO;rw[IC]at x;have I:=N.u.keep (w' :=zx f (w.heap.size+1) (pF r b s.length line c) (.cells (pF r b s.length line c).toArray 97)) λk R=>by
  have h8:=N.u.jh;have h9:=N.u.lt;obtain rfl|R:=R
  .exact IB f _ _ _ _ (by omega) h9
  exact IB f _ _ _ _ (by have:=(h8 k R).1;omega) (h8 k R).2
 obtain⟨k1,k2,k3,k4⟩:=Ph (w0:=w) I (by omega);have K:=D.u.trans (abC f (w.heap.size+1) (pF r b s.length line c) (.cells (pF r b s.length line c).toArray 97) (by omega) D.u.size);obtain⟨W,hW⟩:=aj8 (zx f (w.heap.size+1) (pF r b s.length line c) (.cells (pF r b s.length line c).toArray 97));have a9:∀(Q:Exit->Act->World->Prop) (a:Act),Q .ret a W->Q .ret a (zx f (w.heap.size+1) (pF r b s.length line c) (.cells (pF r b s.length line c).toArray 97)):=λQ a h=>by rwa[<-hW]
 rw[<-hW]at x k2 k3 k4 K;clear I;refine Y (a9 _ _ ?_);refine bodyPost_ret (v:=.agg (pF r b s.length line c).toArray) (yK rfl _ _ (w.heap.size+1) 97 _ (0,0) _ rfl x underlying97 rfl IG) rfl ?_;exact⟨_,rfl,⟨_,_,b.es,rfl,k1,k2,k3,k4⟩,K⟩
end
