import Derived.Test.YtmgfijllcdadgaaGreatDoorNW29
import Derived.Test.YtmgfijllcdadgaaGreatDoorNW18
import Derived.Deep.RegionHeld3
set_option linter.unusedVariables false
set_option linter.unusedSimpArgs false
set_option maxHeartbeats 4000000
set_option maxRecDepth 100000
namespace Go.Proofs.YtmgfijllcdadgaaGreatDoor.V
open Go.RowKit
open Mk (Bs Ev aD)
open Rf (R)
open Go.Proofs.Tryz
open Rf (fT Pz)
variable {b g u:Nat}{L:aH}{w w1 w3:World}{a vs:List Value}{t:TypeId}
def qX:aH:=⟨none,0,none,0,none,0,[],[]⟩
section
variable {od oa ot:Int}{on:Bool}{s:Bs}
theorem sO(w:World)(od oa ot:Int)(on:Bool)(s:Bs):aI (w.alloc (.cells #[.int .i64 od,.int .i64 oa,.int .i64 ot,.bool on,.string ⟨s.toArray⟩,.int .i64 0,.int .i64 0,.int .i64 0,.bool false,.slice none 0 0,.slice none 0 0,.slice none 0 0] 111)) w.heap.size (Rf.start od oa ot on s) qX:=by
 refine⟨heap_alloc_new w _,?_,rfl,rfl⟩;refine⟨fun r a=>?_,?_⟩
 .simp only[a_,qX,List.map_nil,List.append_nil,List.mem_cons,List.not_mem_nil,or_false]at a;rcases a with rfl|rfl|rfl<;>exact World.ownsRow_nil _ _ _ _
 simp[a_,qX,aW,dJ,cO,bK,Value.ownBlock,Rf.start]
theorem BL(e:1≤od)(f:od≤64)(a:0≤oa)(g:oa≤32)(h:8≤ot)(b:ot≤1024)(c:s.length≤100000000):Fit (Rf.start od oa ot on s):=
 ⟨⟨by show s.length≤_;omega,Nat.zero_le _,by show 0≤ot;omega,b⟩,by show 1≤ot;omega,⟨a,by show oa≤_;omega⟩,by show od≤_;omega,by show((0:Nat):Int)≤od;omega,rfl,c,(fun t d=>nomatch d),Nat.zero_le _⟩
def pP(w0 w' :World)(v:Value)(x:Rf.kg):Prop:=
 ∃ve vo es,v=.agg #[ve,.int .i64 x.err,.bool x.whole,.int .i64 (x.at_:Int),vo,.int .i64 x.line,.int .i64 x.column]∧es.map (·.1)=x.events∧w'.ownsRow w0.heap.size 65 5 ve es.length (bA es)∧(∀p∈es,cJ w0.heap.size w'.heap.size w' p.2 p.1.aC)∧w'.ownsRow w0.heap.size 9 1 vo x.opn.length (x.opn.map sv)
theorem BM{w0 w' :World}{r:R}(h:aI w' b r L)(d:w0.heap.size≤b):
 L.es.map (·.1)=r.events∧w'.ownsRow w0.heap.size 65 5 (.slice L.ea r.events.length L.ec) L.es.length (bA L.es)∧(∀p∈L.es,cJ w0.heap.size w'.heap.size w' p.2 p.1.aC)∧w'.ownsRow w0.heap.size 9 1 (.slice L.oa r.opn.length L.oc) r.opn.length (r.opn.map sv):=by
 have a:L.es.length=r.events.length:=by rw[←h.evs];simp
 refine⟨h.evs,?_,fun p c=>?_,?_⟩
 .rw[a];exact nS (h.rows.own (dJ r L) (by simp[a_])) (by omega)
 .exact(cJ.of (h.rows.own (aN p) (by simp only[a_,List.mem_cons,List.mem_append,List.mem_map];right;right;right;left;exact⟨p,c,rfl⟩))).low (by omega)
 exact nS (h.rows.own (cO r L) (by simp[a_])) (by omega)
def dV(w:World)(g:Nat):Nat→List Value→World
 |_,[]=>w
 |i,v::vs=>dV (w.setCell ⟨g,i,none⟩ v) g (i+1) vs
def pQ(w1:World)(g:Nat)(vs:List Value)(o:Obj):World:=((dV w1 g 0 vs).alloc o).drew
theorem mg(w:World)(o:Obj):(w.alloc o).heap.size=w.heap.size+1:=by simp
theorem size_set(w:World)(a:Addr)(v:Value):(w.setCell a v).heap.size=w.heap.size:=by simp[World.setCell]
theorem KD{i:Nat}(h:w.heap[g]?=some (.cells a.toArray t (0,0)))(v:Value):(w.setCell ⟨g,i,none⟩ v).heap[g]?=some (.cells (a.set i v).toArray t (0,0)):=by
 simp[World.setCell,Array.getElem?_modify,h]
def pR(cs:List Value):Nat→List Value→List Value
 |_,[]=>cs
 |i,v::vs=>pR (cs.set i v) (i+1) vs
theorem qY(g:Nat):∀(vs:List Value) (w:World) (i:Nat),(dV w g i vs).heap.size=w.heap.size
 |[],w,i=>rfl
 |v::vs,w,i=>by rw[dV,qY g vs,size_set]
theorem nZ(g:Nat):∀(vs:List Value) (w:World) (i:Nat),(dV w g i vs).os=w.os∧(dV w g i vs).tape=w.tape∧(dV w g i vs).output=w.output
 |[],w,i=>⟨rfl,rfl,rfl⟩
 |v::vs,w,i=>by rw[dV];exact nZ g vs _ _
theorem pU{g:Nat}{t:TypeId}:∀(vs:List Value) (w:World) (i:Nat) (a:List Value),w.heap[g]?=some (.cells a.toArray t (0,0))→(dV w g i vs).heap[g]?=some (.cells (pR a i vs).toArray t (0,0))
 |[],w,i,a,h=>h
 |v::vs,w,i,a,h=>by rw[dV,pR];exact pU vs _ _ _ (KD h v)
theorem n_{g k:Nat}(a:k≠g):∀(vs:List Value) (w:World) (i:Nat),(dV w g i vs).heap[k]?=w.heap[k]?
 |[],w,i=>rfl
 |v::vs,w,i=>by rw[dV,n_ a vs,Below.heap_setCell _ _ _ _ a]
theorem KE{o:Obj}(h:w1.heap[g]?=some (.cells a.toArray t (0,0))):(pQ w1 g vs o).heap[g]?=some (.cells (pR a 0 vs).toArray t (0,0)):=
 (Below.heap_alloc _ _ _ (by rw[qY];exact(Array.getElem?_eq_some_iff.1 h).1)).trans (pU vs w1 0 a h)
theorem wZ(w1:World)(g:Nat)(vs:List Value)(o:Obj)(k:Nat)(a:k≠g)(b:k<w1.heap.size):(pQ w1 g vs o).heap[k]?=w1.heap[k]?:=
 (Below.heap_alloc _ _ _ (by rw[qY];exact b)).trans (n_ a vs w1 0)
theorem KF{B:Nat}(w1:World)(g:Nat)(vs:List Value)(o:Obj)(a:B≤g)(b:B≤w1.heap.size):Below B w1 (pQ w1 g vs o):=
 ⟨(nZ g vs w1 0).1,(nZ g vs w1 0).2.1,(nZ g vs w1 0).2.2,by show w1.heap.size≤(World.alloc _ o).heap.size;rw[mg,qY];omega,fun k c=>wZ w1 g vs o k (by omega) (by omega)⟩
theorem w_(h i j k l m n a b c d e f g:Value):pR [h,i,j,k,l,m,n] 0 [a,b,c,d,e,f,g]=[a,b,c,d,e,f,g]:=rfl
abbrev iT(r:R)(L:aH)(n:Nat)(line col:Int):List Value:=[.slice L.ea r.events.length L.ec,.int .i64 r.err,.bool r.whole,.int .i64 (n:Int),.slice L.oa r.opn.length L.oc,.int .i64 line,.int .i64 col]
def lF(w:World)(g:Nat):List (Nat×Value)→World
 |[]=>w
 |p::l=>lF (w.setCell ⟨g,p.1,none⟩ p.2) g l
theorem BN(g:Nat):∀(l:List (Nat×Value)) (w:World),(lF w g l).heap.size=w.heap.size
 |[],w=>rfl
 |p::l,w=>by rw[lF,BN g l,size_set]
theorem tZ(g:Nat):∀(l:List (Nat×Value)) (w:World),(lF w g l).os=w.os∧(lF w g l).tape=w.tape∧(lF w g l).output=w.output
 |[],w=>⟨rfl,rfl,rfl⟩
 |p::l,w=>by rw[lF];exact tZ g l _
theorem xg{g k:Nat}(a:k≠g):∀(l:List (Nat×Value)) (w:World),(lF w g l).heap[k]?=w.heap[k]?
 |[],w=>rfl
 |p::l,w=>by rw[lF,xg a l,Below.heap_setCell _ _ _ _ a]
def ku(w3:World)(u g:Nat)(ps:List (Nat×Value))(vs:List Value):World:=dV (lF w3 u ps) g 0 vs
theorem BO{ps:List (Nat×Value)}(b:g≠u)(h:w3.heap[g]?=some (.cells a.toArray t (0,0))):(ku w3 u g ps vs).heap[g]?=some (.cells (pR a 0 vs).toArray t (0,0)):=
 pU vs _ 0 a ((xg b ps w3).trans h)
theorem pV{k:Nat}(ps:List (Nat×Value))(vs:List Value)(a:k≠u)(b:k≠g):(ku w3 u g ps vs).heap[k]?=w3.heap[k]?:=
 (n_ b vs _ 0).trans (xg a ps w3)
theorem xh{B:Nat}(w3:World)(ps:List (Nat×Value))(vs:List Value)(a:B≤u)(b:B≤g):Below B w3 (ku w3 u g ps vs):=
 ⟨(nZ g vs _ 0).1.trans (tZ u ps w3).1,(nZ g vs _ 0).2.1.trans (tZ u ps w3).2.1,(nZ g vs _ 0).2.2.trans (tZ u ps w3).2.2,by show w3.heap.size≤(dV _ g 0 vs).heap.size;rw[qY,BN];exact Nat.le_refl _,fun k c=>pV ps vs (by omega) (by omega)⟩
theorem xj:(Tryz.prog.info? 97).map (·.size)=some 7:=by kernel_rfl
theorem xo(od oa ot:Int)(on:Bool)(s:Bs):aR (Rf.start od oa ot on s) qX=[]:=by
 simp[aR,a_,qX,aW,dJ,cO,bK,Value.ownBlock,Rf.start]
theorem BP{a d O3:Obj}{q r:R}{f:aH}(c:aL (((w.alloc a).alloc d).alloc O3) b (aR q L) w1 r f)(g:aR q L=[])(j:b=w.heap.size+1+1):
 w1.heap[w.heap.size]?=some a∧w1.heap[w.heap.size+1]?=some d∧Below w.heap.size w w1:=by
 rw[g]at c;have i:=c.fr.size;have e:∀k,k<w.heap.size+1+1→w1.heap[k]?=((w.alloc a).alloc d).heap[k]?:=fun k e=>
  (c.fr.block k (by simp;omega) (by omega) (by simp)).trans (Below.heap_alloc _ _ _ (by simp;omega))
 refine⟨?_,?_,⟨c.fr.os,c.fr.tape,c.fr.output,by simp at i;omega,fun k h=>?_⟩⟩
 .rw[e _ (by omega),Below.heap_alloc _ _ _ (by simp)];exact heap_alloc_new w a
 .rw[e _ (by omega)];have:=heap_alloc_new (w.alloc a) d;rw[show(w.alloc a).heap.size=w.heap.size+1 by simp]at this;exact this
 rw[e _ (by omega),Below.heap_alloc _ _ _ (by simp;omega),Below.heap_alloc _ _ _ h]
theorem KG{w2:World}{O:Obj}{p q:R}{c:aH}(a:aL (w2.alloc O).drew b (aR p L) w3 q c)(d:aR p L=[])(e:b=w2.heap.size):Below w2.heap.size w2 w3:=by
 rw[d]at a;have f:=a.fr.size;have g:(w2.alloc O).drew.heap.size=w2.heap.size+1:=by simp
 exact⟨a.fr.os,a.fr.tape,a.fr.output,by omega,fun k h=>(a.fr.block k (by omega) (by omega) (by simp)).trans (Below.heap_alloc _ _ _ h)⟩
theorem aM{a:Array Value}(h:w.heap[g]?=some (.cells a t (0,0))):(∀i,w.cell? ⟨g,i,none⟩=a[i]?)∧(∀i,w.frozen? ⟨g,i,none⟩=false)∧g<w.heap.size:=
 ⟨fun i=>by simp[World.cell?,h],fun i=>by simp[World.frozen?,h],(Array.getElem?_eq_some_iff.1 h).1⟩
theorem lu(d1:1≤od)(d2:od≤64)(a1:0≤oa)(a2:oa≤32)(t1:8≤ot)(t2:ot≤1024)(hs:s.length≤100000000)(w:World)(hG:bG w):
 Calls Tryz.prog 45 #[.agg #[.int .i64 od,.int .i64 oa,.int .i64 ot,.bool on],.string ⟨s.toArray⟩] w fun e w' =>∃v,e=.returned v∧pP w w' v (Rf.read od oa ot on s)∧Below w.heap.size w w' :=by
 have a5:=hG.lt;have z:=fun(W:World) (R:Below w.heap.size w W) (tx:Bs) (al:tx.length≤100000000)=>BJ (sO W od oa ot on tx) (BL d1 d2 a1 a2 t1 t2 al) (hG.below (R.trans ((Below.refl _ _).alloc (Nat.le_refl _) _ |>.mono R.size))) (Nat.lt_of_lt_of_le a5 R.size)
 have J:=z ((w.alloc (.cells #[.int .i64 od,.int .i64 oa,.int .i64 ot,.bool on] 40)).alloc (.cells #[.slice none 0 0,.int .i64 0,.bool false,.int .i64 0,.slice none 0 0,.int .i64 0,.int .i64 0] 97)) (((Below.refl _ _).alloc (Nat.le_refl _) _).alloc (by simp) _) s hs;rw[show((w.alloc (.cells #[.int .i64 od,.int .i64 oa,.int .i64 ot,.bool on] 40)).alloc (.cells #[.slice none 0 0,.int .i64 0,.bool false,.int .i64 0,.slice none 0 0,.int .i64 0,.int .i64 0] 97)).heap.size=w.heap.size+1+1 by simp]at J;have a6:=aB (fun n hn W=>vR s n hn (by omega) W);obtain⟨a7,d⟩:∃a7,a7=Rf.read od oa ot on s:=⟨_,rfl⟩;rw[←d];unfold Rf.read at d;simp only at d;obtain⟨r,hr⟩:∃r,Rf.document (Rf.start od oa ot on s)=r:=⟨_,rfl⟩;rw[hr]at d J;have a8:=aB J;have am:=aB hG;clear hG J;by_cases t:r.stop=2
 .rw[if_pos t]at d;have e2:(r.stop==2)=true:=by simpa using t
  have an:r.at_≤s.length:=by
   have h5:=wX (Rf.start od oa ot on s) (Nat.zero_le _) (by show 1≤ot;omega) hs;rw[hr]at h5;exact h5.2.1
  obtain⟨q,hq⟩:∃q,Rf.document (Rf.start od oa ot on (s.take r.at_))=q:=⟨_,rfl⟩;have S:=aB (fun(W:World) (R:Below w.heap.size w W)=>BJ (w:=(W.alloc _).drew) ((sO W od oa ot on (s.take r.at_)).keep fun _ _=>rfl) (BL d1 d2 a1 a2 t1 t2 (by rw[List.length_take];omega)) ((aA am).below ((R.trans ((Below.refl _ _).alloc (Nat.le_refl _) _ |>.mono R.size)).drew)) (Nat.lt_of_lt_of_le a5 R.size));rw[hq]at d S;have HF:=aB d;have T:=aB (aA a6 r.at_ an);generalize(Rf.place s r.at_).1=line at *;generalize(Rf.place s r.at_).2=col at *;have ay:ByteArray.extract ⟨s.toArray⟩ 0 r.at_=⟨(s.take r.at_).toArray⟩:=by
   have:=iS s 0 r.at_;rw[Nat.zero_add,List.drop_zero]at this;exact this
  have av:(r.at_:Int)≤(s.length:Int):=by omega
  have az:r.at_+1≤100000001:=by omega
  clear d hr t z hq;go_enter func45,ntmps45
  go_wp2_with(go_at_call 62;refine(aA a8).mono ?_;rintro e w1 ⟨rfl,b,j⟩;obtain⟨l,m,A⟩:=BP j (xo _ _ _ _ _) rfl;obtain⟨ao,ap,a9⟩:=aM l;obtain⟨X,Y,x⟩:=aM m;have C:=aB A;have K:=aB j.rd;have f:=j.rd.cell;have aa:=j.rd.frozen;have D:=j.rd.lt;unfold aF at f;have ab:=aB l;have Z:=aB m;clear j l m A)
  have c9:w1.cell? ⟨w.heap.size+1+1,9,none⟩=some (.slice b.ea r.events.length b.ec):=by rw[f];rfl
  have c7:w1.cell? ⟨w.heap.size+1+1,7,none⟩=some (.int .i64 r.err):=by rw[f];rfl
  have c8:w1.cell? ⟨w.heap.size+1+1,8,none⟩=some (.bool r.whole):=by rw[f];rfl
  have E:w1.cell? ⟨w.heap.size+1+1,10,none⟩=some (.slice b.oa r.opn.length b.oc):=by rw[f];rfl
  have n9:=World.new_ne w1 _ c9;have n7:=World.new_ne w1 _ c7;have n8:=World.new_ne w1 _ c8;have a0:=World.new_ne w1 _ E;go_region_held3 (fun W=>W.cell? ⟨w.heap.size+1+1,9,none⟩=some (.slice b.ea r.events.length b.ec)∧W.cell? ⟨w.heap.size+1+1,7,none⟩=some (.int .i64 r.err)∧W.cell? ⟨w.heap.size+1+1,8,none⟩=some (.bool r.whole)∧W.cell? ⟨w.heap.size+1+1,10,none⟩=some (.slice b.oa r.opn.length b.oc)) (go_keep) (fail)
  have ad:∀o i,(w1.alloc o).cell? ⟨w.heap.size+1+1,i,none⟩=[Value.int .i64 r.od,.int .i64 r.oa,.int .i64 r.ot,.bool r.on,.string ⟨r.s.toArray⟩,.int .i64 r.at_,.int .i64 r.stop,.int .i64 r.err,.bool r.whole,.slice b.ea r.events.length b.ec,.slice b.oa r.opn.length b.oc,.slice b.ga r.tags.length b.gc][i]?:=fun o i=>by
   rw[←f i];simp only[World.cell?];rw[Below.heap_alloc _ _ _ D]
  have ae:∀o i,(w1.alloc o).cell? ⟨w.heap.size+1,i,none⟩=(#[Value.slice none 0 0,.int .i64 0,.bool false,.int .i64 0,.slice none 0 0,.int .i64 0,.int .i64 0])[i]?:=fun o i=>by
   rw[←X i];simp only[World.cell?];rw[Below.heap_alloc _ _ _ x]
  have af:∀o i,(w1.alloc o).frozen? ⟨w.heap.size+1,i,none⟩=false:=fun o i=>by
   rw[←Y i];simp only[World.frozen?];rw[Below.heap_alloc _ _ _ x]
  clear n9 n7 n8 a0 c9 c7 c8 E;have ag:=(aA C).size;have a3:Below w.heap.size w (w1.alloc (.cells (iT r b s.length 0 0).toArray 97)).drew:=((aA C).alloc ag _).drew;have F:((w1.alloc (.cells (iT r b s.length 0 0).toArray 97)).drew).heap[w.heap.size]?=_:=(Below.heap_alloc _ _ _ a9).trans (aA ab);have N:((w1.alloc (.cells (iT r b s.length 0 0).toArray 97)).drew).heap[w.heap.size+1]?=_:=(Below.heap_alloc _ _ _ x).trans (aA Z);have O:((w1.alloc (.cells (iT r b s.length 0 0).toArray 97)).drew).heap[w1.heap.size]?=_:=heap_alloc_new w1 _;go_wp2_with fail
  generalize aq:(w1.alloc (.cells (iT r b s.length 0 0).toArray 97)).drew=w2 at *;have ah:=aB a3;have aw:=aB F;have G:=aB N;have P:=aB O;obtain⟨b0,b1,b2⟩:=aM F;have ar:=aB (aA S w2 a3);clear aq a3 F N O S ad ae af f aa;generalize w1.heap.size=u at *;go_region
  have au:u<w2.heap.size:=(aM (aA P)).2.2;have ai:w.heap.size+1<w2.heap.size:=(aM (aA G)).2.2
  go_wp2_with(first
   |(go_at_call 62;refine(aA ar).mono ?_;rintro e w3 ⟨rfl,c,y⟩;have L:=aB (KG y (xo _ _ _ _ _) rfl);obtain⟨b3,b4,b5⟩:=aM (((aA L).block u au).trans (aA P));obtain⟨b6,b7,b8⟩:=aM (((aA L).block _ ai).trans (aA G));have aj:=aB y.rd;have hc3:=y.rd.cell;have b9:=y.rd.frozen;have ax:=y.rd.lt;unfold aF at hc3;clear y)
   |(go_at_call 63;refine(aA T _).mono ?_;rintro e w4 ⟨rfl,hw⟩;obtain rfl:=hw.symm))
  have hF:=aA HF;subst hF;have p:=BO (u:=u) (ps:=[(0,.slice c.ea q.events.length c.ec),(4,.slice c.oa q.opn.length c.oc),(3,.int .i64 ((r.at_:Int)+1)),(5,.int .i64 line),(6,.int .i64 col)]) (vs:=[.slice c.ea q.events.length c.ec,.int .i64 r.err,.bool r.whole,.int .i64 ((r.at_:Int)+1),.slice c.oa q.opn.length c.oc,.int .i64 line,.int .i64 col]) (by omega) (((aA L).block _ ai).trans (aA G));rw[w_]at p;have H:=(aA aj).keep (w' :=(ku w3 u (w.heap.size+1) [(0,.slice c.ea q.events.length c.ec),(4,.slice c.oa q.opn.length c.oc),(3,.int .i64 ((r.at_:Int)+1)),(5,.int .i64 line),(6,.int .i64 col)] [.slice c.ea q.events.length c.ec,.int .i64 r.err,.bool r.whole,.int .i64 ((r.at_:Int)+1),.slice c.oa q.opn.length c.oc,.int .i64 line,.int .i64 col])) fun k M=>by
   have h8:=(aA aj).dF;rcases M with rfl|M
   .exact pV _ _ (by omega) (by omega)
   exact pV _ _ (by have:=(h8 k M).1;omega) (by have:=(h8 k M).1;omega)
  have ak:=(aA ah).size;obtain⟨k1,k2,k3,k4⟩:=BM (w0:=w) H (by omega);have I:=((aA ah).trans ((aA L).mono ak)).trans (xh (B:=w.heap.size) w3 (u:=u) (g:=w.heap.size+1) [(0,.slice c.ea q.events.length c.ec),(4,.slice c.oa q.opn.length c.oc),(3,.int .i64 ((r.at_:Int)+1)),(5,.int .i64 line),(6,.int .i64 col)] [.slice c.ea q.events.length c.ec,.int .i64 r.err,.bool r.whole,.int .i64 ((r.at_:Int)+1),.slice c.oa q.opn.length c.oc,.int .i64 line,.int .i64 col] (by omega) (by omega));obtain⟨W,hW⟩:∃W,W=(ku w3 u (w.heap.size+1) [(0,.slice c.ea q.events.length c.ec),(4,.slice c.oa q.opn.length c.oc),(3,.int .i64 ((r.at_:Int)+1)),(5,.int .i64 line),(6,.int .i64 col)] [.slice c.ea q.events.length c.ec,.int .i64 r.err,.bool r.whole,.int .i64 ((r.at_:Int)+1),.slice c.oa q.opn.length c.oc,.int .i64 line,.int .i64 col]):=⟨_,rfl⟩;have a4:∀(Q:Exit→Act→World→Prop) (a:Act),Q .ret a W→Q .ret a (ku w3 u (w.heap.size+1) [(0,.slice c.ea q.events.length c.ec),(4,.slice c.oa q.opn.length c.oc),(3,.int .i64 ((r.at_:Int)+1)),(5,.int .i64 line),(6,.int .i64 col)] [.slice c.ea q.events.length c.ec,.int .i64 r.err,.bool r.whole,.int .i64 ((r.at_:Int)+1),.slice c.oa q.opn.length c.oc,.int .i64 line,.int .i64 col]):=fun Q a h=>by rw[←hW];exact h
  rw[←hW]at p k2 k3 k4 I;clear H;refine a4 _ _ ?_;refine bodyPost_ret (results_cell_row rfl _ _ (w.heap.size+1) 97 _ (0,0) _ rfl p underlying97 rfl xj) rfl ?_;exact⟨_,rfl,⟨_,_,c.es,rfl,k1,k2,k3,k4⟩,I⟩
 rw[if_neg t]at d;have e2:(r.stop==2)=false:=by simpa using t
 have HF:=aB d;have T:=aB (aA a6 s.length (Nat.le_refl _));generalize(Rf.place s s.length).1=line at *;generalize(Rf.place s s.length).2=col at *;clear d hr t z;go_enter func45,ntmps45
 go_wp2_with(go_at_call 62;refine(aA a8).mono ?_;rintro e w1 ⟨rfl,b,j⟩;obtain⟨l,m,A⟩:=BP j (xo _ _ _ _ _) rfl;obtain⟨ao,ap,a9⟩:=aM l;obtain⟨X,Y,x⟩:=aM m;have C:=aB A;have K:=aB j.rd;have f:=j.rd.cell;have aa:=j.rd.frozen;have D:=j.rd.lt;unfold aF at f;have ab:=aB l;have Z:=aB m;clear j l m A)
 have c9:w1.cell? ⟨w.heap.size+1+1,9,none⟩=some (.slice b.ea r.events.length b.ec):=by rw[f];rfl
 have c7:w1.cell? ⟨w.heap.size+1+1,7,none⟩=some (.int .i64 r.err):=by rw[f];rfl
 have c8:w1.cell? ⟨w.heap.size+1+1,8,none⟩=some (.bool r.whole):=by rw[f];rfl
 have E:w1.cell? ⟨w.heap.size+1+1,10,none⟩=some (.slice b.oa r.opn.length b.oc):=by rw[f];rfl
 have n9:=World.new_ne w1 _ c9;have n7:=World.new_ne w1 _ c7;have n8:=World.new_ne w1 _ c8;have a0:=World.new_ne w1 _ E;go_region_held3 (fun W=>W.cell? ⟨w.heap.size+1+1,9,none⟩=some (.slice b.ea r.events.length b.ec)∧W.cell? ⟨w.heap.size+1+1,7,none⟩=some (.int .i64 r.err)∧W.cell? ⟨w.heap.size+1+1,8,none⟩=some (.bool r.whole)∧W.cell? ⟨w.heap.size+1+1,10,none⟩=some (.slice b.oa r.opn.length b.oc)) (go_keep) (fail)
 have ad:∀o i,(w1.alloc o).cell? ⟨w.heap.size+1+1,i,none⟩=[Value.int .i64 r.od,.int .i64 r.oa,.int .i64 r.ot,.bool r.on,.string ⟨r.s.toArray⟩,.int .i64 r.at_,.int .i64 r.stop,.int .i64 r.err,.bool r.whole,.slice b.ea r.events.length b.ec,.slice b.oa r.opn.length b.oc,.slice b.ga r.tags.length b.gc][i]?:=fun o i=>by
  rw[←f i];simp only[World.cell?];rw[Below.heap_alloc _ _ _ D]
 have ae:∀o i,(w1.alloc o).cell? ⟨w.heap.size+1,i,none⟩=(#[Value.slice none 0 0,.int .i64 0,.bool false,.int .i64 0,.slice none 0 0,.int .i64 0,.int .i64 0])[i]?:=fun o i=>by
  rw[←X i];simp only[World.cell?];rw[Below.heap_alloc _ _ _ x]
 have af:∀o i,(w1.alloc o).frozen? ⟨w.heap.size+1,i,none⟩=false:=fun o i=>by
  rw[←Y i];simp only[World.frozen?];rw[Below.heap_alloc _ _ _ x]
 clear n9 n7 n8 a0 c9 c7 c8 E;go_wp2_with(go_at_call 63;refine(aA T _).mono ?_;rintro e w2 ⟨rfl,hw⟩;obtain rfl:=hw.symm)
 have hO:=aA Z;have hF:=aA HF;subst hF;have p:=KE (vs:=iT r b s.length line col) (o:=.cells (iT r b s.length line col).toArray 97) hO;rw[w_]at p;have H:=(aA K).keep (w' :=pQ w1 (w.heap.size+1) (iT r b s.length line col) (.cells (iT r b s.length line col).toArray 97)) fun k M=>by
  have h8:=(aA K).dF;have h9:=(aA K).lt;rcases M with rfl|M
  .exact wZ w1 _ _ _ _ (by omega) h9
  exact wZ w1 _ _ _ _ (by have:=(h8 k M).1;omega) (h8 k M).2
 obtain⟨k1,k2,k3,k4⟩:=BM (w0:=w) H (by omega);have I:=(aA C).trans (KF w1 (w.heap.size+1) (iT r b s.length line col) (.cells (iT r b s.length line col).toArray 97) (by omega) (aA C).size);obtain⟨W,hW⟩:∃W,W=pQ w1 (w.heap.size+1) (iT r b s.length line col) (.cells (iT r b s.length line col).toArray 97):=⟨_,rfl⟩;have a4:∀(Q:Exit→Act→World→Prop) (a:Act),Q .ret a W→Q .ret a (pQ w1 (w.heap.size+1) (iT r b s.length line col) (.cells (iT r b s.length line col).toArray 97)):=fun Q a h=>by rw[←hW];exact h
 rw[←hW]at p k2 k3 k4 I;clear H;refine a4 _ _ ?_;refine bodyPost_ret (v:=.agg (iT r b s.length line col).toArray) (results_cell_row rfl _ _ (w.heap.size+1) 97 _ (0,0) _ rfl p underlying97 rfl xj) rfl ?_;exact⟨_,rfl,⟨_,_,b.es,rfl,k1,k2,k3,k4⟩,I⟩
end
theorem BQ(l m:List aD)(k:Nat)(a:k<l.length)(b:k<m.length):fT (l.drop k) (m.drop k)=(decide (l[k].name=m[k].name)&&decide (l[k].space=m[k].space)&&decide (l[k].val=m[k].val)&&fT (l.drop (k+1)) (m.drop (k+1))):=by
 rw[List.drop_eq_getElem_cons a,List.drop_eq_getElem_cons b,fT]
theorem xq:∀{l m:List aD},l.length≠m.length→fT l m=false
 |[],[],h=>absurd rfl h
 |[],_::_,_=>rfl
 |_::_,[],_=>rfl
 |a::l,b::m,h=>by
  rw[fT,xq (l:=l) (m:=m) (fun e=>h (by simp[e])),Bool.and_false]
theorem BR(l m:List Ev)(k:Nat)(a:k<l.length)(b:k<m.length):Rf.same (l.drop k) (m.drop k)=(Pz l[k] m[k]&&Rf.same (l.drop (k+1)) (m.drop (k+1))):=by
 rw[List.drop_eq_getElem_cons a,List.drop_eq_getElem_cons b,Rf.same]
theorem xu:∀{l m:List Ev},l.length≠m.length→Rf.same l m=false
 |[],[],h=>absurd rfl h
 |[],_::_,_=>rfl
 |_::_,[],_=>rfl
 |a::l,b::m,h=>by
  rw[Rf.same,xu (l:=l) (m:=m) (fun e=>h (by simp[e])),Bool.and_false]
theorem jD(w:World)(a b:Obj):Below w.heap.size w ((w.alloc a).alloc b):=((Below.refl _ _).alloc (Nat.le_refl _) a).alloc (by simp) b
theorem ol(w:World)(a b:Obj)(n:Nat):Below w.heap.size w (((w.alloc a).alloc b).drewN n):=(jD w a b).trans ((below_drewN _ n).mono (by simp;omega))
theorem mh(w:World)(n m:Nat):(w.drewN n).drewN m=w.drewN (n+m):=by simp[World.drewN,Nat.add_assoc]
theorem KH{N O:Value}{l m:List aD}{Y E Z F:Nat}(G:cJ Y Z w N l)(H:cJ E F w O m):
 Calls Tryz.prog 91 #[N,O] w fun e w' =>e=.returned (.bool (fT l m))∧∃n,w' =w.drewN n:=by
 have hl:=G.len;have a0:=H.len;obtain⟨a1,c1,rfl,o⟩:=G.form;obtain⟨a2,c2,rfl,p⟩:=H.form;have i:=aB o;have j:=aB p;obtain⟨a,c⟩:∃a,a=fT l m:=⟨_,rfl⟩;rw[←c];clear G H o p;by_cases d:l.length=m.length
 .have e0:((l.length:Int) !=(m.length:Int))=false:=by simp[d]
  have I:=aB (show a=fT (l.drop 0) (m.drop 0)from c);have q:=aB d;clear c d;go_enter func91,ntmps91
  go_wp2_with fail
  go_loopg [5] l.length (fun g s5 wx=>∃k:Nat,k≤l.length∧g=l.length - k∧s5=.int .i64 k∧Hid (a=fT (l.drop k) (m.drop k))∧∃n,wx=w.drewN n)
  case atStart=>exact⟨0,by omega,rfl,rfl,I,0,rfl⟩
  case round=>
   obtain⟨k,hk,rfl,rfl,f,n,rfl⟩:=hrel;have d:=aA q;by_cases r:k<l.length
   .have e1:decide ((k:Int)<(l.length:Int))=true:=by simp;omega
    have h:k<m.length:=by omega
    have hfin:=aA f;rw[BQ l m k r h]at hfin;obtain⟨g1,o1,f1,⟨_,_,_⟩,C⟩:=(aA i) k r;obtain⟨g2,o2,f2,⟨_,_,_⟩,D⟩:=(aA j) k h;subst f1 f2;have s:=C 0 (by decide);have t:=C 1 (by decide);have u:=C 2 (by decide);have v:=D 0 (by decide);have z:=D 1 (by decide);have A:=D 2 (by decide);simp[bZ]at s t u v z A;clear C D i j f I q;generalize l[k]=x at *;generalize m[k]=y at *;obtain⟨P,Q,R⟩:=x;obtain⟨S,T,X⟩:=y;simp only at s t u v z A hfin;by_cases J:P=S
    .subst J;by_cases K:Q=T
     .subst K;by_cases L:R=X
      .subst L;simp only[decide_true,Bool.true_and]at hfin;have M:=aB hfin;clear hfin;go_wp2_with fail
       go_quiet(fail)
       go_wp2_with fail
       go_roundg (l.length - (k+1))
       case measure=>omega
       case rel=>exact⟨k+1,by omega,rfl,by simp,M,n+nq,by first|rfl|rw[mh]⟩
      have b:a=false:=by rw[hfin];simp[L]
      have B:(R==X)=false:=by simpa using L
      clear hfin;subst b;go_wp2_with fail
      go_quiet(fail)
      go_wp2_with fail
      go_ret;exact⟨rfl,n+nq,by first|rfl|rw[mh]⟩
     have b:a=false:=by rw[hfin];simp[K]
     have B:(Q==T)=false:=by simpa using K
     clear hfin;subst b;go_wp2_with fail
     go_quiet(fail)
     go_wp2_with fail
     go_ret;exact⟨rfl,n+nq,by first|rfl|rw[mh]⟩
    have b:a=false:=by rw[hfin];simp[J]
    have B:(P==S)=false:=by simpa using J
    clear hfin;subst b;go_wp2_with fail
    go_quiet(fail)
    go_wp2_with fail
    go_ret;exact⟨rfl,n+nq,by first|rfl|rw[mh]⟩
   have e1:decide ((k:Int)<(l.length:Int))=false:=by simp;omega
   have a3:decide ((k:Int)<(m.length:Int))=false:=by simp;omega
   have hfin:=aA f;rw[List.drop_of_length_le (by omega:l.length≤k),List.drop_of_length_le (by omega:m.length≤k)]at hfin;have b:a=true:=hfin;clear i j f I hfin;subst b;go_wp2_with fail
   go_ret;exact⟨rfl,n,rfl⟩
 have e0:((l.length:Int) !=(m.length:Int))=true:=by simp;omega
 have b:a=false:=by rw[c];exact xq d
 clear c;subst b;go_enter func91,ntmps91
 go_wp2_with fail
 go_ret;exact⟨rfl,0,rfl⟩
theorem P_{v1 v2:Value}{l m:List Ev}{lo O hi P:Nat}(M:bN lo hi w v1 l)(N:bN O P w v2 m):
 Calls Tryz.prog 73 #[v1,v2] w fun e w' =>e=.returned (.bool (Rf.same l m))∧Below w.heap.size w w' :=by
 have hl:=M.len;have a3:=N.len;obtain⟨a1,c1,i,-⟩:=M.form;obtain⟨a2,c2,j,-⟩:=N.form;subst i j;have p:=aB M;have q:=aB N;obtain⟨b,d⟩:∃b,b=Rf.same l m:=⟨_,rfl⟩;rw[←d];clear M N;by_cases f:l.length=m.length
 .have e0:((l.length:Int) !=(m.length:Int))=false:=by simp[f]
  have Q:=aB (show b=Rf.same (l.drop 0) (m.drop 0)from d);have v:=aB f;clear d f;go_enter func73,ntmps73
  go_wp2_with fail
  go_loopg [5] l.length (fun g s5 wx=>∃k:Nat,k≤l.length∧g=l.length - k∧s5=.int .i64 k∧Hid (b=Rf.same (l.drop k) (m.drop k))∧Hid (Below w.heap.size w wx))
  case atStart=>exact⟨0,by omega,rfl,rfl,Q,aB (Below.refl _ _)⟩
  case round=>
   obtain⟨k,hk,rfl,rfl,n,c⟩:=hrel;have f:=aA v;by_cases z:k<l.length
   .have e1:decide ((k:Int)<(l.length:Int))=true:=by simp;omega
    have o:k<m.length:=by omega
    have hfin:=aA n;rw[BR l m k z o]at hfin;unfold Pz at hfin;have h:=(aA c).size;obtain⟨b1,d1,i,A⟩:=((aA p).below (aA c)).form;obtain⟨b2,d2,j,B⟩:=((aA q).below (aA c)).form;injection i with i _ R;injection j with j _ S;subst i j R S;obtain⟨g1,o1,a4,f1,a5,t,T⟩:=A k z;obtain⟨g2,o2,a6,f2,pq,u,X⟩:=B k o;subst f1 f2;have HA:=aB (fun(W:World) (hb:Below wr.heap.size wr W)=>KH (T.below hb) (X.below hb));obtain⟨a7,a8,rfl,_⟩:=T.form;obtain⟨a9,aa,rfl,_⟩:=X.form;have C:=t 0 (by decide);have D:=t 1 (by decide);have E:=t 2 (by decide);have F:=t 3 (by decide);have G:=t 4 (by decide);have H:=u 0 (by decide);have I:=u 1 (by decide);have J:=u 2 (by decide);have K:=u 3 (by decide);have L:=u 4 (by decide);simp[bP]at C D E F G H I J K L;clear t u p q n Q v T X A B;generalize l[k]=x at *;generalize m[k]=y at *;obtain⟨xk,xn,xs,xv,xa⟩:=x;obtain⟨yk,yn,ys,yv,ya⟩:=y;simp only at C D E F G H I J K L hfin HA;generalize Y:fT xa ya=sa at *;clear Y;clear f;cases sa with
    |false=>
     have a:b=false:=by rw[hfin];simp
     clear hfin;subst a;go_wp2_with(go_at_call 91;refine(aA HA _ (jD _ _ _)).mono ?_;rintro e w' ⟨rfl,nq,rfl⟩)
     go_ret;exact⟨rfl,(aA c).trans ((ol _ _ _ _).mono h)⟩
    |true=>
     by_cases r:xk=yk
     .subst r;by_cases Z:xn=yn
      .subst Z;by_cases hs:xs=ys
       .subst hs;by_cases hv:xv=yv
        .subst hv;simp only[decide_true,Bool.true_and]at hfin;have a0:=aB hfin;clear hfin;go_wp2_with(go_at_call 91;refine(aA HA _ (jD _ _ _)).mono ?_;rintro e w' ⟨rfl,nq,rfl⟩)
         go_roundg (l.length - (k+1))
         case measure=>omega
         case rel=>exact⟨k+1,by omega,rfl,by simp,a0,aB ((aA c).trans ((ol _ _ _ _).mono h))⟩
        have a:b=false:=by rw[hfin];simp[hv]
        have s:(xv==yv)=false:=by simpa using hv
        clear hfin;subst a;go_wp2_with(go_at_call 91;refine(aA HA _ (jD _ _ _)).mono ?_;rintro e w' ⟨rfl,nq,rfl⟩)
        go_ret;exact⟨rfl,(aA c).trans ((ol _ _ _ _).mono h)⟩
       have a:b=false:=by rw[hfin];simp[hs]
       have s:(xs==ys)=false:=by simpa using hs
       clear hfin;subst a;go_wp2_with(go_at_call 91;refine(aA HA _ (jD _ _ _)).mono ?_;rintro e w' ⟨rfl,nq,rfl⟩)
       go_ret;exact⟨rfl,(aA c).trans ((ol _ _ _ _).mono h)⟩
      have a:b=false:=by rw[hfin];simp[Z]
      have s:(xn==yn)=false:=by simpa using Z
      clear hfin;subst a;go_wp2_with(go_at_call 91;refine(aA HA _ (jD _ _ _)).mono ?_;rintro e w' ⟨rfl,nq,rfl⟩)
      go_ret;exact⟨rfl,(aA c).trans ((ol _ _ _ _).mono h)⟩
     have a:b=false:=by rw[hfin];simp[r]
     have s:(xk==yk)=false:=by simpa using r
     clear hfin;subst a;go_wp2_with(go_at_call 91;refine(aA HA _ (jD _ _ _)).mono ?_;rintro e w' ⟨rfl,nq,rfl⟩)
     go_ret;exact⟨rfl,(aA c).trans ((ol _ _ _ _).mono h)⟩
   have e1:decide ((k:Int)<(l.length:Int))=false:=by simp;omega
   have ab:decide ((k:Int)<(m.length:Int))=false:=by simp;omega
   have hfin:=aA n;rw[List.drop_of_length_le (by omega:l.length≤k),List.drop_of_length_le (by omega:m.length≤k)]at hfin;have a:b=true:=hfin;clear p q n Q hfin;subst a;go_wp2_with fail
   go_ret;exact⟨rfl,aA c⟩
 have e0:((l.length:Int) !=(m.length:Int))=true:=by simp;omega
 have a:b=false:=by rw[d];exact xu f
 clear d;subst a;go_enter func73,ntmps73
 go_wp2_with fail
 go_ret;exact⟨rfl,Below.refl _ _⟩
end Go.Proofs.YtmgfijllcdadgaaGreatDoor.V
