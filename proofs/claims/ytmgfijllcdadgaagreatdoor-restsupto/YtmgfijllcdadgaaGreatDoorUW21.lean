import Derived.Test.YtmgfijllcdadgaaGreatDoorUW18
import Derived.Laws.Tables
import Derived.Laws.CopyOwn
import Derived.Deep.WholeRow
set_option linter.all false
set_option maxHeartbeats 8000000
set_option maxRecDepth 100000
namespace Go.Proofs.YtmgfijllcdadgaaGreatDoor
open Go.RowKit
open List
open Go.Proofs.Tryz
open Mk hiding rest
variable {w:World}{b k n:Nat}{d:List Nat}{s:Z}{L:Lay}{o:Oper}{e:TypeId}{v:Value}{i:List Value}
def Mv.za{c:World}(m:Mv c b d w s L)(e:Gl c)(n:2+1<b)(g:2<c.heap.size)(f:∀k∈d,b<=k+1):Gl w:=by
 have j:w.heap[1]?=c.heap[1]?:=m.fr.block 1 (by omega) (by omega) (λh=>by have:=f 1 h;omega);have l:w.heap[2]?=c.heap[2]?:=m.fr.block 2 g (by omega) (λh=>by have:=f 2 h;omega);exact⟨λi=>by rw[<-e.names i];exact aj3 (a:=⟨1,i,none⟩) j,λi=>by rw[<-e.named i];exact aj3 (a:=⟨2,i,none⟩) l⟩
def Nw(h:bC w b s L)(d:Bd s)(x:Int)(o:0<=x)(y:x<=255)(D:Sl s)(E:(bP s).length<=100000000)(q:Gl w)(F:2<b):
 Calls prog 78 #[.pointer (some ⟨b,0,none⟩),.int .u8 x] w (Does w b s L (aP s x)):=by
 have I:=h.cell;have K:=h.lt;unfold cellsOf at I;have j:=h.start.alloc (.cells #[.int .i64 s.rp,.string ⟨s.rn.toArray⟩,.int .i64 s.rc] 89);have g:Gl (w.alloc (.cells #[.int .i64 s.rp,.string ⟨s.rn.toArray⟩,.int .i64 s.rc] 89)):=q.below (by omega) ((Below.refl _ _).alloc (a_ _) _);have t:=Y j;have m:=Y λw=>Gg s.rp s.rn s.rc w;by_cases i:0<s.t
 .have k:=Y (Wp h x o y d.pt i (cL d.hx) (cL d.ht) d.c0 (uF d.c1<|by decide));have f:aP s x=Mk.fT s x:=by simp[aP,i]
  rw[f];clear f h d j q g m t;go_enter func78,ntmps78;go_wp2_with(go_at_call 93;go_call k.u as e z ⟨rfl,l,a⟩;have c:=Y a;clear a);go_ret;exact⟨rfl,l,c.u⟩
 have N:=pV i;by_cases v:aZ s.rp=true
 .have n:aZ s.rp=true:=v;clear v;have k:=Y (Wr j.X x o y g F (cL d.rn) d.r0 d.r1 (cL d.hx) (cL d.ht) d.c0 (uF d.c1<|by decide) λr f=>⟨(GQ o d.r0 f).1,(GQ o d.r0 f).2.1⟩);have f:aP s x=Mk.fD s x:=by simp[aP,i,n]
  rw[f];rw[n]at m;clear f h d j q g i;go_enter func78,ntmps78;go_wp2_with(first|(go_at_call 94;go_call(m.u _)as e w2 ⟨rfl,rfl⟩)|(go_at_call 95;go_call k.u as e z ⟨rfl,l,a⟩;have c:=Y a;clear a));go_ret;exact⟨rfl,l,t.u.call c.u⟩
 have n:aZ s.rp=false:=by simpa using v
 clear v;rw[n]at m;by_cases p:s.H=0
 ·
  have k:=Y (WN j.X x);have f:aP s x=Mk.h_ s x:=by simp[aP,i,n,p]
  rw[f];clear f h d j q g i;go_enter func78,ntmps78;go_wp2_with(first|(go_at_call 94;go_call(m.u _)as e w2 ⟨rfl,rfl⟩)|(go_at_call 96;go_call k.u as e z ⟨rfl,l,a⟩;have c:=Y a;clear a));go_ret;exact⟨rfl,l,t.u.call c.u⟩
 have e0:=aj7 p;clear p;by_cases p:s.H=1
 ·
  have k:=Y (WO j.X d x o y);have f:aP s x=Mk.fw s x:=by simp[aP,i,n,e0,p]
  rw[f];clear f h d j q g i;go_enter func78,ntmps78;go_wp2_with(first|(go_at_call 94;go_call(m.u _)as e w2 ⟨rfl,rfl⟩)|(go_at_call 97;go_call k.u as e z ⟨rfl,l,a⟩;have c:=Y a;clear a));go_ret;exact⟨rfl,l,t.u.call c.u⟩
 have A:=aj7 p;clear p;by_cases p:s.H=2
 ·
  have k:=Y (WQ j.X d x o y);have f:aP s x=Mk.fH s x:=by simp[aP,i,n,e0,A,p]
  rw[f];clear f h d j q g i;go_enter func78,ntmps78;go_wp2_with(first|(go_at_call 94;go_call(m.u _)as e w2 ⟨rfl,rfl⟩)|(go_at_call 98;go_call k.u as e z ⟨rfl,l,a⟩;have c:=Y a;clear a));go_ret;exact⟨rfl,l,t.u.call c.u⟩
 have C:=aj7 p;clear p;by_cases p:s.H=7
 ·
  have k:=Y (Wu j.X d x o y);have f:aP s x=Mk.fu s x:=by simp[aP,i,n,e0,A,C,p]
  rw[f];clear f h d j q g i;go_enter func78,ntmps78;go_wp2_with(first|(go_at_call 94;go_call(m.u _)as e w2 ⟨rfl,rfl⟩)|(go_at_call 99;go_call k.u as e z ⟨rfl,l,a⟩;have c:=Y a;clear a));go_ret;exact⟨rfl,l,t.u.call c.u⟩
 have G:=aj7 p;clear p;by_cases p:s.H=11
 ·
  have k:=Y (MJ j.X d x o y);have f:aP s x=Mk.dN s x:=by simp[aP,i,n,e0,A,C,G,p]
  rw[f];clear f h d j q g i;go_enter func78,ntmps78;go_wp2_with(first|(go_at_call 94;go_call(m.u _)as e w2 ⟨rfl,rfl⟩)|(go_at_call 100;go_call k.u as e z ⟨rfl,l,a⟩;have c:=Y a;clear a));go_ret;exact⟨rfl,l,t.u.call c.u⟩
 have B:=aj7 p;clear p;by_cases p:s.H=17
 ·
  have k:=Y (Xm j.X d x o y);have f:aP s x=Mk.fA s x:=by simp[aP,i,n,e0,A,C,G,B,p]
  rw[f];clear f h d j q g i;go_enter func78,ntmps78;go_wp2_with(first|(go_at_call 94;go_call(m.u _)as e w2 ⟨rfl,rfl⟩)|(go_at_call 101;go_call k.u as e z ⟨rfl,l,a⟩;have c:=Y a;clear a));go_ret;exact⟨rfl,l,t.u.call c.u⟩
 have H:=aj7 p;clear p;have k:=Y (XA j.X d x o y D E);have f:aP s x=Mk.bU s x:=by simp[aP,i,n,e0,A,C,G,B,H]
 rw[f];clear f h d j q g i;go_enter func78,ntmps78;go_wp2_with(first|(go_at_call 94;go_call(m.u _)as e w2 ⟨rfl,rfl⟩)|(go_at_call 102;go_call k.u as e z ⟨rfl,l,a⟩;have c:=Y a;clear a));go_ret;exact⟨rfl,l,t.u.call c.u⟩
def Ny(h:bC w b s L)(x:Int)(j:0<=s.K)(k:s.K<=1000000000)(l:0<=s.aN)(m:s.aN<=1000000000):
 Calls prog 79 #[.pointer (some ⟨b,0,none⟩),.int .u8 x] w λe w' =>e=.returned (.tuple #[])/\Mv w b (aY s L) w' (gX s x) L:=by
 obtain⟨g,n,i⟩:=h.zzv;have c:=Y h;unfold cellsOf at g;clear h;cases d:(x==10)
 .cases f:(s.t==0)
  .have a:gX s x=s:=by simp[gX,d,f]
   rw[a];clear a;go_enter func79,ntmps79;go_wp2;go_end0
   exact⟨rfl,c.u.start⟩
  have a:gX s x={s with aN:=s.aN+1}:=by simp[gX,d,f]
  rw[a];clear a;go_enter func79,ntmps79;go_wp2;go_end0
  exact⟨rfl,c.u.start.store 25 _ _ rfl rfl rfl⟩
 have a:gX s x={s with K:=s.K+1,aN:=1}:=by simp[gX,d]
 rw[a];clear a;go_enter func79,ntmps79;go_wp2;go_end0
 exact⟨rfl,(c.u.start.store 24 _ {s with K:=s.K+1} rfl rfl rfl).store 25 _ _ rfl rfl rfl⟩
def tP(h:bC w b s L)(i:Inv k s)(O:k<=90000000)(x:Int)(h0:0<=x)(h1:x<=255)(Q:Gl w)(D:2+1<b):
 Calls prog 55 #[.pointer (some ⟨b,0,none⟩),.int .u8 x] w (Does w b s L (kE s x)):=by
 obtain⟨hc,hf,a0⟩:=h.zzv;have z:=h.jh;have o:=h.start.store 23 (.bool true) {s with O:=true} rfl rfl rfl;have p:=h.start.store 23 (.bool false) {s with O:=false} rfl rfl rfl;have E:=o.za Q D (by omega) λk O=>(z k O).1;have F:=p.za Q D (by omega) λk O=>(z k O).1;have hl:=i.hl;have R:=Ns i;have G:=Y (Nw o.X (Inv.bd (s:={s with O:=true}) (k:=k) {i with} (by omega)) 10 (by decide) (by decide) ⟨by show s.C.length+500<=_;omega,by show s.m.length+40<=_;have:=i.hb;omega,by show s.T.length+1<=_;have:=i.hc;omega⟩ (by show(bP s).length<=_;omega) E (by omega));have H:=Y (Nw p.X (Inv.bd (s:={s with O:=false}) (k:=k) {i with} (by omega)) x h0 h1 ⟨by show s.C.length+500<=_;omega,by show s.m.length+40<=_;have:=i.hb;omega,by show s.T.length+1<=_;have:=i.hc;omega⟩ (by show(bP s).length<=_;omega) F (by omega));have I:=GU (k:=k) (s:={s with O:=true}) {i with} 10 (by decide) (by decide);have j:=GU (k:=k) (s:={s with O:=false}) {i with} x h0 h1;have q:=Y λ(W:World) (S:Lay) (T:bC W b (aP {s with O:=true} 10).1 S)=>Ny T 10 I.l0 (by have:=I.l1;omega) I.vG (by have:=I.vH;omega);have A:=Y λ(W:World) (S:Lay) (T:bC W b (aP {s with O:=false} x).1 S)=>Ny T x j.l0 (by have:=j.l1;omega) j.vG (by have:=j.vH;omega);have K:=Y o;have r:=Y p;have l:eY {s with O:=true} 10=if(aP {s with O:=true} 10).2=0 then(gX (aP {s with O:=true} 10).1 10,0)else aP {s with O:=true} 10:=rfl;have f:eY {s with O:=false} x=if(aP {s with O:=false} x).2=0 then(gX (aP {s with O:=false} x).1 x,0)else aP {s with O:=false} x:=rfl;unfold cellsOf at hc;clear h i Q o p E F z hl R I j;generalize aP {s with O:=true} 10=rt at *;generalize aP {s with O:=false} x=rf at *;obtain⟨a1,B⟩:=rt;obtain⟨a2,g⟩:=rf;cases e1:(x==10);focus
  have t:x≠10:=by simpa using e1
  cases X:(x==13);focus
   have N:x≠13:=by simpa using X
   have m:kE s x=eY {s with O:=false} x:=by simp[kE,t,N]
   rw[m,f];clear m t N G q l f;cases y:(g==0)
   .have d:g≠0:=by simpa using y
    rw[M d];clear d;go_enter func55,ntmps55;go_wp2_with(go_at_call 78;go_call H.u as e P ⟨rfl,v,a⟩;have c:=Y a;clear a);go_ret;exact⟨rfl,v,r.u.call c.u⟩
   have d:g=0:=by simpa using y
   rw[J d];subst d
  rotate_left
  .have N:x=13:=by simpa using X
   have m:kE s x=eY {s with O:=true} 10:=by simp[kE,N]
   rw[m,l];clear m t N H A l f;cases y:(B==0)
   .have d:B≠0:=by simpa using y
    rw[M d];clear d;go_enter func55,ntmps55;go_wp2_with(go_at_call 78;go_call G.u as e P ⟨rfl,v,a⟩;have c:=Y a;clear a);go_ret;exact⟨rfl,v,K.u.call c.u⟩
   have d:B=0:=by simpa using y
   rw[J d];subst d;go_enter func55,ntmps55
   go_wp2_with(first
    |(go_at_call 78;go_call G.u as e P ⟨rfl,v,a⟩;have c:=Y a;clear a)
    |(go_at_call 79;go_call(q.u _ _ c.u.X)as e w2 ⟨rfl,n⟩;have C:=Y n;clear n))
   go_ret;exact⟨rfl,v,(K.u.call c.u).call C.u⟩
 rotate_left;focus
  have t:x=10:=by simpa using e1
  have X:(x==13)=false:=by simp[t]
  cases e4:s.O;focus
   have m:kE s x=eY {s with O:=false} x:=by simp[kE,t,e4]
   rw[m,f];clear m t G q l f;cases y:(g==0)
   .have d:g≠0:=by simpa using y
    rw[M d];clear d;go_enter func55,ntmps55;go_wp2_with(go_at_call 78;go_call H.u as e P ⟨rfl,v,a⟩;have c:=Y a;clear a);go_ret;exact⟨rfl,v,r.u.call c.u⟩
   have d:g=0:=by simpa using y
   rw[J d];subst d
  rotate_left
  .have m:kE s x=({s with O:=false},0):=by simp[kE,t,e4]
   rw[m];clear m t G H q A l f;go_enter func55,ntmps55;go_wp2;go_ret;exact⟨rfl,L,r.u⟩
 all_goals
  go_enter func55,ntmps55
  go_wp2_with(first
   |(go_at_call 78;go_call H.u as e P ⟨rfl,v,a⟩;have c:=Y a;clear a)
   |(go_at_call 79;go_call(A.u _ _ c.u.X)as e w2 ⟨rfl,n⟩;have C:=Y n;clear n))
  go_ret;exact⟨rfl,v,(r.u.call c.u).call C.u⟩
def xh:Array Value:=#[.string ⟨Mk.qP.toArray⟩,.string ⟨Mk.lu.toArray⟩]
theorem YU:(prog.info? 85).map (·.size)=some 2:=by kernel_rfl
def heap_alloc2_old(w:World)(a b:Obj):((w.alloc a).alloc b).heap[w.heap.size]?=some a:=
 (dG _ _ _<|by simp).trans (dI w a)
def YV(w:World):Calls prog 77 #[] w λe w' =>e=.returned (.agg #[.slice (some ⟨w.heap.size+1,0,none⟩) 1 1,.slice none 0 0])/\w' =(w.alloc (.cells #[.slice (some ⟨w.heap.size+1,0,none⟩) 1 1,.slice none 0 0] 85)).alloc (.cells xh 139):=by
 go_enter func77,ntmps77;go_wp2;exact bodyPost_ret (v:=.agg #[.slice (some ⟨w.heap.size+1,0,none⟩) 1 1,.slice none 0 0]) (yK rfl _ _ w.heap.size 85 #[.slice (some ⟨w.heap.size+1,0,none⟩) 1 1,.slice none 0 0] (0,0) _ rfl (heap_alloc2_old w _ _) underlying85 rfl YU) rfl ⟨rfl,rfl⟩
def oZ(d a t:Int)(n:Bool)(g:Nat):Array Value:=
 #[.int .i64 d,.int .i64 a,.int .i64 t,.bool n,.int .i64 0,.slice none 0 0,.bool false,.slice (some ⟨g,0,none⟩) 1 1,.slice none 0 0,.slice none 0 0,.int .i64 0,.string ⟨#[]⟩,.string ⟨#[]⟩,.slice none 0 0,.int .u8 0,.string ⟨#[]⟩,
  .int .i64 0,.int .i64 0,.int .i64 0,.int .i64 0,.int .i64 0,.string ⟨#[]⟩,.int .i64 0,.bool false,.int .i64 1,.int .i64 1,.slice none 0 0,.slice none 0 0]
def GX:Array Value:=
 #[.int .i64 0,.int .i64 0,.int .i64 0,.bool false,.int .i64 0,.slice none 0 0,.bool false,.slice none 0 0,.slice none 0 0,.slice none 0 0,.int .i64 0,.string ⟨#[]⟩,.string ⟨#[]⟩,.slice none 0 0,.int .u8 0,.string ⟨#[]⟩,
  .int .i64 0,.int .i64 0,.int .i64 0,.int .i64 0,.int .i64 0,.string ⟨#[]⟩,.int .i64 0,.bool false,.int .i64 0,.int .i64 0,.slice none 0 0,.slice none 0 0]
def wpList_build{P:Program}{b:Array Oper}{rest:List Oper}{a:Act}{Q:Exit->Act->World->Prop}(c:o.guard=none)(d:TypeId)(e:Array (Nat×Operand))(f:o.op=.build d e)(v:Value)
 (g:∀w,(Instr.build d (e.map λ(i,x)=>(i,a.eval x))).run P w=.ok v w) (h:wpList P b Q rest (a.put o.dst v) w):wpList P b Q (o::rest) a w:=
 wpList_plain c λ_ j=>by
  unfold Oper.wp execOp;simp only[f,g,wW,wV,nT];exact j _ _ h
theorem NB:(prog.info? 93).map (·.size)=some 28:=by kernel_rfl
def YW{P:Program}{b:Array Oper}{Q:Exit->Act->World->Prop}{K:Act->World->Prop}{a:Act}{w' :World}{i:Nat}(c:b[i]?=some o)(d:o.guard=none)(hd:o.dst=none)(e:(execOp a.eval o).run P w=.ok .skip w')(g:K a w'):wpOp P b Q i K a w:=by
 rw[wpOp,c];have f:Region.wanted o (yielded b a.tmps)=true:=by simp[Region.wanted,d]
 simp only[f,bY];refine .inl ?_;rwa[Oper.wp,e,Oper.upon_skip,hd]
structure YX(w:World)(d a t:Int)(n:Bool)(listed:Array Bool)(x:Act)(wx:World):Prop where
 sz:listed.size=4
 xj:x.tmps.size=6
 df:x.defers=[]
 p1:x.tmps.getD 1 undef=.pointer (some ⟨w.heap.size,0,none⟩)
 p2:x.tmps.getD 2 undef=.pointer (some ⟨w.heap.size+1,0,none⟩)
 cH:Below w.heap.size w wx
 o:wx.heap[w.heap.size]?=some (.cells #[.int .i64 d,.int .i64 a,.int .i64 t,.bool n] 40 (0,0))
 l0:listed.getD 0 false=true->x.tmps.getD 3 undef=.agg #[.int .i64 d,.int .i64 a,.int .i64 t,.bool n]
 l1:listed.getD 1 false=true->x.tmps.getD 4 undef=.agg #[.slice (some ⟨w.heap.size+3,0,none⟩) 1 1,.slice none 0 0]/\wx.heap.size=w.heap.size+4/\wx.heap[w.heap.size+3]?=some (.cells xh 139 (0,0))
 n1:listed.getD 1 false=false->wx.heap.size=w.heap.size+2
 l2:listed.getD 2 false=true->x.tmps.getD 5 undef=.agg (oZ d a t n (w.heap.size+3))
 l3:listed.getD 3 false=true->wx.heap[w.heap.size+1]?=some (.cells (oZ d a t n (w.heap.size+3)) 93 (0,0))
 n3:listed.getD 3 false=false->wx.heap[w.heap.size+1]?=some (.cells GX 93 (0,0))
def DF{l:Array Bool}(h:l.size=4)(i k:Nat)(a:i<4):(l.setIfInBounds i true).getD k false=if k=i then true else l.getD k false:=by
 by_cases e:k=i
 .subst e;simp[h,a]
 rw[getD_set_ne false λq=>e q.symm,M e]
def YY(d a t:Int)(n:Bool)(w:World):
 Calls prog 54 #[.agg #[.int .i64 d,.int .i64 a,.int .i64 t,.bool n]] w λe w' =>e=.returned (.agg (oZ d a t n (w.heap.size+3)))/\w'.heap.size=w.heap.size+4/\Below w.heap.size w w' /\w'.heap[w.heap.size+3]?=some (.cells xh 139 (0,0)):=by
 go_enter func54,ntmps54;go_wp2_with fail;refine wp_region_any (by kernel_rfl) ?_;refine YP (YX w d a t n) ?step ?done _ _ _ _ ?start (YQ _);case start=>
  refine⟨rfl,rfl,rfl,rfl,rfl,?_,heap_alloc2_old w _ _,?_,?_,?_,?_,?_,?_⟩
  .have:Below w.heap.size w ((w.alloc (.cells #[.int .i64 d,.int .i64 a,.int .i64 t,.bool n] 40)).alloc (.cells GX 93)):=((Below.refl _ _).alloc (a_ _) _).alloc (by simp) _;exact⟨this.os,this.tape,this.output,this.size,this.block⟩
  .intro h;exact aj6 h
  .intro h;exact aj6 h
  .intro _;simp
  .intro h;exact aj6 h
  .intro h;exact aj6 h
  intro _;exact heap_alloc2_new w _ _
 case done=>
  intro c x g b T;have z:=YS (by rw[b.sz];rfl) ?dag T;case dag=>exact YT (by kernel_rfl)
  have E:=b.l3 (z 3<|by decide);have A:=b.l1 (z 1<|by decide);rename_i Q1 W F;show W x g;apply F;go_wp2;exact bodyPost_ret (v:=.agg (oZ d a t n (w.heap.size+3))) (yK rfl _ _ (w.heap.size+1) 93 (oZ d a t n (w.heap.size+3)) (0,0) _ b.p2 E underlying93 rfl NB) b.df ⟨rfl,A.2.1,b.cH,A.2.2⟩
 case step=>
  intro c x g i b B;obtain⟨s,o,u,l⟩:=mem_ready.1 B;have X:i<4:=(Array.getElem?_eq_some_iff.1 u).1;have G:i=0\/i=1\/i=2\/i=3:=by omega
  clear B;obtain rfl|rfl|rfl|rfl:=G;all_goals
   have f:=Option.some.inj u;have C:o.guard=none:=by rw[<-f];rfl
  .have he:x.eval (.tmp 1)=.pointer (some ⟨w.heap.size,0,none⟩):=b.p1;have H:(Instr.loadAt 40 (.pointer (some ⟨w.heap.size,0,none⟩))).run prog g=.ok (.agg #[.int .i64 d,.int .i64 a,.int .i64 t,.bool n]) g:=by
    have D:=run_loadVar_row (P:=prog) g w.heap.size 40 40 #[.int .i64 d,.int .i64 a,.int .i64 t,.bool n] (0,0) _ b.o underlying40 rfl (by kernel_rfl);unfold Instr.loadAt;simp[Instr.sureAddr,D]
   refine NA u C (.agg #[.int .i64 d,.int .i64 a,.int .i64 t,.bool n]) (w' :=g) ?_ ?_
   .have j:o.op=.load 40 (.tmp 1):=by rw[<-f];rfl
    unfold execOp;simp only[j,he,wW,H,wV,nT]
   have hd:o.dst=some 3:=by rw[<-f];rfl
   rw[hd];have I:=GV x 3 (.agg #[.int .i64 d,.int .i64 a,.int .i64 t,.bool n]);have r:=λk=>DF b.sz 0 k (by decide);refine⟨by simp[b.sz],by simp[Act.put,b.xj],b.df,?_,?_,b.cH,b.o,?_,?_,?_,?_,?_,?_⟩;all_goals try simp only[r,I _<|by rw[b.xj];decide]
   .exact b.p1
   .exact b.p2
   .intro _;rfl
   .exact b.l1
   .exact b.n1
   .exact b.l2
   .exact b.l3
   exact b.n3
  .have A:c.getD 1 false=false:=by
    cases y:c.getD 1 false
    .rfl
    rw[show c.getD 1 true=c.getD 1 false from by simp[b.sz]]at s;rw[y]at s;cases s
   have m:=b.n1 A;refine YR u C 77 #[] ?_ ((YV g).mono ?_)
   .have j:o.op=.call {callee:=.value (.func 77),args:=#[],argTypes:=#[]}:=by rw[<-f];rfl
    unfold execOp;simp[j,resolve,invoke,Act.eval,Deferred.ofValue,callFunc];rw[M,M λh=>by cases h]
   rintro e w7 ⟨rfl,rfl⟩;refine⟨_,rfl,?_⟩;have hd:o.dst=some 4:=by rw[<-f];rfl
   rw[hd];have I:=GV x 4 (.agg #[.slice (some ⟨g.heap.size+1,0,none⟩) 1 1,.slice none 0 0]);have r:=λk=>DF b.sz 1 k (by decide);have p:∀k,k<w.heap.size+2->((g.alloc (.cells #[.slice (some ⟨g.heap.size+1,0,none⟩) 1 1,.slice none 0 0] 85)).alloc (.cells xh 139)).heap[k]?=g.heap[k]?:=λk hk=>by
    rw[dG _ _ _<|by simp;omega,dG _ _ _<|by omega]
   refine⟨by simp[b.sz],by simp[Act.put,b.xj],b.df,?_,?_,?_,?_,?_,?_,?_,?_,?_,?_⟩;all_goals try simp only[r,I _<|by rw[b.xj];decide]
   .exact b.p1
   .exact b.p2
   .exact(b.cH.alloc (by omega) _).alloc (by simp;omega) _
   .rw[p _<|by omega];exact b.o
   .exact b.l0
   .intro _;refine⟨by rw[m];rfl,by simp[m],?_⟩;have:=heap_alloc2_new g (.cells #[.slice (some ⟨g.heap.size+1,0,none⟩) 1 1,.slice none 0 0] 85) (.cells xh 139);rw[m]at this;rwa[m]
   .intro h;cases h
   .exact b.l2
   .intro h;rw[p _<|by omega];exact b.l3 h
   intro h;rw[p _<|by omega];exact b.n3 h
  .have a0:=b.l0 (l ⟨0,.data⟩ (by rw[<-f];simp) rfl);have Q:=(b.l1 (l ⟨1,.data⟩ (by rw[<-f];simp) rfl)).1;have e0:x.eval (.tmp 3)=.agg #[.int .i64 d,.int .i64 a,.int .i64 t,.bool n]:=a0;have e1:x.eval (.tmp 4)=.agg #[.slice (some ⟨w.heap.size+3,0,none⟩) 1 1,.slice none 0 0]:=Q;have c0:∀v,x.eval (.const v)=v:=λ_=>rfl;have K:∀w', (Instr.build 93 #[(0,.agg #[.int .i64 d,.int .i64 a,.int .i64 t,.bool n]),(1,.int .i64 0),(4,.agg #[.slice (some ⟨w.heap.size+3,0,none⟩) 1 1,.slice none 0 0]),(17,.int .i64 1),(18,.int .i64 1)]).run prog w' =.ok (.agg (oZ d a t n (w.heap.size+3))) w' :=λ_=>by kernel_rfl
   refine NA u C (.agg (oZ d a t n (w.heap.size+3))) (w' :=g) ?_ ?_
   .have j:o.op=.build 93 #[(0,.tmp 3),(1,.const (.int .i64 0)),(4,.tmp 4),(17,.const (.int .i64 1)),(18,.const (.int .i64 1))]:=by rw[<-f];rfl
    unfold execOp;simp only[j,FX,lf,qO,e0,e1,c0,wW,K,wV,nT]
   have hd:o.dst=some 5:=by rw[<-f];rfl
   rw[hd];have r:=λk=>DF b.sz 2 k (by decide);refine⟨by simp[b.sz],by simp[Act.put,b.xj],b.df,?_,?_,b.cH,b.o,?_,?_,?_,?_,?_,?_⟩;all_goals try simp only[r,(GV x 5 (.agg (oZ d a t n (w.heap.size+3)))) _<|by rw[b.xj];decide]
   .exact b.p1
   .exact b.p2
   .exact b.l0
   .exact b.l1
   .exact b.n1
   .intro _;rfl
   .exact b.l3
   exact b.n3
  have a2:=b.l2 (l ⟨2,.data⟩ (by rw[<-f];simp) rfl);have Q:=b.l1 (l ⟨1,.phase⟩ (by rw[<-f];simp) rfl);have E:c.getD 3 false=false:=by
   cases y:c.getD 3 false
   .rfl
   rw[show c.getD 3 true=c.getD 3 false from by simp[b.sz]]at s;rw[y]at s;cases s
  have R:=b.n3 E;have e2:x.eval (.tmp 2)=.pointer (some ⟨w.heap.size+1,0,none⟩):=b.p2;have e5:x.eval (.tmp 5)=.agg (oZ d a t n (w.heap.size+3)):=a2;have L:(Instr.storeAt 93 (.pointer (some ⟨w.heap.size+1,0,none⟩)) (.agg (oZ d a t n (w.heap.size+3)))).run prog g=.ok () (g.setRow (w.heap.size+1) (oZ d a t n (w.heap.size+3))):=by
   have D:=run_storeCells_from (P:=prog) (w.heap.size+1) 93 (oZ d a t n (w.heap.size+3)).toList 0 GX g R rfl (by intro v S;simp[oZ]at S;obtain rfl|rfl|rfl|rfl|rfl|rfl|rfl|rfl|rfl|rfl|rfl|rfl|rfl|rfl|rfl|rfl|rfl|rfl|rfl|rfl|rfl|rfl|rfl|rfl|rfl|rfl|rfl|rfl:=S<;>rfl);have B:∃q,prog.info? 93=some q/\q.size=28:=by
    have:=NB;cases y:prog.info? 93 with
    |none=>rw[y]at this;cases this
    |some q=>exact⟨q,rfl,by rw[y]at this;simpa using this⟩
   obtain⟨q,N,O⟩:=B;have m:(oZ d a t n (w.heap.size+3)).size=28:=rfl;simp only[take_zero,ul,Array.toArray_toList]at D;unfold Instr.storeAt;simp[Instr.sureAddr,storeVar,sizeOf,typeInfo,N,O,Value.cells,m,D]
  refine YW u C (by rw[<-f];rfl) (w' :=g.setRow (w.heap.size+1) (oZ d a t n (w.heap.size+3))) ?_ ?_
  .have j:o.op=.store 93 (.tmp 2) (.tmp 5):=by rw[<-f];rfl
   unfold execOp;simp only[j,e2,e5,wW,L,wV,nT]
  have r:=λk=>DF b.sz 3 k (by decide);refine⟨by simp[b.sz],b.xj,b.df,b.p1,b.p2,below_setRow b.cH (by omega) _,?_,?_,?_,?_,?_,?_,?_⟩
  .rw[setRow_other _ _ _ _<|by omega];exact b.o
  all_goals try simp only[r]
  .exact b.l0
  .intro h;have:=b.l1 h;refine⟨this.1,by simp[this.2.1],?_⟩;rw[setRow_other _ _ _ _<|by omega];exact this.2.2
  .intro h;simp;exact b.n1 h
  .exact b.l2
  .intro _;exact setRow_heap _ _ _ _ _ _ R
  intro h;cases h
def L0(b:Nat):Lay:=⟨none,0,none,0,none,0,none,0,none,0,some ⟨b - 1,0,none⟩,1,none,0,[]⟩
theorem Bi(d a t:Int)(n:Bool)(b:Nat):aY (bB d a t n) (L0 b)=[b - 1]:=rfl
def GY(d a t:Int)(n:Bool)(g:Nat):Array Value:=oZ d a t n g++#[.int .i64 0,.int .i64 0]
def DG(w:World)(d a t:Int)(n:Bool)(g:Nat)(e:w.heap.size=g+1)(hx:w.heap[g]?=some (.cells xh 139 (0,0))):bC (w.alloc (.cells (GY d a t n g) 95)) w.heap.size (bB d a t n) (L0 w.heap.size):=by
 have b:w.heap.size - 1=g:=by omega
 refine⟨?_,⟨?_,?_⟩,rfl,?_⟩
 .have:(cellsOf (bB d a t n) (L0 w.heap.size)).toArray=GY d a t n g:=by simp only[L0,b];rfl
  rw[this];exact dI w _
 .intro r c;simp only[rowsOf,oN]at c;obtain rfl|rfl|rfl|rfl|rfl|rfl|rfl|c:=c
  .exact qo ⟨rfl,rfl,rfl⟩
  .exact qo ⟨rfl,rfl,rfl⟩
  .exact qo ⟨rfl,rfl,rfl⟩
  .exact qo ⟨rfl,rfl,rfl⟩
  .exact qo ⟨rfl,rfl,rfl⟩
  .refine⟨rfl,.inr ⟨g,1,xh,?_,by omega,?_,a_ _,by decide,rfl,rfl⟩⟩
   .show Value.slice (some ⟨w.heap.size - 1,0,none⟩) 1 1=_;rw[b];rfl
   rwa[dG _ _ _<|by omega]
  .exact qo ⟨rfl,rfl,rfl⟩
  cases c
 .show([w.heap.size - 1]:List Nat).Nodup;simp
 rw[Bi];simp;omega
def YZ(d a t:Int)(n:Bool)(b:1<=d)(c:d<=64)(f:0<=a)(g:a<=32)(h:8<=t)(i:t<=1024)(w:World):
 Calls prog 53 #[.agg #[.int .i64 d,.int .i64 a,.int .i64 t,.bool n]] w λe w' =>e=.returned (.bool true)/\w' =w.alloc (.cells #[.int .i64 d,.int .i64 a,.int .i64 t,.bool n] 40):=by
 go_enter func53,ntmps53;go_wp2;go_ret;exact⟨rfl,rfl⟩
def GZ(d a t:Int)(n:Bool)(j:1<=d)(k:d<=64)(l:0<=a)(m:a<=32)(o:8<=t)(p:t<=1024)(w:World):
 Calls prog 35 #[.agg #[.int .i64 d,.int .i64 a,.int .i64 t,.bool n]] w λe w' =>∃b,e=.returned (.tuple #[.pointer (some ⟨b,0,none⟩),.int .i64 0])/\w.heap.size<b/\Below w.heap.size w w' /\bC w' b (bB d a t n) (L0 b):=by
 have HA:=Y λw=>YZ d a t n j k l m o p w;have g:=Y λw=>YY d a t n w;clear j k l m o p;go_enter func35,ntmps35
 go_wp2_with(first
  |(go_at_call 53;go_call(HA.u _)as e w' ⟨rfl,rfl⟩)
  |(go_at_call 54;go_call(g.u _)as e w2 ⟨rfl,h,i,c⟩)
  |(refine wpList_build rfl 95 #[(0,.tmp 8)] rfl (.agg (GY d a t n (w.heap.size+1+1+3))) (λ_=>by kernel_rfl) ?_))
 go_ret2;simp at h;have f:w2.heap.size=w.heap.size+1+1+3+1:=by omega
 simp at c;refine⟨w2.heap.size,by simp[f],by omega,?_,DG w2 d a t n (w.heap.size+1+1+3) f c⟩;refine Below.alloc ?_ (by omega) _;exact((Below.refl _ _).alloc (a_ _) _ |>.alloc (by simp) _).trans (i.mono<|by simp;omega)
def Y_(h:bC w b s L):
 Calls prog 57 #[.pointer (some ⟨b,0,none⟩)] w λe w' =>e=.returned (.bool (fO s))/\w' =w:=by
 have a:=h.cell;have c:=h.lt;unfold cellsOf at a;clear h;cases d:s.over;all_goals
  go_enter func57,ntmps57;go_wp2;go_ret;exact⟨mU<|by simp[fO,d],rfl⟩
def NC(h:bC w b s L):
 Calls prog 38 #[.pointer (some ⟨b,0,none⟩)] w (Does w b s L (jd s)):=by
 obtain⟨i,k,j⟩:=h.zzv;have g:=Y h;have f:=Y (Y_ h);unfold cellsOf at i;clear h;by_cases c:s.j=0;focus
  cases d:fO s;focus
   rw[d]at f;have a:jd s=({s with j:=9},9):=by simp[jd,c,d]
   rw[a];clear a
  rotate_left;focus
   rw[d]at f;have a:jd s=({s with j:=10},0):=by simp[jd,c,d]
   rw[a];clear a
 rotate_left 2
 .have a:jd s=(s,s.j):=by simp[jd,c]
  rw[a];have d:(s.j !=0)=true:=by simpa using c
  clear a f c;go_enter func38,ntmps38;go_wp2;go_ret;exact⟨rfl,L,g.u.start⟩
 all_goals
  go_enter func38,ntmps38;go_wp2_with(go_at_call 57;go_call f.u as e l ⟨rfl,rfl⟩);go_ret;exact⟨rfl,L,g.u.start.store 29 _ _ rfl rfl rfl⟩
def ND(h:bC w b s L):
 Calls prog 25 #[.pointer (some ⟨b,0,none⟩)] w λe w' =>e=.returned (.int .i64 s.A)/\w' =w:=by
 have a:=h.cell;have c:=h.lt;unfold cellsOf at a;clear h;go_enter func25,ntmps25;go_wp2;go_ret;exact⟨rfl,rfl⟩
def Za(h:bC w b s L):
 Calls prog 58 #[.pointer (some ⟨b,0,none⟩)] w λe w' =>e=.returned (.tuple #[.int .i64 s.K,.int .i64 s.aN])/\∃n,w' =w.drewN n:=by
 have a:=h.cell;have c:=h.lt;unfold cellsOf at a;clear h;go_enter func58,ntmps58;go_wp2;go_quiet(fail);go_wp2;go_ret2;exact⟨rfl,_,rfl⟩
def G_(h:bC w b s L):
 Calls prog 39 #[.pointer (some ⟨b,0,none⟩)] w λe w' =>e=.returned (.tuple #[.int .i64 s.K,.int .i64 s.aN])/\∃n,w' =w.drewN n:=by
 have a:=Y (Za h);have c:=h.lt;clear h;go_enter func39,ntmps39;go_wp2_with(go_at_call 58;go_call a.u as e w' ⟨rfl,n,rfl⟩);go_ret2;exact⟨rfl,_,rfl⟩
def Zb(l:U)(x:UInt8):∀s,aQ s (l++[x])=aS (aQ s l) x:=by
 induction l with
 |nil=>intro s;rfl
 |cons y r ih=>intro s;exact ih _
def Zc(l r:U):∀s,aQ s (l++r)=aQ (aQ s l) r:=by
 induction l with
 |nil=>intro s;rfl
 |cons y t ih=>intro s;exact ih _
def Zd(s:Z)(x:UInt8)(h:s.j≠0):aS s x=s:=by rw[aS,M h]
def NE:∀(l:U) (s:Z),s.j≠0->aQ s l=s
 |[],s,_=>rfl
 |x::r,s,h=>by
  show aQ (aS s x) r=s;rw[Zd s x h];exact NE r s h
def Ze(s:Z)(x:UInt8):s.A<=(aS s x).A/\(aS s x).A<=s.A+1:=by
 unfold aS;split
 .have:=GI {s with A:=s.A+1} x.toNat;simp only at this⊢;omega
 omega
def He:∀(l:U) (s:Z),s.A<=(aQ s l).A/\(aQ s l).A<=s.A+l.length
 |[],s=>by simp[aQ]
 |x::r,s=>by
  have a:=Ze s x;have b:=He r (aS s x);simp only[aQ,cT];omega
def Zf(h:Inv k s)(x:UInt8):Inv (k+12) (aS s x):=by
 unfold aS;split
 .have a:=Gd x;have b:=YO (s:={s with A:=s.A+1}) (k:=k) {h with} x.toNat a.1 a.2;exact{b with}
 exact h.mono (by omega)
def DI:∀(l:U) {k:Nat} {s:Z},Inv k s->Inv (k+12*l.length) (aQ s l)
 |[],k,s,h=>h
 |x::r,k,s,h=>(DI r (Zf h x)).mono (by simp;omega)
structure vJ(w:World)(v:Value)(l:List Ev)(fp:List Nat):Prop where
 ex:∃es:List (Ev×Value),es.map (·.1)=l/\w.ownsRow 0 65 5 v l.length (dU es)/\(∀p∈es,(bR p).owned w 0)/\(∀k,v.ownBlock=some k->k∈fp)/\(∀k∈cZ (es.map bR),k∈fp/\v.ownBlock≠some k)
def xo{a:Nat}{c:Nat}(h:w.ownsRow b e c v n i)(j:a<=b):w.ownsRow a e c v n i:=by
 refine⟨h.1,?_⟩;obtain k|⟨g,d,f,l,m,o⟩:=h.2
 .exact .inl k
 exact .inr ⟨g,d,f,l,cL j m,o⟩
structure o_(w:World)(v:Value)(l:List Ev)(fp:List Nat):Prop where
 ex:∃es:List (Ev×Value),es.map (·.1)=l/\fJ w 0 (⟨65,5,v,l.length,dU es⟩::es.map bR)/\∀k∈cZ (⟨65,5,v,l.length,dU es⟩::es.map bR),k∈fp
def o_.keep{w w' :World}{v:Value}{l:List Ev}{a:List Nat}(h:o_ w v l a)(c:∀k∈a,w'.heap[k]?=w.heap[k]?):o_ w' v l a:=by
 obtain⟨d,e,f,b⟩:=h.ex;exact⟨d,e,f.keep λk g=>c k (b k g),b⟩
def o_.got{l:List Ev}(h:o_ w v l d):vJ w v l d:=by
 obtain⟨f,g,a,e⟩:=h.ex;refine⟨f,g,a.head,λp i=>a.own _ (iU _ (rZ i)),λk j=>e k (mem_filterMap.2 ⟨_,jU,j⟩),λk b=>⟨e k (@uG [_] _ k b),λm=>?_⟩⟩;have c:=a.nd;unfold cZ at c b;rw[fF,m]at c;exact(nodup_cons.1 c).1 b
def NF(h:bC w b s L)(hx:s.F.length<=1000000000000)(B:s.C.length<=1000000000000):
 Calls prog 56 #[.pointer (some ⟨b,0,none⟩)] w λe w' =>∃v x y,e=.returned v/\o_ w' v (bK s).C x/\(∃a n c,v=.slice a n c)/\Mv w b (aY s L) w' (qL s) y/\∀k∈x,(b<=k+1/\k≠b)/\k<w'.heap.size/\k∉aY (qL s) y/\(k∈aY s L\/w.heap.size<=k):=by
 have C:=Y (VW h hx B);clear h;go_enter func56,ntmps56;go_wp2_with(go_at_call 80;go_call C.u as e I ⟨d,rfl,⟨w2,g,rfl⟩,D,o,hd⟩;have HA:=Y g;have E:=Y o;have F:=Y hd;clear g o hd);go_ret;have g:=HA.u;have j:=g.X.rows;have z:(rowsOf (bK s) d).Perm ((fE (bK s) d::d.es.map bR)++[eH (bK s) d,fV (bK s) d,eC (bK s) d,gN (bK s) d,fK (bK s) d,fW (bK s) d]):=by
  refine(tN _ _ _ _ _).trans (.cons _ ?_);exact(perm_append_comm (l₁:=[eH _ _,fV _ _,eC _ _,gN _ _,fK _ _,fW _ _]) (l₂:=d.es.map bR))
 have q:=j.perm z;have f:∀k∈cZ (fE (bK s) d::d.es.map bR),(b<=k+1/\k≠b)/\k<w2.heap.size/\k∈aY (bK s) d:=λk i=>by
  have A:k∈cZ ((fE (bK s) d::d.es.map bR)++[eH (bK s) d,fV (bK s) d,eC (bK s) d,gN (bK s) d,fK (bK s) d,fW (bK s) d]):=by unfold cZ at i⊢;rw[yH];exact oP _ i
  have:=q.lt k A;have p:=nC z.symm k A;exact⟨⟨by omega,λe=>g.X.nb (e▸p)⟩,this.2,p⟩
 have l:∀k∈cZ (fE (bK s) d::d.es.map bR),(w2.setCell ⟨b,26,none⟩ (.slice none 0 0)).heap[k]?=w2.heap[k]?:=λk i=>by
  refine kR _ _ _ _ ?_;exact(f k i).1.2
 have hown:∀r∈fE (bK s) d::d.es.map bR,r.owned w2 (b - 1):=λr t=>q.own r (oP _ t);have G:(cZ (fE (bK s) d::d.es.map bR)).Nodup:=by
  have m:=q.nd;unfold cZ at m⊢;rw[yH]at m;exact(nodup_append.1 m).1
 refine⟨_,cZ (fE (bK s) d::d.es.map bR),D,rfl,?_,⟨_,_,_,rfl⟩,E.u,λk i=>⟨(f k i).1,by have:=(f k i).2.1;simpa[World.setCell]using this,λH=>F.u k H i,HA.u.fr.aY k (f k i).2.2⟩⟩;exact o_.keep (w:=w2) ⟨d.es,g.X.evs,⟨λr t=>xo (hown r t) (dO _),G⟩,λk i=>i⟩ l
def Zh(w:World):o_ w (.slice none 0 0) [] []:=⟨[],rfl,⟨λr a=>(by rw[mem_singleton.1 a];exact lq w 0 _ _),(by simp[cZ,Value.ownBlock])⟩,λk b=>by simp[cZ,Value.ownBlock]at b⟩
def NG(h:bC w b s L)(hI:Inv k s)(l:U)(hk:k+12*l.length<=88000000)(hG:Gl w)(B:2+1<b)(a0:0<=s.A)(a1:s.A<=1000000000)(ad:Option Addr)(c:Nat)
 (hp:∀j (hj:j<l.length),∃g,ad=some ⟨g,0,none⟩/\g<w.heap.size/\g≠b/\g∉aY s L/\w.cell? ⟨g,j,none⟩=some (.int .u8 (l[j].toNat:Int))):
 Calls prog 36 #[.pointer (some ⟨b,0,none⟩),.slice ad l.length c] w λe w' =>∃v fp L', e=.returned (.tuple #[v,.int .i64 (dM s l).2.2])/\o_ w' v (dM s l).2.1 fp/\(∃a n c,v=.slice a n c)/\Mv w b (aY s L) w' (dM s l).1 L' /\∀k∈fp,(b<=k+1/\k≠b)/\k<w'.heap.size/\k∉aY (dM s l).1 L' /\(k∈aY s L\/w.heap.size<=k):=by
 by_cases e1:s.j=0
 .have K:dM s l=(qL (aQ s l),(bK (aQ s l)).C,(aQ s l).j):=by simp[dM,e1]
  rw[K];clear K;have p:=h.cell;have a7:=h.lt;have N:=h.jh;have HM:=Y h;have HG:=Y hG;have HI:=Y hI;have HP:=Y hp;have O:=Y N;unfold cellsOf at p;clear h hG hI hp N;obtain⟨P,C⟩:=aj8 (aQ s l);have D:=Y C;rw[<-C];clear C;go_enter func36,ntmps36;go_wp2;go_loopw [6] (λi w' =>∃k:Nat,k<=l.length/\i=.int .i64 k/\∃L1,Mv w b (aY s L) w' (aQ s (l.take k)) L1) λi _=>l.length - (intOf i).toNat
  case atStart=>exact⟨0,by omega,rfl,L,HM.u.start⟩
  case round=>
   obtain⟨j,hj,rfl,L1,f⟩:=hrel;clear p;have d:=DI (l.take j) HI.u;have y:=He (l.take j) s;have a8:(l.take j).length=j:=by simp;omega
   rw[a8]at d y;have Q:=f.za HG.u B (by omega) λq E=>(O.u q E).1;by_cases R:j<l.length;focus
    have r:=Zb (l.take j) l[j] s;rw[<-um R]at r;obtain⟨g,S,hg,a9,T,W⟩:=HP.u j R;subst S;have aa:wr.cell? ⟨g,j,none⟩=some (.int .u8 (l[j].toNat:Int)):=(aj3 (a:=⟨g,j,none⟩) (f.fr.block g hg a9 T)).trans W;have ah:=f.fr.size;clear W;by_cases e2:(aQ s (l.take j)).j=0
    .have F:=Gd l[j];have X:aS (aQ s (l.take j)) l[j]={(kE {aQ s (l.take j)with A:=(aQ s (l.take j)).A+1} (l[j].toNat:Int)).1 with j:=(kE {aQ s (l.take j)with A:=(aQ s (l.take j)).A+1} (l[j].toNat:Int)).2}:=by
      rw[aS,J e2]
     rw[X]at r;clear X;generalize(l[j].toNat:Int)=x at *;generalize a2:aQ s (l.take (j+1))=s2 at *;generalize aQ s (l.take j)=G at *;have t:=(f.store 28 (.int .i64 (G.A+1)) {G with A:=G.A+1} rfl rfl rfl).drew;have a3:=t.za HG.u B (by omega) λq E=>(O.u q E).1;have HX:=Y (tP t.X (show Inv _ {G with A:=G.A+1}from{d with}) (by omega) x F.1 F.2 a3 B);obtain⟨p,hf,z⟩:=f.X.zzv;have o:=Y t;have ab:=Y r;have ae:=Y a2;unfold cellsOf at p;clear f t Q a3 d r a2 F T;generalize a4:kE {G with A:=G.A+1} x=r2 at *;have ai:=Y a4;clear a4;go_wp2;go_region_with (go_at_call 55;go_call HX.u as e w1 ⟨rfl,L2,m⟩;obtain⟨H,aj,a5⟩:=m.X.zzv;have I:=Y m;clear m;unfold cellsOf at H);all_goals
      go_wp2;go_roundw
      case rel=>
       refine⟨j+1,by omega,by go_num,L2,?_⟩;rw[ae.u,ab.u];exact(o.u.call I.u).store 29 _ _ rfl rfl rfl
      case measure=>simp[intOf];omega
    have hfin:aQ s (l.take j)=P:=by
     rw[D.u];have h9:l=l.take j++l.drop j:=(ol j l).symm;conv=>rhs;rw[h9]
     rw[Zc,NE (l.drop j) _ e2]
    rw[hfin]at f d;have HK:=Y (NF f.X (by have:=d.hx;omega) (by have:=d.hl;omega));have p:=f.X.cell;have z:=f.X.lt;have o:=Y f;have e3:(P.j==0)=false:=by rwa[d_,<-hfin]
   rotate_left;focus
    have hfin:aQ s (l.take j)=P:=by
     rw[D.u,nZ<|by omega]
    rw[hfin]at f d;have HK:=Y (NF f.X (by have:=d.hx;omega) (by have:=d.hl;omega));have p:=f.X.cell;have z:=f.X.lt;have o:=Y f;have e3:decide ((j:Int)<(l.length:Int))=false:=aj9
   all_goals
    unfold cellsOf at p;clear f Q d hfin y D;go_wp2_with fail;go_call HK.u as e w1 ⟨v,fp,L2,rfl,A,⟨va,vn,vc,rfl⟩,m,a6⟩;have H:=m.X.cell;have a5:=m.X.lt;have af:=Y A;have I:=Y m;have ag:=Y a6;have ak:(qL P).j=P.j:=by unfold qL bK;split<;>rfl
    unfold cellsOf at H;clear A m a6 HK p;go_wp2;go_quiet(fail);go_wp2;go_ret2;refine⟨_,fp,L2,rfl,af.u.keep λ_ _=>by rw[heap_drewN],⟨_,_,_,rfl⟩,(o.u.call I.u).drewN _,λq E=>?_⟩;have h7:=ag.u q E;refine⟨h7.1,by rw[heap_drewN];exact h7.2.1,h7.2.2.1,?_⟩;obtain h8|h8:=h7.2.2.2
    .exact o.u.fr.aY q h8
    exact .inr (cL o.u.fr.size h8)
 have K:dM s l=(s,[],s.j):=by simp[dM,e1]
 rw[K];have p:=h.cell;have a7:=h.lt;have HM:=Y h;have e2:(s.j !=0)=true:=by simpa using e1
 unfold cellsOf at p;clear h hI hG hp K e1;go_enter func36,ntmps36;go_wp2;go_quiet(fail);go_wp2;go_ret2;exact⟨_,[],L,rfl,Zh _,⟨_,_,_,rfl⟩,HM.u.start.drewN _,λq E=>by cases E⟩
def Zg{m:Nat}{i:Type}(f:i->List Value)(p:∀a,(f a).length=m){l:List i}(t:0<m)(h:w.ownsRow b e m v n (l.flatMap f))(u:n=l.length)(k:Nat)(q:k<l.length):
 ∃g c,v=.slice (some ⟨g,0,none⟩) n c/\g<w.heap.size/\∀j,j<m->w.cell? ⟨g,k*m+j,none⟩=(f l[k])[j]?:=by
 obtain⟨g,c,o,_,d⟩:=World.ownsRow.form h (by omega);refine⟨g,c,o,d,λj r=>?_⟩;subst o;rw[Bc h (k*m+j) ?_]
 .exact flat_get f m p l k q j r
 have s:(k+1)*m<=n*m:=oO _ (by omega);rw[yE]at s;omega
def slice_form{d:Nat}(h:w.ownsRow b e d v n i):∃a c,v=.slice a n c:=by
 obtain⟨f,j⟩|⟨g,k,l,f,_⟩:=h.2
 .exact⟨none,0,by rw[f,j]⟩
 exact⟨_,_,f⟩
