import Derived.Test.YtmgfijllcdadgaaGreatDoorNW44
import Derived.Test.YtmgfijllcdadgaaGreatDoorNW10
import Derived.Test.YtmgfijllcdadgaaGreatDoorNW13
import Derived.Test.YtmgfijllcdadgaaGreatDoorNW31
set_option linter.unusedVariables false
set_option linter.unusedSimpArgs false
set_option maxHeartbeats 2000000
set_option maxRecDepth 100000
namespace Go.Proofs.YtmgfijllcdadgaaGreatDoor.U
open Go.RowKit
open Mk (Bs Ev aD)
open V
open Go.Proofs.Tryz
open Mk (bI)
variable {ps:List Pl}{v:Value}{w:World}
def rN(ps:List Pl)(o:bR)(which:Int):Bool:=if which=2∨o.k=1∨o.k=8∨ps.length=0 then true else(i_ ps o).on==(which==1)
section
variable {w:World}{O:Nat→Nat×Nat}{b:Nat}{pl:List (Pl×PA)}{hl:List HA}{pa ha:Option Addr}{pc hc:Nat}
theorem cF.more{n m:Nat}{w' :World}(h:cF w O b ps n w')(i:n≤m):cF w O b ps m w' :=by
 obtain⟨O', a,hl', c,d,ha', hc', e,f,j,g⟩:=h;exact⟨O', a,hl', c,d,ha', hc', e,f,by omega,g⟩
theorem NY(h:WI w O b pl hl pa pc ha hc)(o:bR){z A K:Nat}(u:bN z A w v o.l)(d:oL o)(q:∀p∈pl,eM K p.1)(B:K+o.s.length≤7000000)(r:Gt w O)(C:hl.length≤15000000000000)(j:pl.length≤1000000000)
 (t:∀p∈pl,(Rf.aS p.1.od p.1.oa p.1.ot p.1.on p.1.aS o.s).at_≤(p.1.aS++o.s).length):
 Calls Tryz.prog 29 #[.pointer (some ⟨b,0,none⟩),.agg #[.int .i64 o.k,.int .i64 o.n,.int .i64 o.od,.int .i64 o.oa,.int .i64 o.ot,.bool o.on,.string ⟨o.s.toArray⟩,v]] w fun e w' =>e=.returned (.bool (ig (pl.map (·.1)) o))∧cF w O b (gF (pl.map (·.1)) o) (hl.length+84* (K+o.s.length)+o.l.length+5) w' :=by
 have m:∃a n c,v=.slice a n c:=by obtain⟨a,c,m,_⟩:=u.form;exact⟨a,_,c,m⟩
 by_cases x:o.k=1
 .exact(NT h o v m r j x).mono fun e w' ⟨f,g⟩=>⟨f,g.more (by omega)⟩
 by_cases y:o.k=8
 .exact(NU h o u d r (by omega) y).mono fun e w' ⟨f,g⟩=>⟨f,g.more (by omega)⟩
 cases i:kC (pl.map (·.1)) o with
 |false=>exact(NV h o v m x y i).mono fun e w' ⟨f,g⟩=>⟨f,g.more (by omega)⟩
 |true=>
  unfold kC at i;simp at i;exact(NW h o v m d.n0 d.n1 q B r C j t i.1.1 i.1.2 i.2).mono fun e w' ⟨f,g⟩=>⟨f,g.more (by omega)⟩
theorem NZ(h:WI w O b pl hl pa pc ha hc)(o:bR)(v:Value)(Y:∃a n c,v=.slice a n c)(Z: -9223372036854775808≤o.n)(n1:o.n≤9223372036854775807)(f:Int)(a0:pl.length≤1000000000):
 Calls Tryz.prog 28 #[.pointer (some ⟨b,0,none⟩),.agg #[.int .i64 o.k,.int .i64 o.n,.int .i64 o.od,.int .i64 o.oa,.int .i64 o.ot,.bool o.on,.string ⟨o.s.toArray⟩,v],.int .i64 f] w fun e w' =>e=.returned (.bool (rN (pl.map (·.1)) o f))∧Below w.heap.size w w' :=by
 obtain⟨Q,R,S,rfl⟩:=Y;obtain⟨y,z⟩:∃y,y=w.alloc (.cells #[.int .i64 o.k,.int .i64 o.n,.int .i64 o.od,.int .i64 o.oa,.int .i64 o.ot,.bool o.on,.string ⟨o.s.toArray⟩,.slice Q R S] 60):=⟨_,rfl⟩;have C:Below w.heap.size w y:=by rw[z];exact cZ w _
 have A:=h.below C;obtain⟨a1,d⟩:∃x,x=rN (pl.map (·.1)) o f:=⟨_,rfl⟩;rw[←d];unfold rN at d;rw[List.length_map]at d;obtain⟨a2,a3,a4⟩:=aM A.blk;have E:=aB C;have j:0<pl.length→∃g,pa=some ⟨g,0,none⟩∧g<y.heap.size∧y.cell? ⟨g,fM o pl.length,none⟩=some (.pointer (some ⟨(pl.getD (fM o pl.length) (oK,⟨0,0,L0 0⟩)).2.xb,0,none⟩))∧y.heap[(pl.getD (fM o pl.length) (oK,⟨0,0,L0 0⟩)).2.xb]?=some (.cells (dL (i_ (pl.map (·.1)) o) (pl.getD (fM o pl.length) (oK,⟨0,0,L0 0⟩)).2.pb) 57 (0,0)):=fun i=>by
  have B:=qc o i;obtain⟨g,J,F,G⟩:=ou A.pr B;rw[DI i];have e9:pl.getD (fM o pl.length) (oK,⟨0,0,L0 0⟩)=pl[fM o pl.length]:=by simp[List.getD,B]
  rw[e9];exact⟨g,J,F,by rw[G];simp[jF,B],(A.ps _ B).blk⟩
 have t:=aB (fun(i:0<pl.length) (W:World)=>(Cv o.n pl.length Z n1 (by omega) (by omega) W));have m:=fun(i:0<pl.length)=>DJ o i
 have r:=fun(i:0<pl.length)=>qc o i
 obtain⟨k,n,od,oa,ot,on,s,l⟩:=o;dsimp only at *;obtain⟨K,L,M⟩:=aM (heap_alloc_new w (.cells #[.int .i64 k,.int .i64 n,.int .i64 od,.int .i64 oa,.int .i64 ot,.bool on,.string ⟨s.toArray⟩,.slice Q R S] 60));rw[←z]at K L M;have T:=z.symm;clear z A h C;by_cases ha:f=2
 .have t1:(f==2)=true:=by simpa using ha
  rw[if_pos (.inl ha)]at d;subst d;clear ha j t m r;go_enter func28,ntmps28
  go_wp2_with fail
  go_ret;exact⟨rfl,aA E⟩
 have t1:(f==2)=false:=by simpa using ha
 by_cases D:k=1
 .have t2:(k==1)=true:=by simpa using D
  rw[if_pos (.inr (.inl D))]at d;subst d;clear ha D j t m r;go_enter func28,ntmps28
  go_wp2_with fail
  go_ret;exact⟨rfl,aA E⟩
 have t2:(k==1)=false:=by simpa using D
 by_cases u:k=8
 .have t3:(k==8)=true:=by simpa using u
  rw[if_pos (.inr (.inr (.inl u)))]at d;subst d;clear ha D u j t m r;go_enter func28,ntmps28
  go_wp2_with fail
  go_ret;exact⟨rfl,aA E⟩
 have t3:(k==8)=false:=by simpa using u
 by_cases hd:pl.length=0
 .have t4:((pl.length:Int)==0)=true:=by rw[hd];rfl
  rw[if_pos (.inr (.inr (.inr hd)))]at d;subst d;clear ha D u hd j t m r;go_enter func28,ntmps28
  go_wp2_with fail
  go_ret;exact⟨rfl,aA E⟩
 have t4:((pl.length:Int)==0)=false:=by rw[beq_eq_false_iff_ne];omega
 rw[if_neg (by rintro(q|q|q|q)<;>contradiction)]at d;have i:0<pl.length:=by omega
 obtain⟨g,rfl,F,G,H⟩:=j i;have X:=aB (aA t i);rw[m i]at X;have e6:=r i;have e7:((fM ⟨k,n,od,oa,ot,on,s,l⟩ pl.length:Nat):Int)<(pl.length:Int):=by omega
 have a5:Below y.heap.size y y.drew:=⟨rfl,rfl,rfl,Nat.le_refl _,fun _ _=>rfl⟩;obtain⟨N,a6,a7⟩:=aM H;unfold dL at N;clear ha D u hd j t m r H;generalize(pl.getD (fM ⟨k,n,od,oa,ot,on,s,l⟩ pl.length) (oK,⟨0,0,L0 0⟩)).2.xb=xb at *;generalize(pl.getD (fM ⟨k,n,od,oa,ot,on,s,l⟩ pl.length) (oK,⟨0,0,L0 0⟩)).2.pb=pb at *;generalize fM ⟨k,n,od,oa,ot,on,s,l⟩ pl.length=ii at *;generalize i_ (pl.map (·.1)) ⟨k,n,od,oa,ot,on,s,l⟩=p at *;have P:=aB d;clear d;go_enter func28,ntmps28
 go_wp2_with fail
 go_cut [7] (fun s7 wx=>s7=.pointer (some ⟨xb,0,none⟩)∧wx=y.drew)
 case first=>
  go_region_with (go_at_call 46;refine(aA X _).mono ?_;rintro e w2 ⟨rfl,rfl⟩)
  all_goals
   go_wp2_with fail
   go_meet
   exact⟨rfl,rfl⟩
 case rest=>
 obtain⟨rfl,rfl⟩:=hcut;have hf:=aA P;subst hf;go_wp2_with fail
 go_ret;have I:=aA E;exact⟨rfl,⟨I.os,I.tape,I.output,I.size,I.block⟩⟩
end
structure nD(w:World)(v:Value)(ops:List bR):Prop where
 form:∃a c,v=.slice a ops.length c∧∀i (hi:i<ops.length),∃g o va,a=some ⟨g,o,none⟩∧g<w.heap.size∧(∀j,j<8→w.cell? ⟨g,o+i*8+j,none⟩=(qd ops[i] va)[j]?)∧bN 0 w.heap.size w va ops[i].l
 len:ops.length≤9223372036854775807
def fq:List bR→Nat
 |[]=>0
 |o::r=>o.s.length+fq r
theorem yc(l:List bR)(i:Nat)(h:i<l.length):fq (l.take (i+1))=fq (l.take i)+l[i].s.length:=by
 induction l generalizing i with
 |nil=>cases h
 |cons o r ih=>
  cases i with
  |zero=>simp[fq]
  |succ i=>simp only[List.take_succ_cons,fq,ih i (by simpa using h),List.getElem_cons_succ];omega
theorem DK(l:List bR)(i:Nat):fq (l.take i)≤fq l:=by
 induction l generalizing i with
 |nil=>simp[fq]
 |cons o r ih=>
  cases i with
  |zero=>simp[fq]
  |succ i=>have:=ih i;simp only[List.take_succ_cons,fq];omega
theorem RY{b:List bR}(h:nD w v b)(l:fq b≤100000000):
 Calls Tryz.prog 27 #[v] w fun e w' =>e=.returned (.bool true)∧Below w.heap.size w w' :=by
 obtain⟨a,c,x,q⟩:=h.form;subst x;have r:=aB q;have F:=h.len;have y:=aB l;clear h q l;go_enter func27,ntmps27
 go_wp2_with fail
 go_loopg [3,4] b.length (fun g z A B=>∃i:Nat,i≤b.length∧g=b.length - i∧z=.int .i64 (fq (b.take i):Int)∧A=.int .i64 i∧Hid (Below w.heap.size w B))
 case atStart=>exact⟨0,Nat.zero_le _,rfl,by simp[fq],rfl,aB (Below.refl _ _)⟩
 case round=>
  obtain⟨i,C,rfl,rfl,rfl,m⟩:=hrel;by_cases d:i<b.length
  .have D:decide ((i:Int)<(b.length:Int))=true:=by simp;omega
   have G:(i:Int)<(b.length:Int):=by omega
   obtain⟨g,o,H,rfl,f,j,-⟩:=aA r i d;have t:=j 6 (by decide);rw[←fU ((aA m).block g f)]at t;simp[qd]at t;have u:g<wr.heap.size:=Nat.lt_of_lt_of_le f (aA m).size;have k:=yc b i d;have n:=DK b (i+1);have l:=aA y;have E:decide (1099511627776 - (fq (b.take i):Int)<(b[i].s.length:Int))=false:=by simp;omega
   have I:fq (b.take i)≤100000000:=by omega
   have J:b[i].s.length≤100000000:=by omega
   have p:=aB k;clear k n l j r;generalize b[i]=K at *;generalize fq (b.take i)=L at *;go_wp2_with fail
   go_roundg (b.length - (i+1))
   case measure=>omega
   case rel=>exact⟨i+1,by omega,rfl,by rw[aA p];simp,by simp,m⟩
  have D:decide ((i:Int)<(b.length:Int))=false:=by simp;omega
  have E:decide (i<b.length)=false:=by simp;omega
  go_wp2_with fail
  go_ret;exact⟨rfl,aA m⟩
def iL(ops:List bR)(i:Nat):List Pl:=(ops.take i).foldl gF []
theorem yd(ops:List bR)(i:Nat)(h:i<ops.length):iL ops (i+1)=gF (iL ops i) ops[i]:=by
 unfold iL;rw[List.take_add_one,List.getElem?_eq_getElem h,List.foldl_append];rfl
theorem RZ(ps:List Pl)(o:bR):(gF ps o).length≤ps.length+1:=by
 unfold gF;repeat' split
 all_goals simp
theorem DL(ops:List bR):∀i,i≤ops.length→(iL ops i).length≤i
 |0,_=>by simp[iL]
 |i+1,h=>by
  rw[yd ops i (by omega)];have a:=RZ (iL ops i) ops[i];have b:=DL ops i (by omega);omega
def rO(lo hi which:Int)(ps:List Pl)(o:bR):Bool:=rN ps o which&&decide (lo≤o.k)&&decide (o.k≤hi)
structure PI(w:World)(b:Nat)(ops:List bR)(i:Nat)(wx:World)(O:Nat→Nat×Nat)(pl:List (Pl×PA))(hl:List HA)(pa:Option Addr)(pc:Nat)(ha:Option Addr)(hc:Nat):Prop where
 wi:WI wx O b pl hl pa pc ha hc
 ps:pl.map (·.1)=iL ops i
 len:hl.length≤i*100000000
 gt:Gt wx O
 lo:∀k,k<w.heap.size→O k=fr
 aU:Below w.heap.size w wx
section
variable {w:World}{b:Nat}{ops:List bR}{i:Nat}{wx:World}{O:Nat→Nat×Nat}{pl:List (Pl×PA)}{hl:List HA}{pa ha:Option Addr}{pc hc:Nat}
theorem PI.below{W:World}(h:PI w b ops i wx O pl hl pa pc ha hc)(a:Below wx.heap.size wx W):PI w b ops i W O pl hl pa pc ha hc:=
 ⟨h.wi.below a,h.ps,h.len,h.gt.gA (bF.of_below (O:=O) (fun _=>False) a) fun _ _ e=>e,h.lo,h.aU.trans (a.mono h.aU.size)⟩
theorem WI.init(w1:World):WI (w1.alloc (.cells #[.slice none 0 0,.slice none 0 0] 52)) (fun k=>if k=w1.heap.size then(0,0)else fr) w1.heap.size [] [] none 0 none 0:=
 ⟨heap_alloc_new w1 _,by simp,World.ownsRow_nil _ _ _ _,fun k q=>absurd q fV,World.ownsRow_nil _ _ _ _,fun k q=>absurd q fV,fun i a=>(by cases a),fun j b=>(by cases b),fun k q=>if_neg fun e=>(by simp at q;omega)⟩
theorem R_{i h f s l F:Nat}(b:h≤i*100000000)(c:f+s≤F)(d:l≤1048576)(g:F≤1100000):h+84* (f+s)+l+5≤(i+1)*100000000:=by
 have e:(i+1)*100000000=i*100000000+100000000:=Nat.succ_mul i 100000000;rw[e];have a:h+(84* (f+s)+l+5)≤i*100000000+100000000:=Nat.add_le_add b (by omega);rw[←Nat.add_assoc,←Nat.add_assoc]at a;exact a
theorem PI.next{w2:World}{n:Nat}(h:PI w b ops i wx O pl hl pa pc ha hc)(l:i<ops.length)(m:cF wx O b (gF (pl.map (·.1)) ops[i]) n w2)(t:n≤(i+1)*100000000):
 (∃O' a hl' c d ha' hc', PI w b ops (i+1) w2 O' a hl' c d ha' hc')∧∀k,k<wx.heap.size→O k=fr→w2.heap[k]?=wx.heap[k]?:=by
 obtain⟨O', a,hl', c,d,ha', hc', o,p,u,f⟩:=m;have g:=h.aU.size;have j:∀k,k<wx.heap.size→O k=fr→w2.heap[k]?=wx.heap[k]?:=fun k r s=>f.ch.block k r fun e=>by
  rcases e with e|e
  .exact e s
  exact e
 refine⟨⟨O', a,hl', c,d,ha', hc', o,by rw[p,h.ps,yd ops i l],by omega,h.gt.gA f fun _ _ e=>e,fun k q=>f.tag k (by omega) (h.lo k q) fun e=>e,?_⟩,j⟩;exact⟨f.ch.os.trans h.aU.os,f.ch.tape.trans h.aU.tape,f.ch.output.trans h.aU.output,Nat.le_trans g f.ch.size,fun k q=>(j k (by omega) (h.lo k q)).trans (h.aU.block k q)⟩
end
theorem Sb{ops:List bR}(A E m:Int)(h:nD w v ops)(hO:∀o∈ops,oL o)(hI:∀i,i≤ops.length→∀p∈iL ops i,eM (fq (ops.take i)) p)
 (hT:∀i (E:i<ops.length),∀p∈iL ops i,(Rf.aS p.od p.oa p.ot p.on p.aS ops[i].s).at_≤(p.aS++ops[i].s).length)
 (hA:∀i (b3:i<ops.length),(rO A E m (iL ops i) ops[i]=true∨ops[i].k=1)→ig (iL ops i) ops[i]=true) (hF:fq ops≤1100000) (hL:ops.length≤131072) (a7:Gl w) (a8:bG w) (hs:2<w.heap.size):
 Calls Tryz.prog 16 #[v,.int .i64 A,.int .i64 E,.int .i64 m] w fun e w' =>e=.returned (.bool true)∧Below w.heap.size w w' :=by
 have HS:=aB (RY h (by omega));obtain⟨a,c,hv,hf⟩:=h.form;subst hv;have HF:=aB hf;have HP:=aB (And.intro hO (And.intro hI (And.intro hT hA)));have HG:=aB (And.intro a7 a8);clear h hf hO hI hT hA a7 a8;go_enter func16,ntmps16
 go_wp2_with fail
 refine(aA HS).mono ?_;rintro e w1 ⟨rfl,J⟩;have K:=J.size;have a9:Hid (∃O pl hl pa pc ha hc,PI w w1.heap.size ops 0 (w1.alloc (.cells #[.slice none 0 0,.slice none 0 0] 52)) O pl hl pa pc ha hc):=aB ⟨_,[],[],none,0,none,0,WI.init w1,rfl,by simp,⟨(aA HG).1.below hs (J.alloc K _),(aA HG).2.below (J.alloc K _),by simp;omega,fun k q=>if_neg (by omega)⟩,fun k q=>if_neg (by omega),J.alloc K _⟩;have b4:w1.heap.size<(w1.alloc (.cells #[.slice none 0 0,.slice none 0 0] 52)).heap.size:=by simp
 clear J HS;go_wp2_with fail
 generalize w1.heap.size=b at *;go_loopg [11] ops.length (fun g sx wx=>∃i:Nat,i≤ops.length∧g=ops.length - i∧sx=.int .i64 i∧Hid (∃O pl hl pa pc ha hc,PI w b ops i wx O pl hl pa pc ha hc))
 case atStart=>exact⟨0,Nat.zero_le _,rfl,rfl,a9⟩
 case round=>
  obtain⟨i,aa,rfl,rfl,HJ⟩:=hrel;clear a9;by_cases F:i<ops.length
  .have e1:decide ((i:Int)<(ops.length:Int))=true:=by simp;omega
   have e2:(i:Int)<(ops.length:Int):=by omega
   obtain⟨O,pl,hl,pa,pc,ha,hc,y⟩:=aA HJ;obtain⟨g,o,va,rfl,ab,r,a2⟩:=aA HF i F;have p0:=r 0 (by decide);have p1:=r 1 (by decide);have p2:=r 2 (by decide);have p3:=r 3 (by decide);have p4:=r 4 (by decide);have p5:=r 5 (by decide);have p6:=r 6 (by decide);have p7:=r 7 (by decide);rw[←fU (y.aU.block g ab)]at p0 p1 p2 p3 p4 p5 p6 p7;simp[qd]at p0 p1 p2 p3 p4 p5 p6 p7;have b2:g<wr.heap.size:=Nat.lt_of_lt_of_le ab y.aU.size;have L:=(aA HP).1 ops[i] (List.getElem_mem F);obtain⟨aq,ar,ad,-⟩:=a2.form;have ae:∃a n c,va=.slice a n c:=⟨_,_,_,ad⟩;have b5:pl.length≤131072:=by have h1:=DL ops i aa;rw[←y.ps,List.length_map]at h1;omega
   have a3:=DK ops (i+1);rw[yc ops i F]at a3;have af:∀p∈pl,eM (fq (ops.take i)) p.1:=fun p hp=>(aA HP).2.1 i aa p.1 (by rw[←y.ps];exact List.mem_map_of_mem hp)
   have ag:=fun p (hp:p∈pl)=>(aA HP).2.2.1 i F p.1 (by rw[←y.ps];exact List.mem_map_of_mem hp)
   have au:hl.length≤13107200000000:=by have:=y.len;exact Nat.le_trans this (Nat.mul_le_mul_right 100000000 (show i≤131072 by omega))
   have ah:=aB (fun(W:World) (M:Below wr.heap.size wr W)=>NZ (y.wi.below M) ops[i] va ae L.n0 L.n1 m (by omega));have ai:=aB (fun(W:World) (M:Below wr.heap.size wr W)=>NY (y.wi.below M) ops[i] ((a2.below y.aU).below M) L af (by omega) (y.below M).gt (by omega) (by omega) ag);have aj:=aB (fun(W w2:World) (M:Below wr.heap.size wr W) hs=>(y.below M).next (w2:=w2) F hs (R_ y.len a3 L.ln hF));have B:=(aA HP).2.2.2 i F;rw[←y.ps]at B;have av:=aB (RP ops[i].od ops[i].oa ops[i].ot ops[i].on);have b6:=(y.wi.old (k:=b) (by rw[y.wi.ob];exact fI (by decide)));have ak:=aB y.wi.nw;unfold rO at B;have N:=aB B;subst ad;clear r a2 L ae af ag B y HJ a3 au;generalize aw:rN (pl.map (·.1)) ops[i] m=C at *;generalize P:ig (pl.map (·.1)) ops[i]=sp at *;clear aw P;generalize ax:ops[i]=X at *;clear ax;obtain⟨k,n,od,oa,ot,on,s,l⟩:=X;dsimp only at *;have HW1:=aB (aA ah _ (cZ wr (.cells #[.int .i64 k,.int .i64 n,.int .i64 od,.int .i64 oa,.int .i64 ot,.bool on,.string ⟨s.toArray⟩,.slice aq l.length ar] 60)));clear ah;go_wp2_with fail
   refine(aA HW1).mono ?_;rintro e w2 ⟨rfl,al⟩;obtain⟨a4,am⟩:=nk al;obtain⟨T,Y,G⟩:=aM a4;have I:=aB (And.intro am a4);clear al am a4 HW1 p0 p1 p2 p3 p4 p5 p6 p7;have Z:=aB (aA ai w2 (aA I).1);have D:=aB (fun w3 hs=>aA aj w2 w3 (aA I).1 hs);have a1:O wr.heap.size=fr:=aA ak _ (Nat.le_refl _);have a0:=aB a1;clear ai aj ak a1 HP;have an:(C=false∧(C&&decide (A≤k)&&decide (k≤E))=false)∨(C=true∧decide (A≤k)=false∧(C&&decide (A≤k)&&decide (k≤E))=false)∨(C=true∧decide (A≤k)=true∧decide (k≤E)=false∧(C&&decide (A≤k)&&decide (k≤E))=false)∨(C=true∧decide (A≤k)=true∧decide (k≤E)=true∧(C&&decide (A≤k)&&decide (k≤E))=true):=by
    cases C<;>cases decide (A≤k)<;>cases decide (k≤E)<;>simp
   generalize hH:(C&&decide (A≤k)&&decide (k≤E))=H at *;clear hH;have ao:(H=false∧((C=false)∨(C=true∧decide (A≤k)=false)∨(C=true∧decide (A≤k)=true∧decide (k≤E)=false)))∨(H=true∧C=true∧decide (A≤k)=true∧decide (k≤E)=true):=by
    rcases an with⟨a,b⟩|⟨a,b,c⟩|⟨a,b,c,d⟩|⟨a,b,c,d⟩
    .exact .inl ⟨b,.inl a⟩
    .exact .inl ⟨c,.inr (.inl ⟨a,b⟩)⟩
    .exact .inl ⟨d,.inr (.inr ⟨a,b,c⟩)⟩
    exact .inr ⟨d,a,b,c⟩
   clear an;rcases ao with⟨rfl,ap⟩|⟨rfl,rfl,q1,q2⟩
   .rcases ap with rfl|⟨rfl,q1⟩|⟨rfl,q1,q2⟩;all_goals
     go_wp2_with fail
     refine(aA Z).mono ?_;rintro e w3 ⟨rfl,Q⟩;obtain⟨a5,R⟩:=aA D w3 Q;have S:=(R wr.heap.size G (aA a0)).trans (aA I).2;clear Q R D Z I T Y G a0;obtain⟨O3,ay,az,b0,b1,mq,hc3,t⟩:=a5;have u:=aB (fun(W:World) (M:Below w3.heap.size w3 W)=>Cx (t.wi.below M) (by have h9:=t.len;exact Nat.le_trans h9 (Nat.le_trans (Nat.mul_le_mul_right 100000000 (show i+1≤131073 by omega)) (by decide))));have x:=aB t;obtain⟨T,Y,G⟩:=aM S;clear t S;by_cases j:k=1
     .have P:=aA N (.inr j);subst P;have t1:(k==1)=true:=by simpa using j
      clear N j;go_wp2_with fail
      refine(aA u _ (Below.refl _ _)).mono ?_;rintro e w5 ⟨rfl,f⟩;have z:=aB ((aA x).below (f));clear f u x;go_wp2_with fail
      go_roundg (ops.length - (i+1))
      case measure=>omega
      case rel=>exact⟨i+1,by omega,rfl,by simp,aB ⟨_,_,_,_,_,_,_,aA z⟩⟩
     have t1:(k==1)=false:=by simpa using j
     clear N j;cases sp;all_goals
      go_wp2_with fail
      refine(aA u _ (Below.refl _ _)).mono ?_;rintro e w5 ⟨rfl,f⟩;have z:=aB ((aA x).below (f));clear f u x;go_wp2_with fail
      go_roundg (ops.length - (i+1))
      case measure=>omega
      case rel=>exact⟨i+1,by omega,rfl,by simp,aB ⟨_,_,_,_,_,_,_,aA z⟩⟩
   have P:=aA N (.inl rfl);subst P;clear N;go_wp2_with fail
   refine(aA Z).mono ?_;rintro e w3 ⟨rfl,Q⟩;obtain⟨a5,R⟩:=aA D w3 Q;have S:=(R wr.heap.size G (aA a0)).trans (aA I).2;clear Q R D Z I T Y G a0;obtain⟨O3,ay,az,b0,b1,mq,hc3,t⟩:=a5;have u:=aB (fun(W:World) (M:Below w3.heap.size w3 W)=>Cx (t.wi.below M) (by have h9:=t.len;exact Nat.le_trans h9 (Nat.le_trans (Nat.mul_le_mul_right 100000000 (show i+1≤131073 by omega)) (by decide))));have x:=aB t;obtain⟨T,Y,G⟩:=aM S;clear t S;by_cases j:k=1
   .have t1:(k==1)=true:=by simpa using j
    clear j;go_wp2_with fail
    refine(aA av _).mono ?_;rintro e w4 ⟨rfl,a6⟩;go_wp2_with fail
    refine(aA u _ a6).mono ?_;rintro e w5 ⟨rfl,f⟩;have z:=aB ((aA x).below (a6.trans (f.mono a6.size)));clear f u x;go_wp2_with fail
    go_roundg (ops.length - (i+1))
    case measure=>omega
    case rel=>exact⟨i+1,by omega,rfl,by simp,aB ⟨_,_,_,_,_,_,_,aA z⟩⟩
   have t1:(k==1)=false:=by simpa using j
   clear j;go_wp2_with fail
   refine(aA u _ (Below.refl _ _)).mono ?_;rintro e w5 ⟨rfl,f⟩;have z:=aB ((aA x).below (f));clear f u x;go_wp2_with fail
   go_roundg (ops.length - (i+1))
   case measure=>omega
   case rel=>exact⟨i+1,by omega,rfl,by simp,aB ⟨_,_,_,_,_,_,_,aA z⟩⟩
  have e1:decide ((i:Int)<(ops.length:Int))=false:=by simp;omega
  have e3:decide (i<ops.length)=false:=by simp;omega
  go_wp2_with fail
  go_ret;obtain⟨O,pl,hl,pa,pc,ha,hc,h9⟩:=aA HJ;exact⟨rfl,h9.aU⟩
theorem eM.make{od oa ot:Int}(on:Bool)(h:Rf.allowed od oa ot=true):eM 0 (gB od oa ot on):=by
 obtain⟨b,c,f,a,d,e⟩:=PY h;exact⟨b,c,f,a,d,e,Aj od oa ot on a,Int.le_refl _,Int.le_refl _,Nat.le_refl _,fun _=>Mw od oa ot on b d a,c,e⟩
theorem Sc:(iH (gB 1 0 8 false)).2=true:=by decide
theorem N_(n:Gl w)(o:bG w)(R:2<w.heap.size):Calls Tryz.prog 15 #[] w fun e w' =>e=.returned (.bool true)∧Below w.heap.size w w' :=by
 have p:=WI.init w;have f:=cZ w (.cells #[.slice none 0 0,.slice none 0 0] 52);have t:Gt (w.alloc (.cells #[.slice none 0 0,.slice none 0 0] 52)) (fun k=>if k=w.heap.size then(0,0)else fr):=⟨n.below R f,o.below f,by simp;omega,fun k q=>if_neg (by omega)⟩;have E:=aB (CP p 1 0 8 false (by simp;omega) (by decide));rw[show Rf.allowed 1 0 8=true from rfl,if_pos rfl]at E;have j:=aB (And.intro t f);clear p t f n o;go_enter func15,ntmps15
 go_wp2_with fail
 refine(aA E).mono ?_;rintro e w1 ⟨rfl,S⟩;obtain⟨P,u,T,X,l,i,C⟩:=S;obtain⟨q,Y,h⟩:∃q,u=[q]∧q.1=gB 1 0 8 false:=by
  generalize gB 1 0 8 false=M at C⊢;cases u with
  |nil=>cases C
  |cons q r=>
   have Q:=List.cons.inj C;cases r with
   |nil=>exact⟨q,rfl,Q.1⟩
   |cons a b=>cases Q.2
 subst Y;have v:=(aA j).1.gA i fun _ _ e=>e
 have d:0<[q].length:=Nat.zero_lt_one;have D:eM 0 ([q][0]).1:=by rw[show([q][0]).1=q.1 from rfl,h];exact eM.make false rfl
 have x:=aB (fun(W:World) (c:Below w1.heap.size w1 W)=>Dm (l.below c) d D (by decide) (v.gA (bF.of_below (O:=P) (fun _=>False) c) fun _ _ e=>e));have F:=aB (fun(W:World) (c:Below w1.heap.size w1 W)=>Af ((l.below c).ps 0 d).rd);obtain⟨g,G,Z,H⟩:=ou l.pr d;subst G;rw[show(jF [q])[0]?=some (.pointer (some ⟨q.2.xb,0,none⟩))from rfl]at H;obtain⟨a0,a1,a2⟩:=aM l.blk;obtain⟨I,a3,a4⟩:=aM (l.ps 0 d).blk;have HX:=aB (l.ps 0 d).blk;unfold dL at I;have y:Below w.heap.size w w1:=⟨i.ch.os.trans (aA j).2.os,i.ch.tape.trans (aA j).2.tape,i.ch.output.trans (aA j).2.output,Nat.le_trans (aA j).2.size i.ch.size,fun k D=>(i.ch.block k (by simp;omega) fun e=>by rcases e with e|e;exact e (if_neg (by omega));exact e).trans ((aA j).2.block k D)⟩;have z:∀k,k<w.heap.size→P k=fr:=fun k q=>i.tag k (by simp;omega) (if_neg (by omega)) fun e=>e
 have J:=aB z;have A:q.1.s.at_=0:=by rw[h];rfl
 have B:(iH [q][0].1).2=true:=by rw[show([q][0]).1=q.1 from rfl,h];exact Sc
 rw[B]at x;have a5:([q].length:Int)=1:=rfl;have K:=aB y;clear B y l i C D v E j h z;have a6:Below w1.heap.size w1 w1.drew:=⟨rfl,rfl,rfl,Nat.le_refl _,fun _ _=>rfl⟩;obtain⟨⟨od,oa,ot,on,st,aS,said⟩,⟨xb,pb,L⟩⟩:=q;dsimp only at *;simp only[List.length_cons,List.length_nil,List.getElem_cons_zero]at *;go_wp2_with fail
 refine(aA F _ (Below.refl _ _)).mono ?_;rintro e w2 ⟨rfl,rfl⟩;rw[A];have e0:((0:Int)==0)=true:=rfl;go_wp2_with fail
 refine(aA x _ (Below.refl _ _)).mono ?_;rintro e w3 ⟨rfl,O3,A3,-,m⟩;have c:=aA K;have N:=aB (show Below w.heap.size w w3 from⟨m.ch.os.trans c.os,m.ch.tape.trans c.tape,m.ch.output.trans c.output,Nat.le_trans c.size m.ch.size,fun k q=>(m.ch.block k (Nat.lt_of_lt_of_le q c.size) fun e=>by rcases e with e|e;exact e (aA J k q);exact e).trans (c.block k q)⟩);clear m c;go_wp2_with fail
 go_ret;exact⟨rfl,aA N⟩
theorem eM.mono{K a:Nat}{p:Pl}(h:eM K p)(b:K≤a):eM a p:=
 ⟨h.d1,h.d2,h.a1,h.a2,h.t1,h.t2,h.inv.mono (by omega),h.dQ,by have:=h.nP;omega,by have:=h.fd;omega,h.w,h.sd,h.st⟩
theorem DN(s:Mk.St):∃L T,Mk.take s={s with list:=L,text:=T}:=by
 unfold Mk.take Mk.aQ;split
 .exact⟨_,s.text,rfl⟩
 exact⟨_,_,rfl⟩
theorem Oa{s:Mk.St}(h:s.ended=0→W s)(l:Bs):(Mk.feed s l).1.ended=0→W (Mk.feed s l).1:=by
 unfold Mk.feed;split
 .rename_i a;obtain⟨L,T,e⟩:=DN (bI s l);dsimp only;rw[e];intro b;have c:=Df l (h a) b;exact{c with}
 exact h
theorem Ob(s:Mk.St)(l:Bs):(Mk.feed s l).1.od=s.od∧(Mk.feed s l).1.ot=s.ot:=by
 unfold Mk.feed;split
 .obtain⟨L,T,e⟩:=DN (bI s l);dsimp only;rw[e];exact⟨GX l s,GY l s⟩
 exact⟨rfl,rfl⟩
theorem eM.feed{K:Nat}{p:Pl}(h:eM K p)(s:Bs):eM (K+s.length) (jl p s).1:=by
 have g:=Iu h.inv s;have j:=Iv p.s s;have i:=Oa h.w s;have b:=Ob p.s s;have k:=h.dQ;have l:=h.nP;have m:=h.fd;have e:(jl p s).1.od=p.od∧(jl p s).1.oa=p.oa∧(jl p s).1.ot=p.ot∧(jl p s).1.s=(Mk.feed p.s s).1∧(jl p s).1.aS.length≤p.aS.length+s.length:=by
  unfold jl;split
  .exact⟨rfl,rfl,rfl,rfl,by show((p.aS++s).take _).length≤_;rw[List.length_take,List.length_append];omega⟩
  exact⟨rfl,rfl,rfl,rfl,by show p.aS.length≤_;omega⟩
 obtain⟨c,d,f,a,n⟩:=e;exact⟨by rw[c];exact h.d1,by rw[c];exact h.d2,by rw[d];exact h.a1,by rw[d];exact h.a2,by rw[f];exact h.t1,by rw[f];exact h.t2,by rw[a];exact g.mono (by omega),by rw[a];omega,by rw[a];omega,by omega,by rw[a];exact i,by rw[a,b.1];exact h.sd,by rw[a,b.2];exact h.st⟩
theorem Oc(s:Mk.St):∃e,(Mk.close s).1={s with ended:=e}∧(e=0→s.ended=0):=by
 unfold Mk.close;split
 .split
  .exact⟨_,rfl,fun h=>by cases h⟩
  exact⟨_,rfl,fun h=>by cases h⟩
 exact⟨s.ended,rfl,fun h=>h⟩
theorem eM.close{K:Nat}{p:Pl}(h:eM K p):eM K (iH p).1:=by
 obtain⟨x,g,b⟩:=Oc p.s;have e:(iH p).1.od=p.od∧(iH p).1.oa=p.oa∧(iH p).1.ot=p.ot∧(iH p).1.s=(Mk.close p.s).1∧(iH p).1.aS=p.aS:=by
  unfold iH;split
  .split<;>exact⟨rfl,rfl,rfl,rfl,rfl⟩
  exact⟨rfl,rfl,rfl,rfl,rfl⟩
 obtain⟨c,d,f,a,i⟩:=e;rw[g]at a;have j:=h.inv;exact⟨by rw[c];exact h.d1,by rw[c];exact h.d2,by rw[d];exact h.a1,by rw[d];exact h.a2,by rw[f];exact h.t1,by rw[f];exact h.t2,by rw[a];exact{j with},by rw[a];exact h.dQ,by rw[a];exact h.nP,by rw[i];exact h.fd,by rw[a];intro k;have l:=h.w (b k);exact{l with},by rw[a];exact h.sd,by rw[a];exact h.st⟩
theorem Od{o:bR}(h:0<ps.length):i_ ps o∈ps:=by
 have:=qc o h;unfold i_;simp[List.getD,this]
theorem Oe{K:Nat}(h:∀p∈ps,eM K p)(o:bR):∀p∈gF ps o,eM (K+o.s.length) p:=by
 have b:∀p∈ps,eM (K+o.s.length) p:=fun p a=>(h p a).mono (by omega)
 intro p a;unfold gF at a;split at a
 .rcases List.mem_append.1 a with a|a
  .exact b p a
  split at a
  .rename_i e;rw[List.mem_singleton.1 a];exact(eM.make o.on e).mono (by omega)
  cases a
 split at a
 .rename_i c;have f:0<ps.length:=by unfold kC at c;simp at c;exact c.2
  have d:=h _ (Od (o:=o) f);split at a
  .rcases List.mem_or_eq_of_mem_set a with a|a
   .exact b p a
   rw[a];exact d.feed o.s
  split at a
  .rcases List.mem_or_eq_of_mem_set a with a|a
   .exact b p a
   rw[a];exact d.close.mono (by omega)
  exact b p a
 exact b p a
theorem yg(a:List bR):∀i,i≤a.length→∀p∈iL a i,eM (fq (a.take i)) p
 |0,_=>fun p b=>by simp[iL]at b
 |i+1,h=>by
  rw[yd a i (by omega),yc a i (by omega)];exact Oe (yg a i (by omega)) _
end Go.Proofs.YtmgfijllcdadgaaGreatDoor.U
namespace Go.Proofs.YtmgfijllcdadgaaGreatDoor.V
open Mk (Bs Ev aD)
open Rf (R)
open Rf (f_ eG dZ jO aP eH)
variable {r x:R}{b:Bool}
structure Sx(r x:R)(b:Bool):Prop where
 bad:x.stop=2→x.at_<x.s.length
 ok:b=true→x.stop=0
 s:x.s=r.s
 ot:x.ot=r.ot
theorem Sx.trans{r x y:R}{b:Bool}(h:x.s=r.s∧x.ot=r.ot)(k:Sx x y b):Sx r y b:=⟨k.bad,k.ok,k.s.trans h.1,k.ot.trans h.2⟩
theorem Sx.back{y:R}(k:Sx x y b)(h:x.s=r.s∧x.ot=r.ot):Sx r y b:=⟨k.bad,k.ok,k.s.trans h.1,k.ot.trans h.2⟩
theorem ez{e:Int}(h:x.at_<x.s.length)(a:x.s=r.s)(b:x.ot=r.ot):Sx r (Rf.fail x e) false:=⟨fun _=>h,fun q=>(by cases q),a,b⟩
theorem Po(h:x.stop=1)(a:x.s=r.s)(b:x.ot=r.ot):Sx r x false:=⟨fun q=>(by rw[h]at q;cases q),fun q=>(by cases q),a,b⟩
theorem dW(h:x.stop=0)(a:x.s=r.s)(c:x.ot=r.ot):Sx r x b:=⟨fun q=>(by rw[h]at q;cases q),fun _=>h,a,c⟩
theorem Sx.no(h:Sx r x b):Sx r x false:=⟨h.bad,fun q=>(by cases q),h.s,h.ot⟩
theorem rP{i:Nat}(h:i<r.s.length):Sx r (Rf.beyond r i) false:=by
 unfold Rf.beyond;split<;>exact ez h rfl rfl
theorem nE(h:r.stop=0)(c:Int):Sx r (Rf.must r c).1 (Rf.must r c).2:=by
 unfold Rf.must;split
 .rename_i a;split
  .exact dW h rfl rfl
  exact ez a rfl rfl
 exact Po rfl rfl rfl
theorem yh(h:r.stop=0)(c:8≤r.ot)(d:r.at_≤r.s.length):Sx r (Rf.word r).1 (Rf.word r).2.2∧((Rf.word r).2.2=true→(Rf.word r).1.at_<r.s.length):=by
 have b:=mS Rf.eY (r.s.drop r.at_);rw[List.length_drop]at b;unfold Rf.word Rf.ends;dsimp only;split
 .rename_i a;exact⟨ez (by show r.at_+r.ot.toNat<r.s.length;omega) rfl rfl,fun q=>by cases q⟩
 split
 .rename_i a;exact⟨dW h rfl rfl,fun _=>a⟩
 exact⟨Po rfl rfl rfl,fun q=>by cases q⟩
theorem DR{r:R}(h:r.stop=0):∀(f k:Nat),1≤k→Sx r (f_ r f k).1 (f_ r f k).2.2
 |0,k,a=>Po rfl rfl rfl
 |f+1,k,a=>by
  unfold f_;split
  .rename_i b;dsimp only;split
   .exact ez (by show r.at_+k - 1<r.s.length;omega) rfl rfl
   split
   .exact dW h rfl rfl
   exact DR h f (k+1) (by omega)
  exact Po rfl rfl rfl
theorem rQ(h:r.stop=0):Sx r (Rf.character r).1 (Rf.character r).2.2:=by
 unfold Rf.character;dsimp only;split
 .split<;>exact dW h rfl rfl
 exact DR h _ 1 (Nat.le_refl _)
theorem yj:∀(f:Nat) {r:R} (t:Bs) (c:Int),r.stop=0→Sx r (eG f r t c).1 (eG f r t c).2
 |0,r,t,c,h=>dW h rfl rfl
 |f+1,r,t,c,h=>by
  unfold eG;split
  .rename_i b;split
   .split
    .show Sx r (Rf.beyond r r.at_) false;exact rP b
    dsimp only;have a:=rQ h;split
    .rename_i d;exact Sx.trans ⟨a.s,a.ot⟩ (yj f _ _ (a.ok d))
    exact a.no
   split
   .exact Po rfl rfl rfl
   rename_i g;split
   .rename_i e;split
    .refine ez ?_ rfl rfl;have i:r.byte (r.at_+1)=45:=by simpa using e
     show r.at_+2<r.s.length;omega
    exact dW h rfl rfl
   split
   .show Sx r (Rf.beyond r (r.at_+1)) false;exact rP (by omega)
   exact Sx.trans (x:={r with at_:=r.at_+1}) ⟨rfl,rfl⟩ (yj f _ _ h)
  exact Po rfl rfl rfl
theorem DT(h:r.stop=0):Sx r (Rf.comment r).1 (Rf.comment r).2:=by
 unfold Rf.comment;dsimp only;have a:=nE h 45;split
 .rename_i b;exact Sx.trans ⟨a.s,a.ot⟩ (yj _ _ _ (a.ok b))
 exact a.no
theorem DU(n:Bs):∀(f:Nat) {r:R} (t:Bs) (c:Int),r.stop=0→Sx r (dZ n f r t c).1 (dZ n f r t c).2
 |0,r,t,c,h=>dW h rfl rfl
 |f+1,r,t,c,h=>by
  unfold dZ;split
  .rename_i e;split
   .exact Po rfl rfl rfl
   rename_i b;split
   .exact dW h rfl rfl
   split
   .rename_i d;show Sx r (Rf.beyond r (r.at_+1)) false;refine rP ?_;simp at b d;have:=b d.1;omega
   split
   .show Sx r (Rf.beyond r r.at_) false;exact rP e
   dsimp only;have a:=rQ h;split
   .rename_i g;exact Sx.trans ⟨a.s,a.ot⟩ (DU n f _ _ (a.ok g))
   exact a.no
  exact Po rfl rfl rfl
theorem DV(h:r.stop=0)(i:8≤r.ot):Sx r (jO r).1 (jO r).2:=by
 unfold jO;split
 .rename_i f;split
  .exact ez f rfl rfl
  dsimp only;obtain⟨a,d⟩:=yh h i (Nat.le_of_lt f);split
  .exact a.no
  rename_i c;have c:(Rf.word r).2.2=true:=by simpa using c
  have j:=d c;have g:=a.ok c;have e:(Rf.word r).1.at_<(Rf.word r).1.s.length:=by rw[a.s];exact j
  split
  .exact ez e a.s a.ot
  split
  .exact ez e a.s a.ot
  split
  .exact ez e a.s a.ot
  split
  .have k:=nE (r:={(Rf.word r).1 with at_:=(Rf.word r).1.at_+1}) g 62;have b:Sx r _ _:=k.back ⟨a.s,a.ot⟩;split
   .rename_i l;exact dW (b.ok l) b.s b.ot
   exact b
  exact Sx.trans (x:=aP (Rf.word r).1) ⟨a.s,a.ot⟩ (DU _ _ _ _ g)
 exact Po rfl rfl rfl
theorem yp(a:Bool):∀(f:Nat) {r:R},r.stop=0→8≤r.ot→Sx r (eH a f r).1 (eH a f r).2∧((eH a f r).2=true→(eH a f r).1.at_+1<(eH a f r).1.s.length)
 |0,r,h,d=>⟨dW h rfl rfl,fun q=>by cases q⟩
 |f+1,r,h,d=>by
  unfold eH;dsimp only;split
  .rename_i g;split
   .exact⟨ez g rfl rfl,fun q=>by cases q⟩
   split
   .exact⟨Po rfl rfl rfl,fun q=>by cases q⟩
   rename_i j;split
   .refine⟨dW h rfl rfl,fun _=>?_⟩;have m:(aP r).at_<(aP r).s.length:=g;have n:¬(aP r).at_+1=(aP r).s.length:=j;show(aP r).at_+1<(aP r).s.length;omega
   have e:∀X:R×Bool,Sx r X.1 X.2→Sx r (if X.2=true then eH a f X.1 else(X.1,false)).1 (if X.2=true then eH a f X.1 else(X.1,false)).2∧((if X.2=true then eH a f X.1 else(X.1,false)).2=true→(if X.2=true then eH a f X.1 else(X.1,false)).1.at_+1<(if X.2=true then eH a f X.1 else(X.1,false)).1.s.length):=fun X c=>by
    split
    .rename_i k;have i:=yp a f (c.ok k) (by rw[c.ot];exact d);exact⟨i.1.back ⟨c.s,c.ot⟩,i.2⟩
    exact⟨c.no,fun q=>by cases q⟩
   refine e _ ?_;split
   .exact Sx.back (DV h d) ⟨rfl,rfl⟩
   have b:=nE (r:={aP r with whole:=a&&decide ((aP r).at_=(aP r).s.length),at_:=(aP r).at_+2}) h 45;split
   .rename_i l;exact(DT (b.ok l)).back ⟨b.s,b.ot⟩
   exact⟨b.bad,fun q=>(by cases q),b.s,b.ot⟩
  exact⟨Po rfl rfl rfl,fun q=>by cases q⟩
end Go.Proofs.YtmgfijllcdadgaaGreatDoor.V
