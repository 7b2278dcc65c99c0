import Derived.Test.YtmgfijllcdadgaaGreatDoorNW30
import Derived.Test.YtmgfijllcdadgaaGreatDoorNW31
import Derived.Laws.IdiomStrings
set_option linter.unusedVariables false
set_option linter.unusedSimpArgs false
set_option maxHeartbeats 4000000
set_option maxRecDepth 100000
namespace Go.Proofs.YtmgfijllcdadgaaGreatDoor.V
open Go.RowKit
open Mk (Bs Ev aD)
open Rf (R)
open Go.Proofs.Tryz
open Rf (aS sU)
theorem KY{w w1:World}{a b:Obj}(c:Below ((w.alloc a).alloc b).heap.size ((w.alloc a).alloc b) w1):w1.heap[w.heap.size]?=some a∧w1.heap[w.heap.size+1]?=some b∧Below w.heap.size w w1:=by
 have d:((w.alloc a).alloc b).heap.size=w.heap.size+1+1:=by simp
 rw[d]at c;refine⟨?_,?_,(((Below.refl _ _).alloc (Nat.le_refl _) _).alloc (by simp) _).trans (c.mono (by omega))⟩
 .rw[c.block _ (by omega),Below.heap_alloc _ _ _ (by simp)];exact heap_alloc_new w a
 rw[c.block _ (by omega)];have:=heap_alloc_new (w.alloc a) b;rw[show(w.alloc a).heap.size=w.heap.size+1 by simp]at this;exact this
theorem uf(b d:Nat)(w:World)(a:Option Addr)(c:Nat):bN b d w (.slice a 0 c) []:=⟨⟨a,c,rfl,fun k e=>(by cases e)⟩,by decide⟩
theorem KZ{b c:Nat}{w2:World}{a:Value}{l:List Ev}{n:Nat}(h:bN b c w2 a (l.drop n))(m:l.length≤400000000)(g:∀e∈l,e.val.length≤200000000)(W:World)(i:Below w2.heap.size w2 W):
 Calls Tryz.prog 89 #[a] W fun e w' =>∃d f,e=.returned d∧f.map (·.1)=Rf.joined (l.drop n)∧Jn b c W w' d f:=by
 have j:(l.drop n).length≤400000000:=by rw[List.length_drop];omega
 have o:=xG (l.drop n) 200000000 fun e k=>g e (List.mem_of_mem_drop k)
 have p:(l.drop n).length*200000000≤400000000*200000000:=Nat.mul_le_mul_right _ j;exact BU (h.below i) (by omega) (by omega)
theorem Cn{a b:Nat}{w:World}{l:List Ev}{g c n m:Nat}(h:bN a b w (.slice (some ⟨g,0,none⟩) m c) l)(e:m=l.length)(f:n≤m):bN a b w (.slice (some ⟨g,n*5,none⟩) (m - n) (c - n)) (l.drop n):=by
 subst e;have d:=h.drop n f;rw[Nat.zero_add,List.length_drop]at d;exact d
def oq(lo:Nat)(w2:World)(evs:List Ev)(arg:Value):Prop:=∀W,Below w2.heap.size w2 W→Calls Tryz.prog 89 #[arg] W fun e w' =>∃v' es,e=.returned v' ∧es.map (·.1)=evs∧Jn lo w2.heap.size W w' v' es
theorem cZ(w:World)(o:Obj):Below w.heap.size w (w.alloc o):=(Below.refl _ _).alloc (Nat.le_refl _) o
section
variable {od oa ot:Int}{on:Bool}{s more:Bs}
theorem xI(d1:1≤od)(d2:od≤64)(a1:0≤oa)(a2:oa≤32)(t1:8≤ot)(t2:ot≤1024)(hs:s.length+more.length≤100000000)(w:World)(hG:bG w):
 Calls Tryz.prog 72 #[.agg #[.int .i64 od,.int .i64 oa,.int .i64 ot,.bool on],.string ⟨s.toArray⟩,.string ⟨more.toArray⟩] w fun e w' =>∃v,e=.returned v∧pP w w' v (aS od oa ot on s more)∧Below w.heap.size w w' :=by
 have a8:=aB (fun(W:World) (R:Below w.heap.size w W)=>lu (on:=on) d1 d2 a1 a2 t1 t2 (show s.length≤100000000 by omega) W (hG.below R));have a9:=aB (fun(W:World) (R:Below w.heap.size w W)=>lu (on:=on) d1 d2 a1 a2 t1 t2 (show(s++more).length≤100000000 by rw[List.length_append];omega) W (hG.below R));have S:=xH (od:=od) (oa:=oa) (on:=on) (s:=s) t1 (by omega);have z:=xH (od:=od) (oa:=oa) (on:=on) (s:=s++more) t1 (by rw[List.length_append];omega);obtain⟨j,m⟩:∃j,j=aS od oa ot on s more:=⟨_,rfl⟩;rw[←m];unfold aS at m;simp only at m;generalize Rf.read od oa ot on s=A at *;generalize Rf.read od oa ot on (s++more)=B at *;have aa:=aB m;clear m;have be:¬9223372036854775807<s.length+more.length:=by omega
 have bi:=fun(W:World) (R:Below w.heap.size w W) (o:Obj)=>R.alloc R.size o
 go_enter func72,ntmps72
 go_wp2_with fail
 refine(aA a8 _ (jD _ _ _)).mono ?_;rintro e w1 ⟨v1,rfl,aw,ab⟩;obtain⟨bj,bk,c,rfl,k1,H,Z,K⟩:=aw;obtain⟨ad,ae,rfl⟩:=b_ H;obtain⟨af,ag,rfl⟩:=b_ K;obtain⟨a0,ah,ai⟩:=KY ab;obtain⟨ax,ay,az⟩:=aM a0;have L:=aB ah;have b0:=aB a0;have M:=aB ai;have aj:=aB (show c.length=A.events.length by rw[←k1];simp);clear a0 ah ai ab k1 H Z K a8;go_wp2_with fail
 rw[eu];refine(aA a9 _ ((aA M).alloc (aA M).size _)).mono ?_;rintro e w2 ⟨v2,rfl,a4,C⟩;unfold pP at a4;rw[mg]at a4;obtain⟨bl,bm,b,rfl,k1,H,Z,K⟩:=a4;obtain⟨T,f,rfl⟩:=b_ H;obtain⟨N,l,rfl⟩:=b_ K;have ak:=(aA M).size;have al:(w1.alloc (.cells #[.slice ad c.length ae,.int .i64 A.err,.bool A.whole,.int .i64 (A.at_:Int),.slice af A.opn.length ag,.int .i64 A.line,.int .i64 A.column] 97)).heap.size=w1.heap.size+1:=by simp
 rw[al]at C;have am:w2.heap[w1.heap.size]?=_:=(C.block _ (by omega)).trans (heap_alloc_new w1 _);have a5:w2.heap[w.heap.size+1]?=_:=(C.block _ (by have:=(aM (aA L)).2.2;omega)).trans ((Below.heap_alloc _ _ _ (aM (aA L)).2.2).trans (aA L));have an:=aB (((aA M).alloc ak _).trans (C.mono (by omega)));obtain⟨b1,bn,b2⟩:=aM am;obtain⟨bo,bp,b3⟩:=aM a5;have b4:=aB a5;have bf:∀o i,(w2.alloc o).cell? ⟨w1.heap.size,i,none⟩=(#[.slice ad c.length ae,.int .i64 A.err,.bool A.whole,.int .i64 (A.at_:Int),.slice af A.opn.length ag,.int .i64 A.line,.int .i64 A.column]:Array Value)[i]?:=fun o i=>by
  rw[←b1 i];simp only[World.cell?];rw[Below.heap_alloc _ _ _ b2]
 have ao:b.length=B.events.length:=by rw[←k1];simp
 have HE:=aB (bN.of H Z);rw[k1]at HE;have ap:=aB K;have D:(T=none∧b.length=0∧f=0)∨∃g,T=some ⟨g,0,none⟩∧b.length≤f:=by
  rcases H.2 with⟨E,h2⟩|⟨g,cap,bq,E,h2,h3,h4,_⟩
  .injection E with E _ h5;exact .inl ⟨E,h2,h5⟩
  injection E with E _ h5;exact .inr ⟨g,E,by omega⟩
 clear am a5 C k1 H Z K a9 ax ay az b0 al;have br:w.heap.size+1<w1.heap.size:=(aM (aA L)).2.2;generalize w1.heap.size=Y at *;have b5:=aA aj;have b6:=S.1;have b7:=z.1;have b8:=aB z.2;have bg:c.length≤400000000:=by omega
 have aq:b.length≤400000000:=by omega
 have F:=aB ao;clear S z b5 ao b6 b7;have y:∀(n:Nat) (a6:Value),n=min c.length b.length→bN (Y+1) w2.heap.size w2 a6 (B.events.drop n)→oq (Y+1) w2 j.events a6:=fun n a6 hn h W R=>by
  rw[aA aa];subst hn;rw[aA aj,aA F]at h;exact KZ h (by rw[←aA F];exact aq) (aA b8) W R
 have hE:=aA HE;have O:∀n,b.length≤n→B.events.drop n=[]:=fun n hn=>List.drop_of_length_le (by rw[←aA F];exact hn)
 have X:(T=none∧f=0∧b=[]∧c=[]∧Hid (oq (Y+1) w2 j.events (.slice none 0 0)))∨
  (T=none∧f=0∧b=[]∧decide ((([]:List (Ev×Value)).length:Int)<(c.length:Int))=true∧decide (0<c.length)=true∧0<c.length∧Hid (oq (Y+1) w2 j.events (.slice none 0 0)))∨
  (∃g,T=some ⟨g,0,none⟩∧decide ((b.length:Int)<(c.length:Int))=true∧decide (b.length<c.length)=true∧b.length<c.length∧f=b.length∧Hid (oq (Y+1) w2 j.events (.slice (some ⟨g,0,none⟩) 0 0)))∨
  (∃g,T=some ⟨g,0,none⟩∧decide ((b.length:Int)<(c.length:Int))=true∧decide (b.length<c.length)=true∧b.length<c.length∧(b.length:Int)≤(f:Int)∧¬f=b.length∧Hid (oq (Y+1) w2 j.events (.slice (some ⟨g,b.length*5,none⟩) 0 (f - b.length))))∨
  (∃g,T=some ⟨g,0,none⟩∧decide ((b.length:Int)<(c.length:Int))=false∧(c.length:Int)≤(b.length:Int)∧(b.length:Int)≤(c.length:Int)∧f=c.length∧Hid (oq (Y+1) w2 j.events (.slice (some ⟨g,0,none⟩) (b.length - c.length) 0)))∨
  (∃g,T=some ⟨g,0,none⟩∧decide ((b.length:Int)<(c.length:Int))=false∧(c.length:Int)≤(b.length:Int)∧(b.length:Int)≤(f:Int)∧¬f=c.length∧Hid (oq (Y+1) w2 j.events (.slice (some ⟨g,c.length*5,none⟩) (b.length - c.length) (f - c.length)))):=by
  rcases D with⟨rfl,hz,rfl⟩|⟨g,rfl,bh⟩
  .have h2:=List.length_eq_zero_iff.1 hz;have hJ:=y 0 (.slice none 0 0) (by omega) (by rw[O 0 (by omega)];exact uf _ _ _ _ _);by_cases E:c=[]
   .exact .inl ⟨rfl,rfl,h2,E,hJ⟩
   have:=List.length_pos_iff.2 E;exact .inr (.inl ⟨rfl,rfl,h2,by simp;exact this,by simpa using this,this,hJ⟩)
  by_cases P:b.length<c.length
  .have I:decide ((b.length:Int)<(c.length:Int))=true:=by simp;omega
   by_cases x:f=b.length
   .exact .inr (.inr (.inl ⟨g,rfl,I,by simpa using P,P,x,y b.length _ (by omega) (by rw[O _ (Nat.le_refl _)];exact uf _ _ _ _ _)⟩))
   exact .inr (.inr (.inr (.inl ⟨g,rfl,I,by simpa using P,P,by omega,x,y b.length _ (by omega) (by have h5:=Cn hE (aA F) (Nat.le_refl b.length);rw[Nat.sub_self]at h5;exact h5)⟩)))
  have I:decide ((b.length:Int)<(c.length:Int))=false:=by simp;omega
  by_cases x:f=c.length
  .exact .inr (.inr (.inr (.inr (.inl ⟨g,rfl,I,by omega,by omega,x,y c.length _ (by omega) (by rw[O _ (by omega),show b.length - c.length=0 by omega];exact uf _ _ _ _ _)⟩))))
  exact .inr (.inr (.inr (.inr (.inr ⟨g,rfl,I,by omega,by omega,x,y c.length _ (by omega) (Cn hE (aA F) (by omega))⟩))))
 clear hE y O D HE;rcases X with⟨rfl,rfl,rfl,rfl,HJ⟩|⟨rfl,rfl,rfl,I,e3,e4,HJ⟩|⟨g,rfl,I,e3,e4,rfl,HJ⟩|⟨g,rfl,I,e3,e4,n2,x,HJ⟩|⟨g,rfl,I,n1,n3,rfl,HJ⟩|⟨g,rfl,I,n1,n2,x,HJ⟩;all_goals
  go_wp2_with(go_at_call 89;refine(aA HJ _ (cZ _ _)).mono ?_;rintro e w3 ⟨v3,d,rfl,j1,J⟩;obtain⟨q,t,rfl⟩:=b_ J.row;have b9:=aB j1;have ba:=aB J;obtain⟨bs,bt,bu⟩:=aM ((J.aU.block w2.heap.size (by simp)).trans (heap_alloc_new w2 _));have ar:=aB ((J.aU.block (w.heap.size+1) (by simp;omega)).trans ((Below.heap_alloc _ _ _ b3).trans (aA b4)));obtain⟨bw,bx,bz⟩:=aM (aA ar);clear j1 J)
  have hF:=aA aa;have hev:=aA b9;rw[hF]at hev;have J:=aA ba;have bb:=mg w2;have hrow:=J.row;have G:=J.aU;rw[bb]at hrow G;have au:=(aA an).size;have a7:=BO (u:=w2.heap.size) (ps:=[(0,.slice q d.length t)]) (vs:=[.slice q d.length t,.int .i64 B.err,.bool B.whole,.int .i64 (B.at_:Int),.slice N B.opn.length l,.int .i64 B.line,.int .i64 B.column]) (by omega) (aA ar);rw[w_]at a7;have H:=nS (fP (w' :=ku w3 w2.heap.size (w.heap.size+1) [(0,.slice q d.length t)] [.slice q d.length t,.int .i64 B.err,.bool B.whole,.int .i64 (B.at_:Int),.slice N B.opn.length l,.int .i64 B.line,.int .i64 B.column]) (r:=⟨65,5,.slice q d.length t,d.length,bA d⟩) hrow fun k hk=>pV _ _ (by have:=(World.ownsRow.lt hrow k hk).1;omega) (by have:=(World.ownsRow.lt hrow k hk).1;omega)) (base' :=w.heap.size) (by omega)
  have K:=nS (fP (w' :=ku w3 w2.heap.size (w.heap.size+1) [(0,.slice q d.length t)] [.slice q d.length t,.int .i64 B.err,.bool B.whole,.int .i64 (B.at_:Int),.slice N B.opn.length l,.int .i64 B.line,.int .i64 B.column]) (r:=⟨9,1,.slice N B.opn.length l,B.opn.length,B.opn.map sv⟩) (aA ap) fun k hk=>by
   have h8:=World.ownsRow.lt (aA ap) k hk
   rw[pV _ _ (by omega) (by omega),G.block k (by omega),Below.heap_alloc _ _ _ h8.2]) (base' :=w.heap.size) (by omega)
  have av:=((aA an).trans (((cZ w2 _).trans (G.mono (by omega))).mono au)).trans (xh (B:=w.heap.size) w3 (u:=w2.heap.size) (g:=w.heap.size+1) [(0,.slice q d.length t)] [.slice q d.length t,.int .i64 B.err,.bool B.whole,.int .i64 (B.at_:Int),.slice N B.opn.length l,.int .i64 B.line,.int .i64 B.column] (by omega) (by omega));have Z:∀p∈d,cJ w.heap.size (ku w3 w2.heap.size (w.heap.size+1) [(0,.slice q d.length t)] [.slice q d.length t,.int .i64 B.err,.bool B.whole,.int .i64 (B.at_:Int),.slice N B.opn.length l,.int .i64 B.line,.int .i64 B.column]).heap.size (ku w3 w2.heap.size (w.heap.size+1) [(0,.slice q d.length t)] [.slice q d.length t,.int .i64 B.err,.bool B.whole,.int .i64 (B.at_:Int),.slice N B.opn.length l,.int .i64 B.line,.int .i64 B.column]) p.2 p.1.aC:=fun p hp=>
   ((((J.jT p hp).below J.aU).keep (fun g E h2 h3=>pV _ _ (by omega) (by omega)) (xh (B:=0) w3 _ _ (Nat.zero_le _) (Nat.zero_le _)).size).low (by omega)).high
  obtain⟨W,hW⟩:∃W,W=ku w3 w2.heap.size (w.heap.size+1) [(0,.slice q d.length t)] [.slice q d.length t,.int .i64 B.err,.bool B.whole,.int .i64 (B.at_:Int),.slice N B.opn.length l,.int .i64 B.line,.int .i64 B.column]:=⟨_,rfl⟩;have bc:∀(Q:Exit→Act→World→Prop) (a:Act),Q .ret a W→Q .ret a (ku w3 w2.heap.size (w.heap.size+1) [(0,.slice q d.length t)] [.slice q d.length t,.int .i64 B.err,.bool B.whole,.int .i64 (B.at_:Int),.slice N B.opn.length l,.int .i64 B.line,.int .i64 B.column]):=fun Q a h=>by rw[←hW];exact h
  rw[←hW]at a7 H Z K av;refine bc _ _ ?_;refine bodyPost_ret (results_cell_row rfl _ _ (w.heap.size+1) 97 _ (0,0) _ rfl a7 underlying97 rfl xj) rfl ?_;rw[hF];exact⟨_,rfl,⟨_,_,d,rfl,hev,H,Z,K⟩,av⟩
end
section
variable {od oa ot:Int}{on:Bool}{s rest:Bs}
def gL:List Bs→Int
 |[]=>0
 |x::l=>(x.length:Int)+3+gL l
theorem Co:∀l:List Bs,Rf.most l=16+gL l
 |[]=>rfl
 |x::l=>by unfold Rf.most gL;rw[Co l];omega
theorem Cq:∀l m:List Bs,gL (l++m)=gL l+gL m
 |[],m=>by simp[gL]
 |x::l,m=>by simp only[List.cons_append,gL,Cq l m];omega
theorem Cr:∀(l:List Bs),(∀n∈l,n.length≤100000000)→0≤gL l∧gL l≤100000003* (l.length:Int)
 |[],_=>by simp[gL]
 |x::l,h=>by
  have b:=Cr l fun n a=>h n (List.mem_cons_of_mem _ a)
  have c:=h x List.mem_cons_self;unfold gL;rw[List.length_cons];omega
theorem RE(l:List Bs)(k:Nat)(a:k<l.length):gL (l.take (k+1))=gL (l.take k)+((l[k].length:Int)+3):=by
 rw[List.take_add_one,List.getElem?_eq_getElem a,Cq];simp[gL]
theorem xJ(od oa ot:Int)(on:Bool)(w:World):Calls Tryz.prog 44 #[.agg #[.int .i64 od,.int .i64 oa,.int .i64 ot,.bool on]] w fun e w' =>e=.returned (.bool (Rf.allowed od oa ot))∧Below w.heap.size w w' :=by
 obtain⟨b,a⟩:∃b,b=Rf.allowed od oa ot:=⟨_,rfl⟩;rw[←a];unfold Rf.allowed at a;cases f:decide (od<1)with
 |true=>
  have c:=aB (show b=false by rw[a,f];rfl);clear a;go_enter func44,ntmps44
  go_wp2_with fail
  go_ret;exact⟨by have d:=aA c;subst d;rfl,cZ _ _⟩
 |false=>
  cases g:decide (64<od)with
  |true=>
   have c:=aB (show b=false by rw[a,f,g];rfl);clear a;go_enter func44,ntmps44
   go_wp2_with fail
   go_ret;exact⟨by have d:=aA c;subst d;rfl,cZ _ _⟩
  |false=>
   cases h:decide (oa<0)with
   |true=>
    have c:=aB (show b=false by rw[a,f,g,h];rfl);clear a;go_enter func44,ntmps44
    go_wp2_with fail
    go_ret;exact⟨by have d:=aA c;subst d;rfl,cZ _ _⟩
   |false=>
    cases i:decide (32<oa)with
    |true=>
     have c:=aB (show b=false by rw[a,f,g,h,i];rfl);clear a;go_enter func44,ntmps44
     go_wp2_with fail
     go_ret;exact⟨by have d:=aA c;subst d;rfl,cZ _ _⟩
    |false=>
     cases j:decide (8≤ot)with
     |false=>
      have c:=aB (show b=false by rw[a,f,g,h,i,j];rfl);clear a;go_enter func44,ntmps44
      go_wp2_with fail
      go_ret;exact⟨by have d:=aA c;subst d;rfl,cZ _ _⟩
     |true=>
      have c:=aB (show b=decide (ot≤1024) by rw[a,f,g,h,i,j];rfl);clear a;go_enter func44,ntmps44
      go_wp2_with fail
      go_ret;exact⟨by have d:=aA c;subst d;rfl,cZ _ _⟩
theorem RF(d1:1≤od)(d2:od≤64)(a1:0≤oa)(a2:oa≤32)(t1:8≤ot)(t2:ot≤1024)(hs:s.length+rest.length≤100000000)(w:World)(hG:bG w):
 Calls Tryz.prog 75 #[.agg #[.int .i64 od,.int .i64 oa,.int .i64 ot,.bool on],.string ⟨s.toArray⟩,.string ⟨rest.toArray⟩] w fun e w' =>e=.returned (.bool (sU od oa ot on s rest))∧Below w.heap.size w w' :=by
 have F:=aB (fun(W:World) (hb:Below w.heap.size w W)=>lu (on:=on) d1 d2 a1 a2 t1 t2 (show s.length≤100000000 by omega) W (hG.below hb));have r:=aB (fun(W:World) (hb:Below w.heap.size w W)=>lu (on:=false) d1 d2 a1 a2 t1 t2 (show(s++rest).length≤100000000 by rw[List.length_append];omega) W (hG.below hb));have t:=KX (od:=od) (oa:=oa) (on:=on) (s:=s) t1 (by omega);obtain⟨G,b⟩:∃G,G=sU od oa ot on s rest:=⟨_,rfl⟩;rw[←b];unfold sU at b;generalize Rf.read od oa ot on s=A at *;generalize Rf.read od oa ot false (s++rest)=B at *;have H:=aB b;have a8:¬9223372036854775807<s.length+rest.length:=by omega
 clear b;go_enter func75,ntmps75
 go_wp2_with fail
 refine(aA F _ (cZ _ _)).mono ?_;rintro e w1 ⟨v1,rfl,a0,m⟩;obtain⟨aa,a3,d,rfl,k1,I,k3,E⟩:=a0;obtain⟨f,h,rfl⟩:=b_ I;have l:w1.ownsRow (w.alloc (.cells #[.int .i64 od,.int .i64 oa,.int .i64 ot,.bool on] 40)).heap.size 9 1 a3 A.opn.length (A.opn.flatMap fun n=>[sv n]):=by
  have e:(A.opn.flatMap fun n=>[sv n])=A.opn.map sv:=by rw[List.map_eq_flatMap]
  rw[e];exact E
 have HN:=aB (fun k J=>kN (fun n:Bs=>[sv n]) (fun _=>rfl) (by decide) l rfl k J);obtain⟨a,j,rfl⟩:=b_ E;rw[mg]at m;have u:w1.heap[w.heap.size]?=_:=(m.block _ (by omega)).trans (heap_alloc_new w _);have v:Below w.heap.size w w1:=(cZ w _).trans (m.mono (by omega));obtain⟨K,a4,x⟩:=aM u;have L:=aB v;have M:=v.size;have N:=aB u;clear u v m k1 I k3 E F l;have O:∀o i,(w1.alloc o).cell? ⟨w.heap.size,i,none⟩=(#[.int .i64 od,.int .i64 oa,.int .i64 ot,.bool on]:Array Value)[i]?:=fun o i=>by
  rw[←K i];simp only[World.cell?];rw[Below.heap_alloc _ _ _ x]
 have P:(w1.alloc (.cells #[.slice f d.length h,.int .i64 A.err,.bool A.whole,.int .i64 (A.at_:Int),.slice a A.opn.length j,.int .i64 A.line,.int .i64 A.column] 97)).heap[w1.heap.size]?=_:=heap_alloc_new w1 _;have Q:(w1.alloc (.cells #[.slice f d.length h,.int .i64 A.err,.bool A.whole,.int .i64 (A.at_:Int),.slice a A.opn.length j,.int .i64 A.line,.int .i64 A.column] 97)).heap[w.heap.size]?=_:=(Below.heap_alloc _ _ _ x).trans (aA N);have R:Below w.heap.size w (w1.alloc (.cells #[.slice f d.length h,.int .i64 A.err,.bool A.whole,.int .i64 (A.at_:Int),.slice a A.opn.length j,.int .i64 A.line,.int .i64 A.column] 97)):=(aA L).alloc M _;have S:∀k (J:k<A.opn.length),∃g,a=some ⟨g,0,none⟩∧g<(w1.alloc (.cells #[.slice f d.length h,.int .i64 A.err,.bool A.whole,.int .i64 (A.at_:Int),.slice a A.opn.length j,.int .i64 A.line,.int .i64 A.column] 97)).heap.size∧(w1.alloc (.cells #[.slice f d.length h,.int .i64 A.err,.bool A.whole,.int .i64 (A.at_:Int),.slice a A.opn.length j,.int .i64 A.line,.int .i64 A.column] 97)).cell? ⟨g,k,none⟩=some (.string ⟨A.opn[k].toArray⟩):=fun k J=>by
  obtain⟨g,c,h1,h2,h3⟩:=aA HN k J;injection h1 with h1 _ _;refine⟨g,h1,by rw[mg];omega,?_⟩;rw[fU (Below.heap_alloc _ _ _ h2)];have h4:=h3 0 (by decide);simpa[sv]using h4
 go_wp2_with fail
 generalize(w1.alloc (.cells #[.slice f d.length h,.int .i64 A.err,.bool A.whole,.int .i64 (A.at_:Int),.slice a A.opn.length j,.int .i64 A.line,.int .i64 A.column] 97))=w2 at *;obtain⟨ab,ad,ae⟩:=aM P;obtain⟨af,ag,ah⟩:=aM Q;have q:=aB R;have T:=aB S;have ai:=t.1;have y:=aB t.2;have aj:s.length≤100000000:=by omega
 have ak:rest.length≤100000000:=by omega
 clear P Q R S HN O K a4 x N L t;generalize w1.heap.size=ua at *;go_loopg [8,9] A.opn.length (fun g s8 s9 wx=>∃k:Nat,k≤A.opn.length∧g=A.opn.length - k∧s9=.int .i64 k∧s8=.int .i64 (16+gL (A.opn.take k))∧wx=w2)
 case atStart=>exact⟨0,Nat.zero_le _,rfl,rfl,rfl,rfl⟩
 case round=>
  obtain⟨k,J,rfl,rfl,rfl,rfl⟩:=hrel;have a5:=Cr (A.opn.take k) fun n hn=>aA y n (List.mem_of_mem_take hn)
  have a6:((A.opn.take k).length:Int)≤100000000:=by rw[List.length_take];omega
  by_cases z:k<A.opn.length
  .have e1:decide ((k:Int)<(A.opn.length:Int))=true:=by simp;omega
   have al:(k:Int)<(A.opn.length:Int):=by omega
   obtain⟨g,hg,am,an⟩:=aA T k z;have ao:=aA y A.opn[k] (List.getElem_mem z);have X:=RE A.opn k z;have HST:=aB X;subst hg;clear X;generalize A.opn[k]=nm at *;generalize gL (A.opn.take k)=sm at *;generalize(A.opn.take k).length=tl at *;go_wp2_with fail
   go_roundg (A.opn.length - (k+1))
   case measure=>omega
   case rel=>exact⟨k+1,by omega,rfl,by simp,by rw[aA HST];first|rfl|(congr 1;omega),rfl⟩
  have e1:decide ((k:Int)<(A.opn.length:Int))=false:=by simp;omega
  have C:A.opn.take k=A.opn:=List.take_of_length_le (by omega);rw[C]at a5;have hfin:=aA H;rw[Co]at hfin;rw[C];have a9:16+gL A.opn≤100000000000000000:=by omega
  clear C a6 y T H hs;generalize gL A.opn=sm at *;by_cases hm:16+sm<(rest.length:Int)
  .rw[if_pos hm]at hfin;have e2:decide (16+sm<(rest.length:Int))=true:=by simpa using hm
   clear r;subst hfin;go_wp2_with fail
   go_ret;exact⟨rfl,aA q⟩
  rw[if_neg hm]at hfin;have e2:decide (16+sm<(rest.length:Int))=false:=by simpa using hm
  have HF:=aB hfin;clear hfin;go_wp2_with fail
  rw[eu];refine(aA r _ ((aA q).setCell (Nat.le_refl _) _)).mono ?_;rintro e w3 ⟨v2,rfl,a7,D⟩;obtain⟨ap,aq,ar,rfl,k1,I,k3,E⟩:=a7;obtain⟨eb,au,rfl⟩:=b_ I;obtain⟨ob,av,rfl⟩:=b_ E;rw[size_set]at D;have Y:=((aA q).setCell (p:=⟨w.heap.size,3,none⟩) (Nat.le_refl _) (.bool false)).trans (D.mono (aA q).size);have Z:=aB Y;clear r D k1 I k3 E Y;go_wp2_with fail
  go_ret;have hF:=aA HF;subst hF;exact⟨rfl,(aA Z).alloc (aA Z).size _⟩
end
end Go.Proofs.YtmgfijllcdadgaaGreatDoor.V
namespace Go.Proofs.YtmgfijllcdadgaaGreatDoor.U
open Go.RowKit
open Mk (Bs Ev aD)
open V
open Go.Proofs.Tryz
variable {S:Nat→Prop}{w w' :World}{i k n:Nat}{a:Option Addr}{b d:List Value}
theorem RG{od oa ot:Int}(h:Rf.allowed od oa ot=false):od<1∨64<od∨oa<0∨32<oa∨ot<8∨1024<ot:=by
 unfold Rf.allowed at h;split at h
 .rename_i a;simp at a;omega
 simp at h;omega
theorem RH(od oa ot:Int)(on:Bool)(h:Rf.allowed od oa ot=false)(w:World):
 Calls Tryz.prog 53 #[.agg #[.int .i64 od,.int .i64 oa,.int .i64 ot,.bool on]] w fun e w' =>e=.returned (.bool false)∧w' =w.alloc (.cells #[.int .i64 od,.int .i64 oa,.int .i64 ot,.bool on] 40):=by
 have a:=RG h;clear h;by_cases i:od<1
 .have b:decide (1≤od)=false:=by simp;omega
  clear a;go_enter func53,ntmps53
  go_wp2
  go_ret;exact⟨rfl,rfl⟩
 have b:decide (1≤od)=true:=by simp;omega
 by_cases g2:64<od
 .have c:decide (od≤64)=false:=by simp;omega
  clear a;go_enter func53,ntmps53
  go_wp2
  go_ret;exact⟨rfl,rfl⟩
 have c:decide (od≤64)=true:=by simp;omega
 by_cases j:oa<0
 .have d:decide (0≤oa)=false:=by simp;omega
  clear a;go_enter func53,ntmps53
  go_wp2
  go_ret;exact⟨rfl,rfl⟩
 have d:decide (0≤oa)=true:=by simp;omega
 by_cases k:32<oa
 .have f:decide (oa≤32)=false:=by simp;omega
  clear a;go_enter func53,ntmps53
  go_wp2
  go_ret;exact⟨rfl,rfl⟩
 have f:decide (oa≤32)=true:=by simp;omega
 by_cases l:ot<8
 .have g:decide (8≤ot)=false:=by simp;omega
  clear a;go_enter func53,ntmps53
  go_wp2
  go_ret;exact⟨rfl,rfl⟩
 have g:decide (8≤ot)=true:=by simp;omega
 have m:decide (ot≤1024)=false:=by simp;omega
 clear a;go_enter func53,ntmps53
 go_wp2
 go_ret;exact⟨rfl,rfl⟩
theorem xK(od oa ot:Int)(on:Bool)(h:Rf.allowed od oa ot=false)(w:World):
 Calls Tryz.prog 35 #[.agg #[.int .i64 od,.int .i64 oa,.int .i64 ot,.bool on]] w fun e w' =>e=.returned (.tuple #[.pointer none,.int .i64 1])∧Below w.heap.size w w' :=by
 have HA:=aB (fun w=>RH od oa ot on h w);clear h;go_enter func35,ntmps35
 go_wp2_with(go_at_call 53;refine(aA HA _).mono ?_;rintro e w' ⟨rfl,rfl⟩)
 go_ret2;exact⟨rfl,((Below.refl _ _).alloc (Nat.le_refl _) _).alloc (by simp) _⟩
def sg(m:Nat):Bs:=[35,UInt8.ofNat m,UInt8.ofNat (m / 256)]
theorem Cs(m:Nat)(h:m≤1000000000000000)(w:World):Calls Tryz.prog 76 #[.int .i64 (m:Int)] w fun e w' =>e=.returned (.string ⟨(sg m).toArray⟩)∧Below w.heap.size w w' :=by
 have b:((UInt8.ofNat m).toNat:Int)=(m:Int) % 256:=by simp
 have c:((UInt8.ofNat (m / 256)).toNat:Int)=(m:Int) / 256 % 256:=by simp
 have d:=run_convert_bytes_back (P:=Tryz.prog) (w.alloc (.cells #[.int .u8 35,.int .u8 ((m:Int) % 256),.int .u8 ((m:Int) / 256 % 256)] 5)) 74 9 5 ⟨w.heap.size,0,none⟩ 3 (sg m) underlying74 underlying5 underlying9 (fun j g=>by
  have f:=heap_alloc_new w (.cells #[.int .u8 35,.int .u8 ((m:Int) % 256),.int .u8 ((m:Int) / 256 % 256)] 5)
  match j,g with
  |0,_=>exact((aM f).1 0).trans (by simp[sg])
  |1,_=>exact((aM f).1 1).trans (by simp[sg])
  |2,_=>exact((aM f).1 2).trans (by simp[sg]))
 have a:(sg m).length=3:=rfl;rw[a]at d;clear b c a;go_enter func76,ntmps76
 go_wp2_with fail
 go_ret;exact⟨rfl,cZ _ _⟩
def PL(c n:Int):Int:=if c<0 then(-(c+1)) % n else c % n
theorem Ct(c n:Int)(a:0<n):0≤PL c n∧PL c n<n:=by
 unfold PL;split<;>exact⟨Int.emod_nonneg _ (by omega),Int.emod_lt_of_pos _ a⟩
theorem Cu{k:IntKind}{a b:Int}(h:a=b):Ending.returned (.int k a)=.returned (.int k b):=by rw[h]
theorem Cv(c n:Int)(a: -9223372036854775808≤c)(b:c≤9223372036854775807)(d:0<n)(f:n≤1000000000000)(w:World):
 Calls Tryz.prog 46 #[.int .i64 c,.int .i64 n] w fun e w' =>e=.returned (.int .i64 (PL c n))∧w' =w:=by
 by_cases h:c<0
 .have e0:(n==0)=false:=by rw[beq_eq_false_iff_ne];omega
  go_enter func46,ntmps46
  go_wp2
  go_ret;refine⟨Cu ?_,rfl⟩;unfold PL;rw[if_pos h,←Int.neg_tmod,Int.tmod_eq_emod_of_nonneg (by omega)]
 have e0:(n==0)=false:=by rw[beq_eq_false_iff_ne];omega
 go_enter func46,ntmps46
 go_wp2
 go_ret;refine⟨Cu ?_,rfl⟩;unfold PL;rw[if_neg (by omega)]
def hd(s:Bs):Bs:=s++[81,82,83]
structure Ch(S:Nat→Prop)(w w' :World):Prop where
 os:w'.os=w.os
 tape:w'.tape=w.tape
 output:w'.output=w.output
 size:w.heap.size≤w'.heap.size
 block:∀k,k<w.heap.size→¬S k→w'.heap[k]?=w.heap[k]?
theorem Ch.refl(S:Nat→Prop)(w:World):Ch S w w:=⟨rfl,rfl,rfl,Nat.le_refl _,fun _ _ _=>rfl⟩
theorem Ch.trans{S T:Nat→Prop}{w w1 w2:World}(h:Ch S w w1)(k:Ch T w1 w2)(c:∀q,q<w.heap.size→T q→S q):Ch S w w2:=
 ⟨k.os.trans h.os,k.tape.trans h.tape,k.output.trans h.output,Nat.le_trans h.size k.size,fun q a b=>(k.block q (Nat.lt_of_lt_of_le a h.size) fun d=>b (c q a d)).trans (h.block q a b)⟩
theorem Ch.of_below(h:Below w.heap.size w w'):Ch S w w' :=⟨h.os,h.tape,h.output,h.size,fun k a _=>h.block k a⟩
theorem Ch.wide{T:Nat→Prop}(h:Ch S w w')(b:∀q,q<w.heap.size→S q→T q):Ch T w w' :=⟨h.os,h.tape,h.output,h.size,fun k a c=>h.block k a fun q=>c (b k a q)⟩
def mE(m:Nat):List Value:=[.int .i64 (-(m:Int)),.string ⟨(sg m).toArray⟩,.string ⟨#[]⟩,.string ⟨#[]⟩,.slice none 0 0]
def mA(m:Nat):List Value:=[.string ⟨(sg m).toArray⟩,.string ⟨#[]⟩,.string ⟨(sg m).toArray⟩]
def mN(m:Nat):List Value:=[.string ⟨(sg m).toArray⟩]
def mB(m:Nat):List Value:=[.int .u8 ((m:Int) % 256)]
structure cV(w:World)(k:Nat)(a:Option Addr)(n i:Nat)(el:List Value):Prop where
 le:n≤9223372036854775807
 row:0<n→∃g cur t,a=some ⟨g,0,none⟩∧w.heap[g]?=some (.cells cur t (0,0))∧n*k≤cur.size∧∀q,q<i→∀j,j<k→cur[q*k+j]?=el[j]?
def aT(a:Option Addr)(k:Nat):Prop:=a.map (·.block)=some k
theorem PN{g:Nat}:aT (some ⟨g,i,none⟩) k↔g=k:=by simp[aT]
theorem cV.keep{c:List Value}(h:cV w k a n i c)(f:∀q,aT a q→q<w.heap.size→w'.heap[q]?=w.heap[q]?):cV w' k a n i c:=
 ⟨h.le,fun j=>by
  obtain⟨g,b,t,d,e,l⟩:=h.row j
  exact⟨g,b,t,d,(f g (d▸PN.2 rfl) (Array.getElem?_eq_some_iff.1 e).1).trans e,l⟩⟩
def dV(w:World)(g:Nat):Nat→List Value→World
 |_,[]=>w
 |o,v::l=>dV (w.setCell ⟨g,o,none⟩ v) g (o+1) l
theorem pU:∀(l:List Value) {w:World} {g o t:Nat} {a:Array Value},w.heap[g]?=some (.cells a t (0,0))→o+l.length≤a.size→
 ∃b:Array Value,(dV w g o l).heap[g]?=some (.cells b t (0,0))∧b.size=a.size∧(∀j,j<o→b[j]?=a[j]?)∧∀j,j<l.length→b[o+j]?=l[j]?
 |[],w,g,o,t,a,h,_=>⟨a,h,rfl,fun _ _=>rfl,fun j c=>by cases c⟩
 |v::l,w,g,o,t,a,h,e=>by
  rw[List.length_cons]at e;obtain⟨b,f,i,d,k⟩:=pU l (w:=w.setCell ⟨g,o,none⟩ v) (o:=o+1) (heap_setCell_same w g o a t v h) (by simp;omega);refine⟨b,f,by simpa using i,fun j c=>?_,fun j c=>?_⟩
  .rw[d j (by omega),Array.getElem?_setIfInBounds_ne (by omega)]
  cases j with
  |zero=>rw[Nat.add_zero,d o (by omega),Array.getElem?_setIfInBounds_self_of_lt (by omega)];rfl
  |succ j=>rw[show o+(j+1)=o+1+j by omega,k j (by simpa using c)];rfl
theorem n_:∀(l:List Value) {w:World} {g o:Nat} (k:Nat),k≠g→(dV w g o l).heap[k]?=w.heap[k]?
 |[],_,_,_,_,_=>rfl
 |v::l,w,g,o,k,h=>(n_ l k h).trans (heap_setCell_other w ⟨g,o,none⟩ k v h)
theorem xL:∀(l:List Value) {w:World} {g o:Nat},(dV w g o l).os=w.os∧(dV w g o l).tape=w.tape∧(dV w g o l).output=w.output∧(dV w g o l).heap.size=w.heap.size
 |[],_,_,_=>⟨rfl,rfl,rfl,rfl⟩
 |v::l,w,g,o=>by
  obtain⟨a,b,c,d⟩:=xL l (w:=w.setCell ⟨g,o,none⟩ v) (g:=g) (o:=o+1);exact⟨a,b,c,d.trans (by simp)⟩
structure MI(w0:World)(w:World)(k:Nat)(a:Option Addr)(n i:Nat)(el:List Value):Prop where
 md:cV w k a n i el
 ch:Ch (aT a) w0 w
theorem MI.step{w0:World}{g:Nat}(h:MI w0 w k (some ⟨g,0,none⟩) n i b)(F:b.length=k)(l:i<n)(W:World)(m:W=dV w g (i*k) b∨W=(dV w g (i*k) b).drew):MI w0 W k (some ⟨g,0,none⟩) n (i+1) b:=by
 have a:MI w0 (dV w g (i*k) b) k (some ⟨g,0,none⟩) n (i+1) b:=by
  obtain⟨G,p,t,c,r,H,s⟩:=h.md.row (by omega);injection c with c;injection c with c _ _;subst c;have u:i*k+k≤n*k:=by rw[←Nat.succ_mul];exact Nat.mul_le_mul_right k l
  obtain⟨v,x,I,y,z⟩:=pU b (o:=i*k) r (by omega);obtain⟨A,B,C,D⟩:=xL b (w:=w) (g:=g) (o:=i*k);refine⟨⟨h.md.le,fun _=>⟨g,v,t,rfl,x,by omega,fun q d j E=>?_⟩⟩,⟨A.trans h.ch.os,B.trans h.ch.tape,C.trans h.ch.output,by rw[D];exact h.ch.size,fun q d f=>?_⟩⟩
  .by_cases e:q=i
   .subst e;rw[z j (by omega)]
   have:q*k+k≤i*k:=by rw[←Nat.succ_mul];exact Nat.mul_le_mul_right k (by omega)
   rw[y _ (by omega)];exact s q (by omega) j E
  exact(n_ b q fun e=>f (PN.2 e.symm)).trans (h.ch.block q d f)
 rcases m with rfl|rfl
 .exact a
 exact⟨⟨a.md.le,a.md.row⟩,⟨a.ch.os,a.ch.tape,a.ch.output,a.ch.size,a.ch.block⟩⟩
def m_(a b:Option Addr):Prop:=∀q,aT a q→¬aT b q
theorem fV:¬aT none k:=by simp[aT]
def jE(c:Nat)(v:Value)(m:Int):Array Value:=#[if c=0 then v else .slice none 0 0,if c=1 then v else .slice none 0 0,if c=2 then v else .slice none 0 0,if c=3 then v else .slice none 0 0,.int .i64 m]
def jU:Nat→Nat
 |0=>5
 |1=>3
 |_=>1
def pX(c m:Nat):List Value:=match c with
 |0=>mE m
 |1=>mA m
 |2=>mN m
 |_=>mB m
theorem cV.nil(w:World)(k i:Nat)(a:List Value):cV w k none 0 i a:=⟨by decide,fun h=>by omega⟩
theorem cV.zero(h:cV w k a n i d):cV w k a n 0 b:=⟨h.le,fun e=>by
 obtain⟨g,c,t,f,j,l,_⟩:=h.row e
 exact⟨g,c,t,f,j,l,fun q m=>by cases m⟩⟩
theorem cV.at(h:cV w k a n n b)(d:i<n):∃g,a=some ⟨g,0,none⟩∧g<w.heap.size∧∀j,j<k→w.cell? ⟨g,i*k+j,none⟩=b[j]?:=by
 obtain⟨g,e,t,f,c,o,l⟩:=h.row (by omega);exact⟨g,f,(Array.getElem?_eq_some_iff.1 c).1,fun j m=>by rw[←l i d j m];simp[World.cell?,c]⟩
theorem cV.spot(h:cV w k a n i d)(e:i<n):∃g,a=some ⟨g,0,none⟩∧g<w.heap.size∧(∀j,w.frozen? ⟨g,j,none⟩=false)∧∀j,j<k→∃u,w.cell? ⟨g,i*k+j,none⟩=some u:=by
 obtain⟨g,b,t,f,c,m,o⟩:=h.row (by omega);have l:i*k+k≤n*k:=by rw[←Nat.succ_mul];exact Nat.mul_le_mul_right k e
 exact⟨g,f,(Array.getElem?_eq_some_iff.1 c).1,fun j=>by simp[World.frozen?,c],fun j p=>⟨b[i*k+j]'(by omega),by simp[World.cell?,c]⟩⟩
end Go.Proofs.YtmgfijllcdadgaaGreatDoor.U
