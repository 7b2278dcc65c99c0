import Derived.Test.YtmgfijllcdadgaaGreatDoorNW37
import Derived.Test.YtmgfijllcdadgaaGreatDoorNW12
import Derived.Test.YtmgfijllcdadgaaGreatDoorNW13
import Derived.Lib.AppendStr
set_option linter.unusedVariables false
set_option linter.unusedSimpArgs false
set_option maxHeartbeats 4000000
set_option maxRecDepth 100000
namespace Go.Proofs.YtmgfijllcdadgaaGreatDoor
open Mk (St Bs Ev aD)
open Go.RowKit
open Go.Proofs.Tryz
open Mk (dB jW fJ h_ iX oG ia mG iY fG kV ny dH kU cQ ij iM Pu)
variable {s:St}{w:World}{c l:Int}{cap b:Nat}{r:Bs}{L:Lay}
def ic:List Bs→Nat
 |[]=>0
 |n::r=>n.length+3+ic r
theorem Dg:∀l:List Bs,(Mk.endTags l).length=ic l
 |[]=>rfl
 |n::r=>by
  show([60,47]++n++[62]++Mk.endTags r).length=_;simp only[List.length_append,Dg r,List.length_cons,List.length_nil,ic];omega
theorem xV:∀l r:List Bs,ic (l++r)=ic l+ic r
 |[],r=>by simp[ic]
 |n::l,r=>by simp only[List.cons_append,ic,xV l r];omega
theorem Dh(l:List Bs):ic l.reverse=ic l:=by
 induction l with
 |nil=>rfl
 |cons n r ih=>rw[List.reverse_cons,xV,ih];simp only[ic];omega
theorem oH(w:Bs)(k:Int):(Mk.behind w k).length≤w.length:=by
 unfold Mk.behind;split
 .exact Nat.zero_le _
 rw[List.length_drop];omega
theorem MC(c l:Int):(dB c l).length≤3:=by
 unfold dB;repeat' split
 all_goals simp
theorem ME(n:Bs):(jW n fJ).length≤5:=by
 have:∀(l:List (Bs×Int)),(∀q∈l,q.1.length≤5)→(jW n l).length≤5:=by
  intro l;induction l with
  |nil=>intro _;exact Nat.zero_le _
  |cons q r ih=>
   intro h;obtain⟨a,b⟩:=q;unfold jW;split
   .have:=h (a,b) List.mem_cons_self;rw[List.length_drop];dsimp only at this;omega
   exact ih fun q c=>h q (List.mem_cons_of_mem _ c)
 exact this _ (by decide)
theorem MF(p:Int)(n:Bs)(c:Int):(h_ p n c).length≤5:=by
 unfold h_ iX;split
 .exact ME n
 repeat' split
 all_goals simp
theorem xW(s:St):∀(n:Nat) (b:Int),(oG s n b).length≤1
 |0,b=>by simp[oG]
 |n+1,b=>by
  unfold oG;split
  .simp
  exact xW s n _
theorem MG(s:St):(ia s).length≤6:=by
 unfold ia mG;repeat' split
 all_goals simp
 have:=xW s 58 65;omega
theorem MH(s:St):(iY s).length≤3:=by
 unfold iY;split
 .simp
 split
 .simp
 exact Nat.le_trans (oH _ _) (by decide)
theorem MJ(h:W s):(Mk.rest s).length≤16+ic s.opn:=by
 have t:(dB s.pc s.pl).length+(h_ s.rp s.rn s.rc).length≤5:=by
  by_cases f:0<s.pl
  .have:=h.pl f;rw[My this.2.2.2];have:=MC s.pc s.pl;simp;omega
  have f:s.pl=0:=by have:=h.p0;omega
  have:=MF s.rp s.rn s.rc;rw[f];simpa[dB]using this
 have e:=congrArg List.length (Mx s);rw[List.length_append,List.length_append]at e;have i:=oH [93,93,62] (s.held.length:Int);have j:=oH [45,45,62] (s.held.length:Int);have o:=oH fG s.matched;have m:=oH (Mk.innermost s) s.matched;have u:=MG s;have v:=MH s;have w:fG.length=6:=rfl;simp only[List.length_cons,List.length_nil]at i j;have a:s.opn≠[]→ic s.opn=ic s.opn.dropLast+(Mk.innermost s).length+3:=by
  intro b;have p:s.opn=s.opn.dropLast++[Mk.innermost s]:=by
   unfold Mk.innermost;rw[List.getLastD_eq_getLast?,List.getLast?_eq_some_getLast b];exact(List.dropLast_concat_getLast b).symm
  have:=xV s.opn.dropLast [Mk.innermost s];rw[←p]at this;rw[this];simp[ic];omega
 have n:(later s).length≤11+ic s.opn:=by
  unfold later;rw[List.length_append,List.length_append,Dg];by_cases k:s.state=20∨s.state=21
  .have b:=h.o1 (by omega);have l:kV s.state=true:=by unfold kV;simp;exact k
   unfold ny;rw[l,if_pos rfl,Dh];have:=a b;rw[if_neg (fun g=>b g.1)];unfold dH;rw[if_neg (by omega),if_neg (by omega),if_neg (by omega),if_neg (by omega),if_neg (by omega),if_neg (by omega),if_neg (by omega)];split
   .simp only[List.length_append,List.length_cons,List.length_nil];omega
   rw[if_pos (by omega)];simp only[List.length_cons,List.length_nil];omega
  have l:kV s.state=false:=by unfold kV;simp;omega
  unfold ny;rw[l,if_neg (by decide),Dh];have c:(dH s).length≤9∧(s.state≠6→(dH s).length≤6):=by
   unfold dH;split
   .simp
   split
   .simp
   split
   .simp
   split
   .simp
   split
   .constructor<;>intros<;>omega
   split
   .rename_i g;simp only[List.length_append,List.length_cons,List.length_nil];constructor
    .omega
    intro q;exact absurd g q
   split
   .constructor<;>intros<;>omega
   rw[if_neg (by omega),if_neg (by omega)];split<;>constructor<;>intros<;>omega
  by_cases r:s.state=6
  .have b:=h.o1 (by omega);rw[if_neg (fun g=>b g.1)];simp only[List.length_nil];omega
  have:=c.2 r;by_cases d:s.opn=[]∧s.over=false∧kU s.state=false
  .rw[if_pos d];simp only[List.length_cons,List.length_nil];omega
  rw[if_neg d];simp only[List.length_nil];omega
 omega
theorem rB(x:Bs)(k:Int)(h:x.length≤100000000)(i: -100000000≤k)(j:k≤100000000)(w:World):
 Calls Tryz.prog 176 #[.string ⟨x.toArray⟩,.int .i64 k] w fun e w' =>e=.returned (.string ⟨(Mk.behind x k).toArray⟩)∧w' =w:=by
 obtain⟨z,a⟩:∃z,Mk.behind x k=z:=⟨_,rfl⟩;rw[a];by_cases b:k<0
 .have d:decide (k<0)=true:=by simpa using b
  have:z=[]:=by rw[←a];unfold Mk.behind;rw[if_pos (.inl b)]
  subst this;clear a;go_enter func176,ntmps176
  go_wp2
  go_ret;exact⟨rfl,rfl⟩
 have d:decide (k<0)=false:=by simpa using b
 by_cases c:(x.length:Int)<k
 .have f:decide ((x.length:Int)<k)=true:=by simpa using c
  have:z=[]:=by rw[←a];unfold Mk.behind;rw[if_pos (.inr c)]
  subst this;clear a;go_enter func176,ntmps176
  go_wp2
  go_ret;exact⟨rfl,rfl⟩
 have f:decide ((x.length:Int)<k)=false:=by simpa using c
 obtain⟨n,rfl⟩:∃n:Nat,k=(n:Int):=⟨k.toNat,by omega⟩;have l:n≤x.length:=by omega
 have g:(ByteArray.extract ⟨x.toArray⟩ n x.length)=⟨z.toArray⟩:=by
  rw[rX,←a];unfold Mk.behind;rw[if_neg (by omega)];simp
 have m:¬(n:Int)<0:=b;have o:(n:Int)≤(x.length:Int):=by omega
 clear a;go_enter func176,ntmps176
 go_wp2
 go_ret;exact⟨rfl,rfl⟩
structure qa(w wx:World)(iB:Bs)(c l:Int)(dn:Bs)(a:Option Addr)(cap:Nat):Prop where
 aU:Below w.heap.size w wx
 p:wx.heap[w.heap.size]?=some (.cells #[.int .i64 c,.int .i64 l] 87 (0,0))
 row:wx.ownsRow (w.heap.size+1) 5 1 (.slice a dn.length cap) dn.length (dn.map bv)
 fin:iB=dn++dB c l
 pt:l=0∨iG c l
 len:dn.length+l.toNat≤3
structure rC(w wx:World)(iB:Bs)(c l:Int)(dn:Bs)(a:Option Addr)(cap:Nat)(q:Nat)(b:Int):Prop extends qa w wx iB c l dn a cap where
 q1:wx.heap[q]?=some (.cells #[.int .i64 ((cQ c l b).getD (0,0)).1,.int .i64 ((cQ c l b).getD (0,0)).2] 87 (0,0))
 q2:w.heap.size<q
 q3:(Value.slice a dn.length cap).ownBlock≠some q
theorem qa.below{e g:World}{b:Bs}{d:Bs}{a:Option Addr}(h:qa w e b c l d a cap)(f:Below e.heap.size e g):qa w g b c l d a cap:=by
 have i:=(Array.getElem?_eq_some_iff.1 h.p).1;refine⟨h.aU.trans (f.mono (by omega)),(f.block _ i).trans h.p,?_,h.fin,h.pt,h.len⟩;exact fP (r:=⟨5,1,.slice a d.length cap,d.length,d.map bv⟩) h.row fun k j=>f.block k (h.row.lt k j).2
theorem MK(h:iG c l){x:UInt8}(a:dB c l=x::r)(b:Int)(f:128≤b)(d:b<x.toNat):cQ c l b=none:=by
 rcases h with⟨rfl,h⟩|⟨rfl,h⟩|⟨rfl,h⟩
 .have:x=128:=by simp[dB]at a;exact a.1.symm
  subst this;have:b<128:=d;omega
 .by_cases e:c=0
  .subst e;have:x=160:=by simp[dB]at a;exact a.1.symm
   subst this;have d:b<160:=d;unfold cQ;rw[if_neg (by omega),if_neg];unfold ij;simp;omega
  have:x=128:=by simp[dB,e]at a;exact a.1.symm
  subst this;have:b<128:=d;omega
 by_cases e:c=0
 .subst e;have:x=144:=by simp[dB]at a;exact a.1.symm
  subst this;have d:b<144:=d;unfold cQ;rw[if_neg (by omega),if_neg];unfold ij;simp;omega
 have:x=128:=by simp[dB,e]at a;exact a.1.symm
 subst this;have:b<128:=d;omega
theorem ML(h:iG c l){x:UInt8}(a:dB c l=x::r):128≤x.toNat∧x.toNat≤160:=by
 rcases h with⟨rfl,h⟩|⟨rfl,h⟩|⟨rfl,h⟩
 .have:x=128:=by simp[dB]at a;exact a.1.symm
  subst this;decide
 .by_cases b:c=0
  .subst b;have:x=160:=by simp[dB]at a;exact a.1.symm
   subst this;decide
  have:x=128:=by simp[dB,b]at a;exact a.1.symm
  subst this;decide
 by_cases b:c=0
 .subst b;have:x=144:=by simp[dB]at a;exact a.1.symm
  subst this;decide
 have:x=128:=by simp[dB,b]at a;exact a.1.symm
 subst this;decide
theorem rC.again{s m:World}{f:Bs}{g:Bs}{a:Option Addr}{q:Nat}{b b' :Int}(h:rC w s f c l g a cap q b)(t:Below s.heap.size s m)(n o:Int)(v:n=((cQ c l b').getD (0,0)).1∧o=((cQ c l b').getD (0,0)).2):
 rC w ((m.setCell ⟨q,0,none⟩ (.int .i64 n)).setCell ⟨q,1,none⟩ (.int .i64 o)) f c l g a cap q b' :=by
 have d:=h.toqa.below t;have x:=(Array.getElem?_eq_some_iff.1 h.q1).1;have i:∀k,k≠q→((m.setCell ⟨q,0,none⟩ (.int .i64 n)).setCell ⟨q,1,none⟩ (.int .i64 o)).heap[k]?=m.heap[k]?:=fun k i=>by rw[Below.heap_setCell _ _ _ _ i,Below.heap_setCell _ _ _ _ i]
 refine⟨⟨(d.aU.setCell (by show w.heap.size≤q;have:=h.q2;omega) _).setCell (by show w.heap.size≤q;have:=h.q2;omega) _,(i _ (by have:=h.q2;omega)).trans d.p,?_,d.fin,d.pt,d.len⟩,?_,h.q2,h.q3⟩
 .exact fP (r:=⟨5,1,.slice a g.length cap,g.length,g.map bv⟩) d.row fun k y=>i k fun e=>h.q3 (e▸y)
 have z:=(t.block q x).trans h.q1;have:=sQ (j:=1) (u:=.int .i64 o) (sQ (j:=0) (u:=.int .i64 n) z rfl) rfl;rw[this];simp[v.1,v.2]
theorem MN(c l:Int)(h:l=0∨iG c l)(w:World):
 Calls Tryz.prog 122 #[.agg #[.int .i64 c,.int .i64 l]] w fun e w' =>∃a cap,e=.returned (.slice a (dB c l).length cap)∧w'.ownsRow w.heap.size 5 1 (.slice a (dB c l).length cap) (dB c l).length ((dB c l).map bv)∧Below w.heap.size w w' :=by
 obtain⟨d,hF⟩:∃d,d=dB c l:=⟨_,rfl⟩;rw[←hF];have a0:0≤l∧l≤3∧(l≠0→0≤c∧c≤17407):=by
  rcases h with h|h
  .omega
  unfold iG at h;omega
 have HI:Hid (qa w (w.alloc (.cells #[.int .i64 c,.int .i64 l] 87)) d c l [] none 0):=⟨(Below.refl _ _).alloc (Nat.le_refl _) _,heap_alloc_new w _,World.ownsRow_nil _ _ _ _,hF,h,by simp;omega⟩;obtain⟨i0,hi,a1,a2,a3⟩:=info_parts oU;clear h hF a0;go_enter func122,ntmps122
 go_wp2_with fail
 go_loopg [3,4,5,6,7] l.toNat (fun g s3 s4 s5 s6 s7 wx=>∃(Z:World) (c l:Int) (f:Bs) (a:Option Addr) (cap:Nat),Z=wx∧g=l.toNat∧s3=.slice a f.length cap∧s4=.int .i64 l∧Hid (qa w Z d c l f a cap))
 case atStart=>exact⟨_,c,l,[],none,0,rfl,rfl,rfl,rfl,HI⟩
 case round=>
  clear HI;obtain⟨Z,c,l,f,a,cap,a4,rfl,rfl,rfl,C⟩:=hrel;subst a4;have al:=(aA C).len;rcases(aA C).pt with a5|m
  .subst a5;have hf:d=f:=by have:=(aA C).fin;rw[this];simp[dB]
   have HF:=aB hf;clear hf;go_wp2
   go_ret;rw[aA HF];exact⟨a,cap,rfl,yZ (aA C).row (by omega),(aA C).aU⟩
  have an:0<l∧l≤3∧0≤c∧c≤17407:=by unfold iG at m;omega
  obtain⟨x,r,K,A,G,L,a6,a7⟩:=MB m;have a8:=ML m A;have a9:=aB (MK m A);have M:=aB (fun(b:Int) (h0:0≤b) (h1:b≤255) w=>yK c l b h0 h1 (by omega) (by omega) (by omega) (by omega) w);have HX:=aB (And.intro A (And.intro G L));have aa:=aB (CX m G);have ab:∀i,Z.cell? ⟨w.heap.size,i,none⟩=[.int .i64 c,.int .i64 l][i]?:=fun i=>by simp[World.cell?,(aA C).p]
  have e1:decide (0<l)=true:=by simp;omega
  clear A G L m a6 a7;go_wp2_with(go_at_call 127;refine(aA M 128 (by decide) (by decide) _).mono ?_;rintro e w1 ⟨rfl,H⟩)
  have B:=(aA C).below H;have ad:=(Array.getElem?_eq_some_iff.1 B.p).1;have HK:Hid (rC w (w1.alloc (.cells #[.int .i64 ((cQ c l 128).getD (0,0)).1,.int .i64 ((cQ c l 128).getD (0,0)).2] 87)) d c l f a cap w1.heap.size 128):=
   ⟨B.below ((Below.refl _ _).alloc (Nat.le_refl _) _),heap_alloc_new w1 _,by omega,fun e=>by have:=(B.row.lt _ e).2;omega⟩
  generalize hq:w1.heap.size=q at *;generalize(w1.alloc (.cells #[.int .i64 ((cQ c l 128).getD (0,0)).1,.int .i64 ((cQ c l 128).getD (0,0)).2] 87))=w2 at *;clear B H ad hq C ab;go_loopg [5,7] (x.toNat - 128) (fun g s5 s7 wx=>∃(n:World) (b:Nat),n=wx∧g=x.toNat - b∧128≤b∧b≤x.toNat∧s5=.int .u8 (b:Int)∧s7=.bool (cQ c l (b:Int)).isSome∧Hid (rC w n d c l f a cap q (b:Int)))
  case atStart=>exact⟨_,128,rfl,rfl,by omega,a8.1,rfl,rfl,HK⟩
  case round=>
   obtain⟨n,b,ae,rfl,H,ao,rfl,rfl,z⟩:=hrel;subst ae;clear HK;have N:∀i,n.cell? ⟨w.heap.size,i,none⟩=[.int .i64 c,.int .i64 l][i]?:=fun i=>by simp[World.cell?,(aA z).p]
   have o:=(aA z).q1;have ap:=(aA z).q2;have D:q<n.heap.size:=(Array.getElem?_eq_some_iff.1 o).1;by_cases aq:b<x.toNat
   .have af:cQ c l (b:Int)=none:=aA a9 b (by omega) (by omega);rw[af];have e2:decide ((b:Int)<191)=true:=by simp;omega
    have ar:IntKind.u8.wrap ((b:Int)+1)=(b:Int)+1:=by rw[IntKind.wrap_u8];omega
    have ag:=aB (fun w=>aA M ((b:Int)+1) (by omega) (by omega) w);have O:∀(w3:World),Below n.heap.size n w3→(∀i,w3.cell? ⟨q,i,none⟩=[.int .i64 ((cQ c l (b:Int)).getD (0,0)).1,.int .i64 ((cQ c l (b:Int)).getD (0,0)).2][i]?)∧(∀i,w3.frozen? ⟨q,i,none⟩=false):=fun w3 hb=>by
     have h1:=(hb.block q D).trans o;exact⟨fun i=>by simp[World.cell?,h1],fun i=>by simp[World.frozen?,h1]⟩
    have P:=aB O;clear o O;go_wp2_with fail
    refine(aA ag _).mono ?_;rintro e w3 ⟨rfl,I⟩;obtain⟨hc3,au⟩:=aA P w3 I;have HG:=aB ((aA z).again I (b' :=(b:Int)+1) _ _ ⟨rfl,rfl⟩);clear I P z N;go_wp2
    go_roundg (x.toNat - (b+1))
    case measure=>omega
    case rel=>exact⟨_,b+1,rfl,rfl,by omega,by omega,by simp,by simp,HG⟩
   obtain rfl:b=x.toNat:=by omega
   have t:cQ c l (x.toNat:Int)=some (K,l - 1):=(aA HX).2.1;have Q:(cQ c l (x.toNat:Int)).isSome=true:=by rw[t];rfl
   rw[Q];rw[t]at o;have hrow:=(aA z).row;have J:=(Below.refl n.heap.size n).alloc (Nat.le_refl _) (.cells #[.int .u8 (x.toNat:Int)] 5);have R:=aB ((aA z).toqa.below J);have HO:=aB ((aA z).toqa.below J).row;have HB:=aB (heap_alloc_new n (.cells #[.int .u8 (x.toNat:Int)] 5));have S:=(aA z).q3;have T:=(aA z).p;have E:some w.heap.size≠(Value.slice a f.length cap).ownBlock:=fun e=>by have:=(hrow.lt _ e.symm).1;omega
   have ah:Hid (∀v:World,(n.alloc (.cells #[.int .u8 (x.toNat:Int)] 5)).grownBy v (Value.slice a f.length cap).ownBlock→(∀i,v.cell? ⟨q,i,none⟩=[.int .i64 K,.int .i64 (l - 1)][i]?)∧(∀i,v.cell? ⟨w.heap.size,i,none⟩=[.int .i64 c,.int .i64 l][i]?)∧(∀i,v.frozen? ⟨w.heap.size,i,none⟩=false)∧v.heap[w.heap.size]?=some (.cells #[.int .i64 c,.int .i64 l] 87 (0,0))):=by
    intro v hgrow;have ai:=(hgrow.block q (by simp<;>omega) (fun e=>S e.symm)).trans ((Below.heap_alloc _ _ _ D).trans o);have s:=(hgrow.block w.heap.size (by simp<;>omega) E).trans ((Below.heap_alloc _ _ _ (by omega)).trans T);exact⟨fun i=>by simp[World.cell?,ai],fun i=>by simp[World.cell?,s],fun i=>by simp[World.frozen?,s],s⟩
   clear J Q S E;go_wp2_with(at_builtin;refine wpList_append_lies _ rfl (.tmp 34) (.tmp 36) 74 rfl (w.heap.size+1) 5 i0 _ 1 1 underlying74 hi a1 a2 a3 rfl (by decide) (.slice a f.length cap) f.length (f.map bv) rfl (aA HO) ⟨n.heap.size,0,none⟩ 1 1 [.int .u8 (x.toNat:Int)] (by simp[Act.eval]) rfl (World.news_of_block (aA HB)) (by intro u hu;simp at hu;subst hu;rfl) (by decide) (by unfold maxLen;omega) (by omega) (by simp<;>omega) (n.heap.size+1) (by simp) ?_;intro g2 F v hown hgrow X am;obtain⟨av,aw,ax,s⟩:=aA ah v hgrow;have HOW:=aB hown;have aj:=aB hgrow;have ay:=aB X;have ak:=aB s;clear hown hgrow X s N o T)
   have az:(l - 1).toNat+1=l.toNat:=by omega
   go_roundg (l - 1).toNat
   case measure=>omega
   case rel=>
    refine⟨_,K,l - 1,f++[x],some ⟨g2,0,none⟩,F,rfl,rfl,by simp,rfl,?_⟩;have y:=aA aj;have Y:Below w.heap.size w v:=(aA R).aU.trans ⟨y.os,y.tape,y.output,y.size,fun k hk=>y.block k (by simp;omega) (fun e=>by have:=(hrow.lt k e.symm).1;omega)⟩;refine⟨(Y.setCell (Nat.le_refl _) _).setCell (Nat.le_refl _) _,?_,?_,?_,aA aa,by simp;omega⟩
    .have:=sQ (j:=1) (u:=.int .i64 (l - 1)) (sQ (j:=0) (u:=.int .i64 K) (aA ak) rfl) rfl;rw[this];rfl
    .have h5:=aA HOW;have h6:=fP (w:=v) (w' :=(v.setCell ⟨w.heap.size,0,none⟩ (.int .i64 K)).setCell ⟨w.heap.size,1,none⟩ (.int .i64 (l - 1))) (base:=w.heap.size+1) (r:=⟨5,1,.slice (some ⟨g2,0,none⟩) (f.length+1) F,f.length+1,f.map bv++[Value.int .u8 (x.toNat:Int)]⟩) h5 fun k hv=>by
      have:=(h5.lt k hv).1;rw[Below.heap_setCell _ _ _ _ (by show k≠w.heap.size;omega),Below.heap_setCell _ _ _ _ (by show k≠w.heap.size;omega)]
     simpa[Row.owned,bv]using h6
    rw[(aA R).fin,(aA HX).1,(aA HX).2.2];simp
theorem MO(n:Bs)(k:Nat)(a:k<5):∃x,(fJ.map fun p=>Value.string ⟨p.1.toArray⟩)[k]?=some (.string ⟨x.toArray⟩)∧x.length≤5∧
 jW n (fJ.drop k)=if n.isPrefixOf x then x.drop n.length else jW n (fJ.drop (k+1)):=by
 match k,a with
 |0,_=>exact⟨_,rfl,by decide,rfl⟩
 |1,_=>exact⟨_,rfl,by decide,rfl⟩
 |2,_=>exact⟨_,rfl,by decide,rfl⟩
 |3,_=>exact⟨_,rfl,by decide,rfl⟩
 |4,_=>exact⟨_,rfl,by decide,rfl⟩
theorem MP(p:Int)(n:Bs)(c:Int)(O:n.length≤20)(w:World)(A:Gl w)(P:2<w.heap.size):
 Calls Tryz.prog 174 #[.agg #[.int .i64 p,.string ⟨n.toArray⟩,.int .i64 c]] w fun e w' =>e=.returned (.string ⟨(jW n fJ).toArray⟩)∧Below w.heap.size w w' :=by
 obtain⟨r,f⟩:∃r,r=jW n fJ:=⟨_,rfl⟩;rw[←f];have B:Hid (r=jW n (fJ.drop 0)):=f;have g:∀C j,(w.alloc C).cell? ⟨1,j,none⟩=w.cell? ⟨1,j,none⟩:=fun C j=>by
  simp only[World.cell?];rw[Below.heap_alloc _ _ _ (by omega)]
 have D:=A.names;clear f A;go_enter func174,ntmps174
 go_wp2
 go_loopw [3] (fun i F=>∃k:Nat,k≤5∧i=.int .i64 k∧Hid (r=jW n (fJ.drop k))∧∃m,F=(w.alloc (.cells #[.int .i64 p,.string ⟨n.toArray⟩,.int .i64 c] 89)).drewN m) (fun i _=>5 - (intOf i).toNat)
 case atStart=>exact⟨0,by omega,rfl,B,0,rfl⟩
 case round=>
  obtain⟨k,t,rfl,u,m,rfl⟩:=hrel;clear B;obtain⟨W,d⟩:∃W,W=(w.alloc (.cells #[.int .i64 p,.string ⟨n.toArray⟩,.int .i64 c] 89)).drewN m:=⟨_,rfl⟩;rw[←d];have l:∀j,W.cell? ⟨1,j,none⟩=w.cell? ⟨1,j,none⟩:=fun j=>by rw[d,←g (.cells #[.int .i64 p,.string ⟨n.toArray⟩,.int .i64 c] 89) j];rfl
  have G:∀j,W.cell? ⟨w.heap.size,j,none⟩=[.int .i64 p,.string ⟨n.toArray⟩,.int .i64 c][j]?:=fun j=>by
   rw[d];show(w.alloc _).cell? _=_;simp only[World.cell?];rw[heap_alloc_new];simp
  have o:Below w.heap.size w W:=by
   rw[d];exact⟨rfl,rfl,rfl,by rw[heap_drewN];simp,fun k t=>by rw[heap_drewN];exact Below.heap_alloc _ _ _ t⟩
  have H:=aB d;have q:=aB o;clear d o g;by_cases y:k<5
  .obtain⟨x,E,Q,b⟩:=MO n k y;have R:W.cell? ⟨1,k,none⟩=some (.string ⟨x.toArray⟩):=by rw[l,D k];exact E
   have I:(k:Int)<5:=by omega
   rw[←aA u]at b;have s:=aB (fun w=>si x n (by omega) (by omega) w);have a:∀v,n.isPrefixOf x=v→(n.isPrefixOf x)=v:=fun _ h=>h
   clear E D l u;cases z:n.isPrefixOf x
   .rw[z]at s b;simp only[Bool.false_eq_true,if_false]at b;have J:=aB b;clear b a;go_wp2
    go_quiet((go_at_call 214;refine Calls.quiet_of_same (aA s _)))
    go_wp2
    go_roundw
    case rel=>exact⟨k+1,by omega,by go_num,aA J,by rw[aA H];exact⟨_,PZ _ _ _⟩⟩
    case measure=>simp[intOf];omega
   have K:n.length≤x.length:=(List.isPrefixOf_iff_prefix.1 z).length_le;rw[z]at s b;simp only[if_true]at b;have L:(ByteArray.extract ⟨x.toArray⟩ n.length x.length)=⟨r.toArray⟩:=by rw[rX,b]
   have M:¬((n.length:Int)<0):=by omega
   have N:(n.length:Int)≤(x.length:Int):=by omega
   clear b a;go_wp2
   go_quiet((go_at_call 214;refine Calls.quiet_of_same (aA s _)))
   go_wp2
   go_quiet(fail)
   go_wp2
   go_ret;refine⟨rfl,(aA q).trans ⟨rfl,rfl,rfl,by rw[heap_drewN,heap_drewN];exact Nat.le_refl _,fun k t=>by rw[heap_drewN,heap_drewN]⟩⟩
  have S:decide ((k:Int)<5)=false:=by simp;omega
  obtain rfl:k=5:=by omega
  have f:r=[]:=aA u;subst f;go_wp2
  go_ret;exact⟨rfl,aA q⟩
theorem MQ(p:Int)(n:Bs)(c base:Int)(h:base=10∨base=16)(k:0≤c)(l:c≤1114111)(w:World):
 Calls Tryz.prog 175 #[.agg #[.int .i64 p,.string ⟨n.toArray⟩,.int .i64 c],.int .i64 base] w fun e w' =>e=.returned (.string ⟨(iX c base).toArray⟩)∧Below w.heap.size w w' :=by
 have d:=(Below.refl w.heap.size w).alloc (Nat.le_refl _) (.cells #[.int .i64 p,.string ⟨n.toArray⟩,.int .i64 c] 89);have b:=aB d;have f:=aB oP;clear d;cases g:iM c
 .cases i:iM (c*base)
  .cases j:iM (c*base*base)
   .have a:iX c base=[57,59]:=by unfold iX;rw[g,i,j];rfl
    rw[a];clear a;rcases h with rfl|rfl;all_goals
     go_enter func175,ntmps175
     go_wp2_with(go_at_call 215;refine(aA f _ _).mono ?_;rintro e w1 ⟨rfl,rfl⟩)
     go_ret;exact⟨rfl,aA b⟩
   have a:iX c base=[48,48,59]:=by unfold iX;rw[g,i,j];rfl
   rw[a];clear a;rcases h with rfl|rfl;all_goals
    go_enter func175,ntmps175
    go_wp2_with(go_at_call 215;refine(aA f _ _).mono ?_;rintro e w1 ⟨rfl,rfl⟩)
    go_ret;exact⟨rfl,aA b⟩
  have a:iX c base=[48,59]:=by unfold iX;rw[g,i];rfl
  rw[a];clear a;rcases h with rfl|rfl;all_goals
   go_enter func175,ntmps175
   go_wp2_with(go_at_call 215;refine(aA f _ _).mono ?_;rintro e w1 ⟨rfl,rfl⟩)
   go_ret;exact⟨rfl,aA b⟩
 have a:iX c base=[59]:=by unfold iX;rw[g];rfl
 rw[a];clear a;go_enter func175,ntmps175
 go_wp2_with(go_at_call 215;refine(aA f _ _).mono ?_;rintro e w1 ⟨rfl,rfl⟩)
 go_ret;exact⟨rfl,aA b⟩
theorem MR(p:Int)(n:Bs)(c:Int)(o:n.length≤20)(q:0≤c)(r:c≤1114111)(w:World)(m:Gl w)(s:2<w.heap.size):
 Calls Tryz.prog 123 #[.agg #[.int .i64 p,.string ⟨n.toArray⟩,.int .i64 c]] w fun e w' =>e=.returned (.string ⟨(h_ p n c).toArray⟩)∧Below w.heap.size w w' :=by
 have a:=(Below.refl w.heap.size w).alloc (Nat.le_refl _) (.cells #[.int .i64 p,.string ⟨n.toArray⟩,.int .i64 c] 89);have i:=aB (MP p n c o _ (m.below s a) (by simp<;>omega));have g:=aB (fun base t w=>MQ p n c base t q r w);have f:=aB a;clear m a;by_cases h:p=1∨p=2
 .have b:h_ p n c=jW n fJ:=by unfold h_;rw[if_pos h]
  rw[b];generalize jW n fJ=z at *;clear b;rcases h with rfl|rfl;all_goals
   go_enter func123,ntmps123
   go_wp2_with(go_at_call 174;refine(aA i).mono ?_;rintro e w1 ⟨rfl,d⟩)
   go_ret;exact⟨rfl,(aA f).trans (d.mono (by simp))⟩
 by_cases j:p=3∨p=5
 .have b:h_ p n c=iX c 10:=by unfold h_;rw[if_neg h,if_pos j]
  rw[b];have k:=aB (fun w=>aA g 10 (.inl rfl) w);generalize iX c 10=z at *;clear b g i;rcases j with rfl|rfl;all_goals
   go_enter func123,ntmps123
   go_wp2_with(go_at_call 175;refine(aA k _).mono ?_;rintro e w1 ⟨rfl,d⟩)
   go_ret;exact⟨rfl,(aA f).trans (d.mono (by simp))⟩
 by_cases l:p=4∨p=6
 .have b:h_ p n c=iX c 16:=by unfold h_;rw[if_neg h,if_neg j,if_pos l]
  rw[b];have k:=aB (fun w=>aA g 16 (.inr rfl) w);generalize iX c 16=z at *;clear b g i;rcases l with rfl|rfl;all_goals
   go_enter func123,ntmps123
   go_wp2_with(go_at_call 175;refine(aA k _).mono ?_;rintro e w1 ⟨rfl,d⟩)
   go_ret;exact⟨rfl,(aA f).trans (d.mono (by simp))⟩
 have b:h_ p n c=[]:=by unfold h_;rw[if_neg h,if_neg j,if_neg l]
 rw[b];have u:(p==1)=false:=by simp;omega
 have v:(p==2)=false:=by simp;omega
 have x:(p==3)=false:=by simp;omega
 have y:(p==4)=false:=by simp;omega
 have A:(p==5)=false:=by simp;omega
 have B:(p==6)=false:=by simp;omega
 clear b g i;go_enter func123,ntmps123
 go_wp2
 go_ret;exact⟨rfl,aA f⟩
theorem uF{w' :World}(h:aK w b s L)(c:Below w.heap.size w w'):aK w' b s L:=
 h.keep fun k a=>c.block k (by
  rcases a with rfl|a
  .exact h.lt
  exact(h.dF _ a).2)
theorem MS(h:aK w b s L)(u:s.am=false)(F:s.aC.length≤100000000)(N:s.token.length≤100000000):
 Calls Tryz.prog 216 #[.pointer (some ⟨b,0,none⟩)] w fun e w' =>e=.returned (.string ⟨(mG s).toArray⟩)∧Below w.heap.size w w' :=by
 obtain⟨g,j⟩:∃g,g=mG s:=⟨_,rfl⟩;rw[←j];have G:=h.cell;have O:=h.lt;have p:=lT (h.rows.own (bQ s L) (by simp[rowsOf]));have HA:=aB (fun w' (P:Below w.heap.size w w') x=>qz (uF h P) u F x);have d:=aB (qz h u F s.token);unfold cellsOf at G;clear h;unfold mG at j;cases e0:Pu s s.token
 .rw[e0]at j d;simp only[Bool.false_eq_true,if_false]at j;subst j;go_enter func216,ntmps216
  go_wp2_with(go_at_call 224;refine(aA d).mono ?_;rintro e w1 ⟨rfl,rfl⟩)
  go_ret;exact⟨rfl,Below.refl _ _⟩
 rw[e0]at j d;simp only[if_true]at j;have H:=aB j;clear j;go_enter func216,ntmps216
 go_wp2_with(go_at_call 224;refine(aA d).mono ?_;rintro e w1 ⟨rfl,Q⟩;obtain rfl:=Q.symm)
 clear p G d;go_loopw [4,5] (fun R s5 S=>∃(k:Nat) (B:Int),k≤58∧B=65+(k:Int)∧R=.int .u8 B∧Hid (g=oG s (58 - k) B)∧Below w.heap.size w S) (fun i _ _=>123 - (intOf i).toNat)
 case atStart=>exact⟨0,65,by omega,rfl,rfl,H,Below.refl _ _⟩
 case round=>
  obtain⟨k,B,hk,A,rfl,v,l⟩:=hrel;clear H;have C:=l.size;have n:=aB A;by_cases I:k<58
  .have T:decide (B≤122)=true:=by simp;omega
   have X:B≤122:=by omega
   obtain⟨m,Y⟩:∃m,58 - k=m+1:=⟨58 - k - 1,by omega⟩;have a:=aA v;rw[Y]at a;unfold oG at a;have p:=uW B (by omega) (by omega) wr.heap.size (wr.alloc (.cells #[.int .u8 B] 5)) (by simp[go_sem]);have q:Below w.heap.size w (wr.alloc (.cells #[.int .u8 B] 5)):=l.alloc C _;have f:=aB (dU B);have c:=aB (aA HA _ q (s.token++[Mk.u8 B]));obtain⟨nm,o⟩:∃nm,s.token++[Mk.u8 B]=nm:=⟨_,rfl⟩;rw[o]at c a;obtain⟨y,J⟩:∃y,Mk.u8 B=y:=⟨_,rfl⟩;rw[J]at p a o;have z:(⟨s.token.toArray⟩:ByteArray)++(⟨[y].toArray⟩:ByteArray)=⟨nm.toArray⟩:=by
    rw[←o];apply ByteArray.ext;simp
   have D:(⟨s.token.toArray⟩:ByteArray)++(⟨#[y]⟩:ByteArray)=⟨nm.toArray⟩:=z;have E:IntKind.u8.wrap (B+1)=B+1:=by rw[IntKind.wrap_u8];omega
   have r:=aB q;have Z:65≤B:=by omega
   clear o J q HA l A;cases K:Mk.gm B
   .rw[K]at f a;simp only[Bool.false_and,Bool.false_eq_true,if_false]at a;have t:=aB a;clear a v c;go_wp2_with(go_at_call 192;refine(aA f _).mono ?_;rintro e w1 ⟨rfl,rfl⟩)
    go_roundw
    case rel=>exact⟨k+1,B+1,by omega,by have:=aA n;omega,rfl,by have:=aA t;rw[show 58 - (k+1)=m by omega];exact this,aA r⟩
    case measure=>have:=aA n;simp[intOf];omega
   rw[K]at f a;cases M:Pu s nm
   .rw[M]at c a;simp only[Bool.not_false,Bool.and_self,if_true]at a;subst a;clear v;go_wp2_with first|(go_at_call 192;refine(aA f _).mono ?_;rintro e w1 ⟨rfl,rfl⟩)|(go_at_call 224;refine(aA c).mono ?_;rintro e w1 ⟨rfl,rfl⟩)
    go_ret;exact⟨rfl,aA r⟩
   rw[M]at c a;simp only[Bool.not_true,Bool.and_false,Bool.false_eq_true,if_false]at a;have t:=aB a;clear a v;go_wp2_with first|(go_at_call 192;refine(aA f _).mono ?_;rintro e w1 ⟨rfl,rfl⟩)|(go_at_call 224;refine(aA c).mono ?_;rintro e w1 ⟨rfl,rfl⟩)
   go_roundw
   case rel=>exact⟨k+1,B+1,by omega,by have:=aA n;omega,rfl,by have:=aA t;rw[show 58 - (k+1)=m by omega];exact this,aA r⟩
   case measure=>have:=aA n;simp[intOf];omega
  obtain rfl:k=58:=by omega
  have hr:g=[]:=aA v;subst hr;have T:decide (B≤122)=false:=by simp;omega
  clear A;go_wp2
  go_ret;exact⟨rfl,l⟩
theorem xX(a:Int)(w:World):Calls Tryz.prog 126 #[.int .i64 a] w fun e w' =>e=.returned (.bool (kU a))∧w' =w:=by
 go_enter func126,ntmps126
 go_wp2
 all_goals(go_ret;exact⟨Pq (by rw[Bool.eq_iff_iff];unfold kU;simp<;>try omega),rfl⟩)
theorem MU(a:Int)(w:World):Calls Tryz.prog 125 #[.int .i64 a] w fun e w' =>e=.returned (.bool (kV a))∧w' =w:=by
 go_enter func125,ntmps125
 go_wp2
 all_goals(go_ret;exact⟨Pq (by rw[Bool.eq_iff_iff];unfold kV;simp<;>try omega),rfl⟩)
theorem MV(h:aK w b s L)(m:Bd s)(p:0≤s.quote∧s.quote≤255):
 Calls Tryz.prog 178 #[.pointer (some ⟨b,0,none⟩)] w fun e w' =>e=.returned (.string ⟨(ia s).toArray⟩)∧Below w.heap.size w w' :=by
 have HA:=aB (MS h m.am (Nat.le_trans m.ha (by decide)) m.ht);have q:(mG s).length≤1:=by unfold mG;split;exact xW s 58 65;simp
 have j:=h.cell;have r:=h.lt;unfold cellsOf at j;clear h m;by_cases a:s.state=14
 .have d:ia s=mG s++[61,39,39,47,62]:=by unfold ia;rw[if_pos a]
  rw[d];generalize mG s=z at *;have k:(⟨z.toArray⟩:ByteArray)++(⟨#[61,39,39,47,62]⟩:ByteArray)=⟨(z++[61,39,39,47,62]).toArray⟩:=by apply ByteArray.ext;simp
  generalize t:z++[61,39,39,47,62]=v at *;clear t d;rw[a]at j;go_enter func178,ntmps178
  go_wp2_with(go_at_call 216;refine(aA HA).mono ?_;rintro e w1 ⟨rfl,n⟩)
  go_ret;exact⟨rfl,n⟩
 clear HA;by_cases c:s.state=15
 .have d:ia s=[61,39,39,47,62]:=by unfold ia;rw[if_neg a,if_pos c]
  rw[d];rw[c]at j;go_enter func178,ntmps178
  go_wp2
  go_ret;exact⟨rfl,Below.refl _ _⟩
 by_cases f:s.state=16
 .have d:ia s=[39,39,47,62]:=by unfold ia;rw[if_neg a,if_neg c,if_pos f]
  rw[d];rw[f]at j;go_enter func178,ntmps178
  go_wp2
  go_ret;exact⟨rfl,Below.refl _ _⟩
 by_cases g:s.state=17
 .have d:ia s=[Mk.u8 s.quote,47,62]:=by unfold ia;rw[if_neg a,if_neg c,if_neg f,if_pos g]
  rw[d];rw[g]at j;have u:=uW s.quote p.1 p.2 w.heap.size (w.alloc (.cells #[.int .u8 s.quote] 5)) (by simp[go_sem]);have l:Below w.heap.size w (w.alloc (.cells #[.int .u8 s.quote] 5)):=(Below.refl _ _).alloc (Nat.le_refl _) _;generalize Mk.u8 s.quote=y at *;have k:(⟨#[y]⟩:ByteArray)++(⟨#[47,62]⟩:ByteArray)=⟨[y,47,62].toArray⟩:=by apply ByteArray.ext;simp
  have o:=aB l;clear l d;go_enter func178,ntmps178
  go_wp2
  go_ret;exact⟨rfl,aA o⟩
 by_cases i:s.state=19
 .have d:ia s=[62]:=by unfold ia;rw[if_neg a,if_neg c,if_neg f,if_neg g,if_pos i]
  rw[d];rw[i]at j;go_enter func178,ntmps178
  go_wp2
  go_ret;exact⟨rfl,Below.refl _ _⟩
 have d:ia s=[47,62]:=by unfold ia;rw[if_neg a,if_neg c,if_neg f,if_neg g,if_neg i]
 rw[d];have x:(s.state==14)=false:=by simpa using a
 have A:(s.state==15)=false:=by simpa using c
 have B:(s.state==16)=false:=by simpa using f
 have C:(s.state==17)=false:=by simpa using g
 have D:(s.state==19)=false:=by simpa using i
 clear d;go_enter func178,ntmps178
 go_wp2
 go_ret;exact⟨rfl,Below.refl _ _⟩
theorem MW(h:aK w b s L)(m:Bd s):
 Calls Tryz.prog 179 #[.pointer (some ⟨b,0,none⟩)] w fun e w' =>e=.returned (.string ⟨(iY s).toArray⟩)∧Below w.heap.size w w' :=by
 have f:=aB (sJ (h.rows.own (bQ s L) (by simp[rowsOf])));have q:=m.hh;have d:=aB (fun w=>rB [63,62] s.held.length (by decide) (by omega) (by omega) w);have i:=h.cell;have o:=h.lt;have r:=aB h;unfold cellsOf at i;clear h m;have p:∀n,Below w.heap.size w (w.drewN n):=fun n=>⟨rfl,rfl,rfl,Nat.le_of_eq (by rw[heap_drewN]),fun _ _=>by rw[heap_drewN]⟩
 by_cases c:s.state=8
 .rw[c]at i;by_cases j:s.count=0
  .have a:iY s=[97,63,62]:=by unfold iY;rw[if_pos ⟨c,.inl j⟩]
   rw[a];rw[j]at i;clear a;go_enter func179,ntmps179
   go_wp2
   go_ret;exact⟨rfl,Below.refl _ _⟩
  have e0:(s.count==0)=false:=by simpa using j
  cases k:Mk.jq s.token
  .have a:iY s=Mk.behind [63,62] s.held.length:=by
    unfold iY;rw[if_neg (by rintro⟨-,g|g⟩;exact j g;rw[k]at g;cases g),if_neg (by omega)]
   rw[a];rw[k]at f;generalize Mk.behind [63,62] s.held.length=z at *;clear a;go_enter func179,ntmps179
   go_wp2_with first|(go_at_call 194;refine(aA f).mono ?_;rintro e w1 ⟨rfl,rfl⟩)|(go_at_call 176;refine(aA d _).mono ?_;rintro e w1 ⟨rfl,rfl⟩)
   go_ret;exact⟨rfl,Below.refl _ _⟩
  have a:iY s=[97,63,62]:=by unfold iY;rw[if_pos ⟨c,.inr k⟩]
  rw[a];rw[k]at f;clear a;go_enter func179,ntmps179
  go_wp2_with(go_at_call 194;refine(aA f).mono ?_;rintro e w1 ⟨rfl,rfl⟩)
  go_ret;exact⟨rfl,Below.refl _ _⟩
 by_cases l:s.state=9
 .have a:iY s=[62]:=by unfold iY;rw[if_neg (fun g=>c g.1),if_pos l]
  rw[a];rw[l]at i;clear a;go_enter func179,ntmps179
  go_wp2
  go_ret;exact⟨rfl,Below.refl _ _⟩
 have a:iY s=Mk.behind [63,62] s.held.length:=by unfold iY;rw[if_neg (fun g=>c g.1),if_neg l]
 rw[a];have t:(s.state==8)=false:=by simpa using c
 have u:(s.state==9)=false:=by simpa using l
 generalize Mk.behind [63,62] s.held.length=z at *;clear a;go_enter func179,ntmps179
 go_wp2_with(go_at_call 176;refine(aA d _).mono ?_;rintro e w1 ⟨rfl,rfl⟩)
 go_ret;exact⟨rfl,Below.refl _ _⟩
end Go.Proofs.YtmgfijllcdadgaaGreatDoor
