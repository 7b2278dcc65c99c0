import Derived.Test.YtmgfijllcdadgaaGreatDoorNW30
import Derived.Test.YtmgfijllcdadgaaGreatDoorNW16
import Derived.Test.YtmgfijllcdadgaaGreatDoorNW20
import Derived.Test.YtmgfijllcdadgaaGreatDoorNW29
import Derived.Test.YtmgfijllcdadgaaGreatDoorNW23
set_option linter.unusedVariables false
set_option linter.unusedSimpArgs false
set_option maxHeartbeats 8000000
set_option maxRecDepth 100000
namespace Go.Proofs.YtmgfijllcdadgaaGreatDoor.V
open Go.RowKit
open Mk (Bs Ev aD)
open Rf (R)
open Go.Proofs.Tryz
open Rf (gW f_ eG dZ jO aP eH cL dG fE cN fQ fF fR eZ j_ aX gK)
variable {e:Ev}{l out:List Ev}{t s:Bs}{r:R}{od oa ot:Int}{on:Bool}
def pW:List Ev→Nat
 |[]=>0
 |e::l=>e.val.length+pW l
structure Jn(lo up:Nat)(w wx:World)(v:Value)(es:List (Ev×Value)):Prop where
 row:wx.ownsRow w.heap.size 65 5 v es.length (bA es)
 jT:∀p∈es,cJ lo up w p.2 p.1.aC
 aU:Below w.heap.size w wx
theorem KJ(a:List (Ev×Value))(p:Ev×Value):bA (a++[p])=bA a++bP p.1 p.2:=by simp[bA]
theorem Jn.push{c d:Nat}{w e w' :World}{v:Value}{a:List (Ev×Value)}(h:Jn c d w e v a)(p:Ev×Value)(f:cJ c d w p.2 p.1.aC){o:Obj}{g cap:Nat}(hown:w'.ownsRow w.heap.size 65 5 (.slice (some ⟨g,0,none⟩) (a.length+1) cap) (a.length+1) (bA a++bP p.1 p.2))(i:(e.alloc o).grownBy w' v.ownBlock):
 Jn c d w w' (.slice (some ⟨g,0,none⟩) (a.length+1) cap) (a++[p]):=by
 refine⟨?_,?_,?_⟩
 .rw[KJ,List.length_append];exact hown
 .intro q b;rcases List.mem_append.1 b with b|b
  .exact h.jT q b
  rw[List.mem_singleton.1 b];exact f
 have j:=h.aU.size;exact(h.aU.alloc j o).grown i (by simp;omega) (fun k l=>(World.ownsRow.lt h.row k l).1)
theorem KL(h:(e.kind==3)=true):gW (e::l) t out=gW l (t++e.val) out:=by rw[gW,if_pos h]
theorem KM(h:(e.kind==3)=false):gW (e::l) [] out=gW l [] (out++[e]):=by rw[gW,if_neg (by rw[h];decide),if_pos rfl]
theorem KN(h:(e.kind==3)=false)(a:t≠[]):gW (e::l) t out=gW l [] (out++[⟨3,[],[],t,[]⟩]++[e]):=by rw[gW,if_neg (by rw[h];decide),if_neg a];simp
theorem BS(a b:Nat)(w:World):cJ a b w (.slice none 0 0) []:=⟨⟨none,0,rfl,fun k c=>by cases c⟩,by decide⟩
theorem eu(a b:Bs):(⟨a.toArray⟩:ByteArray)++⟨b.toArray⟩=⟨(a++b).toArray⟩:=by apply ByteArray.ext;simp[ByteArray.data_append]
theorem BU{lo up:Nat}{w:World}{v:Value}(h:bN lo up w v l)(hn:l.length≤1000000000)(hs:pW l≤1000000000000000000):
 Calls Tryz.prog 89 #[v] w fun e w' =>∃v' a,e=.returned v' ∧a.map (·.1)=Rf.joined l∧Jn lo up w w' v' a:=by
 obtain⟨i0,hi,F,G,H⟩:=info_parts oW;have HR:=aB h;obtain⟨a1,c1,z,-⟩:=h.form;subst z;obtain⟨d,A⟩:∃d,d=Rf.joined l:=⟨_,rfl⟩;rw[←A];have HF:=aB (show d=gW (l.drop 0) [] (([]:List (Ev×Value)).map (·.1))from A);clear h A;go_enter func89,ntmps89
 go_wp2_with fail
 go_loopg [3,4,5] l.length (fun g s3 s4 s5 wx=>∃(k:Nat) (t:Bs) (a:List (Ev×Value)),k≤l.length∧g=l.length - k∧s5=.int .i64 k∧s4=.string ⟨t.toArray⟩∧t.length+pW (l.drop k)≤1000000000000000000∧a.length≤2*k∧Hid (d=gW (l.drop k) t (a.map (·.1)))∧Hid (Jn lo up w wx s3 a))
 case atStart=>exact⟨0,[],[],by omega,rfl,rfl,rfl,by simpa using hs,Nat.le_refl _,HF,aB ⟨World.ownsRow_nil _ _ _ _,(fun p hp=>nomatch hp),Below.refl _ _⟩⟩
 case round=>
  obtain⟨k,t,a,hk,rfl,rfl,rfl,M,aj,I,N⟩:=hrel;have r:=aA N;obtain⟨a3,c3,rfl⟩:=b_ r.row;have ak:=r.aU.size;clear HF;by_cases a0:k<l.length
  .have e1:decide ((k:Int)<(l.length:Int))=true:=by simp;omega
   have hfin:=aA I;rw[List.drop_eq_getElem_cons a0]at hfin M;simp only[pW]at M;obtain⟨b1,d1,z,a2⟩:=(aA HR).form;injection z with z _ a6;subst z a6;obtain⟨K,o1,al,f1,O,q1,P⟩:=a2 k a0;subst f1;obtain⟨m,n,rfl,_⟩:=P.form;have Z:∀j,j<5→wr.cell? ⟨K,o1+k*5+j,none⟩=(bP l[k] (.slice m l[k].aC.length n))[j]?:=fun j a7=>by rw[fU (r.aU.block K O)];exact q1 j a7
   have am:K<wr.heap.size:=by omega
   have Q:=Z 0 (by decide);have R:=Z 1 (by decide);have S:=Z 2 (by decide);have T:=Z 3 (by decide);have X:=Z 4 (by decide);simp[bP]at Q R S T X;have Y:=aB P;clear q1 Z a2 P I;generalize l[k]=x at *;obtain⟨o,s,u,f,b⟩:=x;simp only at Q R S T X M Y;cases e3:(o==3)with
   |true=>
    rw[KL e3]at hfin;have c:=aB hfin;have af:¬9223372036854775807<t.length+f.length:=by omega
    clear hfin r;go_wp2_with fail
    go_roundg (l.length - (k+1))
    case measure=>omega
    case rel=>exact⟨k+1,t++f,a,by omega,rfl,by simp,by simp[eu],by rw[List.length_append];omega,by omega,c,N⟩
   |false=>
    by_cases J:t=[]
    .subst J;rw[KM e3]at hfin;have c:=aB (show d=gW (l.drop (k+1)) [] ((a++[((⟨o,s,u,f,b⟩:Ev),Value.slice m b.length n)]).map (·.1)) by rw[hfin];simp);have HO:=aB (World.ownsRow.alloc (r.row) (.cells #[.int .i64 o,.string ⟨s.toArray⟩,.string ⟨u.toArray⟩,.string ⟨f.toArray⟩,(.slice m b.length n)] 65));have HB:=aB (show(wr.alloc (.cells #[.int .i64 o,.string ⟨s.toArray⟩,.string ⟨u.toArray⟩,.string ⟨f.toArray⟩,(.slice m b.length n)] 65)).heap[wr.heap.size]?=_ from heap_alloc_new wr _);have B:=aB (show a.length+1≤maxLen by unfold maxLen;omega);have C:=aB (show w.heap.size≤(wr.alloc (.cells #[.int .i64 o,.string ⟨s.toArray⟩,.string ⟨u.toArray⟩,.string ⟨f.toArray⟩,(.slice m b.length n)] 65)).heap.size by have:=r.aU.size;simp;omega);clear hfin r;go_wp2_with(at_builtin;refine wpList_append_lies _ rfl _ _ 29 rfl w.heap.size 65 i0 _ 5 80 underlying29 hi F G H rfl (by decide) (.slice a3 a.length c3) a.length (bA a) (by simp[Act.eval]) (aA HO) ⟨wr.heap.size,0,none⟩ 1 1 (bP ⟨o,s,u,f,b⟩ (.slice m b.length n)) (by simp[Act.eval]) rfl (World.news_of_block (aA HB)) (mK _ _ _ _) (by decide) (aA B) (by omega) (aA C) (wr.heap.size+1) (by simp) ?_;intro g2 cap w2 hown hgrow q L;have y:=aB ((aA N).push (⟨o,s,u,f,b⟩,.slice m b.length n) (aA Y) hown hgrow);clear hown hgrow q)
     go_roundg (l.length - (k+1))
     case measure=>omega
     case rel=>exact⟨k+1,[],a++[(⟨o,s,u,f,b⟩,.slice m b.length n)],by omega,rfl,by simp,rfl,by simp only[List.length_nil];omega,by rw[List.length_append];simp only[List.length_cons,List.length_nil];omega,c,y⟩
    rw[KN e3 J]at hfin;have c:=aB (show d=gW (l.drop (k+1)) [] ((a++[((⟨3,[],[],t,[]⟩:Ev),Value.slice none 0 0)]++[((⟨o,s,u,f,b⟩:Ev),Value.slice m b.length n)]).map (·.1)) by rw[hfin];simp);have a8:(t==[])=false:=by simpa using J
    have a9:0<t.length:=List.length_pos_iff.2 J;have HO:=aB (World.ownsRow.alloc (r.row) (.cells #[.int .i64 3,.string ⟨([]:Bs).toArray⟩,.string ⟨([]:Bs).toArray⟩,.string ⟨t.toArray⟩,(.slice none 0 0)] 65));have HB:=aB (show(wr.alloc (.cells #[.int .i64 3,.string ⟨([]:Bs).toArray⟩,.string ⟨([]:Bs).toArray⟩,.string ⟨t.toArray⟩,(.slice none 0 0)] 65)).heap[wr.heap.size]?=_ from heap_alloc_new wr _);have B:=aB (show a.length+1≤maxLen by unfold maxLen;omega);have C:=aB (show w.heap.size≤(wr.alloc (.cells #[.int .i64 3,.string ⟨([]:Bs).toArray⟩,.string ⟨([]:Bs).toArray⟩,.string ⟨t.toArray⟩,(.slice none 0 0)] 65)).heap.size by have:=r.aU.size;simp;omega);clear hfin r
    go_wp2_with(first
     |(at_builtin;refine wpList_append_lies _ rfl _ _ 29 rfl w.heap.size 65 i0 _ 5 80 underlying29 hi F G H rfl (by decide) (.slice a3 a.length c3) a.length (bA a) (by simp[Act.eval]) (aA HO) ⟨wr.heap.size,0,none⟩ 1 1 (bP ⟨3,[],[],t,[]⟩ (.slice none 0 0)) (by simp[Act.eval]) rfl (World.news_of_block (aA HB)) (mK _ _ _ _) (by decide) (aA B) (by omega) (aA C) (wr.heap.size+1) (by simp) ?_;intro g2 cap w2 hown hgrow q L;have y:=aB ((aA N).push (⟨3,[],[],t,[]⟩,.slice none 0 0) (BS _ _ w) hown hgrow);have D:=aA y;have ag:K<w2.heap.size:=(by have:=D.aU.size;omega);have E:∀i,w2.cell? ⟨K,i,none⟩=wr.cell? ⟨K,i,none⟩:=(fun i=>by rw[fU (D.aU.block K O),fU ((aA N).aU.block K O)]);have ab:=aB (World.ownsRow.alloc (show w2.ownsRow w.heap.size 65 5 (.slice (some ⟨g2,0,none⟩) (a.length+1) cap) (a.length+1) (bA (a++[((⟨3,[],[],t,[]⟩:Ev),Value.slice none 0 0)]))from by have h9:=D.row;rw[List.length_append]at h9;exact h9) (.cells #[.int .i64 o,.string ⟨s.toArray⟩,.string ⟨u.toArray⟩,.string ⟨f.toArray⟩,(.slice m b.length n)] 65));have ad:=aB (show(w2.alloc (.cells #[.int .i64 o,.string ⟨s.toArray⟩,.string ⟨u.toArray⟩,.string ⟨f.toArray⟩,(.slice m b.length n)] 65)).heap[w2.heap.size]?=_ from heap_alloc_new w2 _);have a4:=aB (show a.length+1+1≤maxLen by unfold maxLen;omega);have a5:=aB (show w.heap.size≤(w2.alloc (.cells #[.int .i64 o,.string ⟨s.toArray⟩,.string ⟨u.toArray⟩,.string ⟨f.toArray⟩,(.slice m b.length n)] 65)).heap.size by have:=D.aU.size;simp;omega);have an:=(E _).trans Q;have ao:=(E _).trans R;have ap:=(E _).trans S;have aq:=(E _).trans T;have ar:=(E _).trans X;clear hown hgrow q D)
     |(at_builtin;refine wpList_append_lies _ rfl _ _ 29 rfl w.heap.size 65 i0 _ 5 80 underlying29 hi F G H rfl (by decide) (.slice (some ⟨g2,0,none⟩) (a.length+1) cap) (a.length+1) (bA (a++[((⟨3,[],[],t,[]⟩:Ev),Value.slice none 0 0)])) (by simp[Act.eval]) (aA ab) ⟨w2.heap.size,0,none⟩ 1 1 (bP ⟨o,s,u,f,b⟩ (.slice m b.length n)) (by simp[Act.eval]) rfl (World.news_of_block (aA ad)) (mK _ _ _ _) (by decide) (aA a4) (by omega) (aA a5) (w2.heap.size+1) (by simp) ?_;intro g3 ah w3 hown hgrow q ai;have ae:=aB ((aA y).push (⟨o,s,u,f,b⟩,.slice m b.length n) (aA Y) (by simpa using hown) (by simpa using hgrow));clear hown hgrow q))
    go_roundg (l.length - (k+1))
    case measure=>omega
    case rel=>exact⟨k+1,[],a++[(⟨3,[],[],t,[]⟩,.slice none 0 0)]++[(⟨o,s,u,f,b⟩,.slice m b.length n)],by omega,rfl,by simp,rfl,by simp only[List.length_nil];omega,by simp only[List.length_append,List.length_cons,List.length_nil];omega,c,by simpa using ae⟩
  have e1:decide ((k:Int)<(l.length:Int))=false:=by simp;omega
  have hfin:=aA I;rw[List.drop_of_length_le (by omega)]at hfin;clear I HR;by_cases J:t=[]
  .subst J;have c:=aB (show a.map (·.1)=d from hfin.symm);clear hfin r;go_wp2_with fail
   go_ret;exact⟨_,a,rfl,aA c,aA N⟩
  have c:=aB (show(a++[((⟨3,[],[],t,[]⟩:Ev),Value.slice none 0 0)]).map (·.1)=d by rw[hfin,gW,if_neg J];simp);have a8:(t==[])=false:=by simpa using J
  have a9:0<t.length:=List.length_pos_iff.2 J;have HO:=aB (World.ownsRow.alloc (r.row) (.cells #[.int .i64 3,.string ⟨([]:Bs).toArray⟩,.string ⟨([]:Bs).toArray⟩,.string ⟨t.toArray⟩,(.slice none 0 0)] 65));have HB:=aB (show(wr.alloc (.cells #[.int .i64 3,.string ⟨([]:Bs).toArray⟩,.string ⟨([]:Bs).toArray⟩,.string ⟨t.toArray⟩,(.slice none 0 0)] 65)).heap[wr.heap.size]?=_ from heap_alloc_new wr _);have B:=aB (show a.length+1≤maxLen by unfold maxLen;omega);have C:=aB (show w.heap.size≤(wr.alloc (.cells #[.int .i64 3,.string ⟨([]:Bs).toArray⟩,.string ⟨([]:Bs).toArray⟩,.string ⟨t.toArray⟩,(.slice none 0 0)] 65)).heap.size by have:=r.aU.size;simp;omega);clear hfin r;go_wp2_with(at_builtin;refine wpList_append_lies _ rfl _ _ 29 rfl w.heap.size 65 i0 _ 5 80 underlying29 hi F G H rfl (by decide) (.slice a3 a.length c3) a.length (bA a) (by simp[Act.eval]) (aA HO) ⟨wr.heap.size,0,none⟩ 1 1 (bP ⟨3,[],[],t,[]⟩ (.slice none 0 0)) (by simp[Act.eval]) rfl (World.news_of_block (aA HB)) (mK _ _ _ _) (by decide) (aA B) (by omega) (aA C) (wr.heap.size+1) (by simp) ?_;intro g2 cap w2 hown hgrow q L;have y:=aB ((aA N).push (⟨3,[],[],t,[]⟩,.slice none 0 0) (BS _ _ w) hown hgrow);clear hown hgrow q)
  go_ret;exact⟨_,_,rfl,aA c,aA y⟩
def Ve(r:R):Prop:=∀e∈r.events,e.val.length≤200000000
def Va(l:List aD):Prop:=∀a∈l,a.val.length≤200000000
theorem Ve.tell{r:R}(h:Ve r)(e:Ev)(b:e.val.length≤200000000):Ve (Rf.tell r e):=fun x a=>by
 rcases List.mem_append.1 a with a|a
 .exact h x a
 rw[List.mem_singleton.1 a];exact b
theorem lG(h:Ve r)(c:Int):Ve (Rf.must r c).1:=by
 unfold Rf.must;split
 .split<;>exact h
 exact h
theorem xw(h:Ve r):Ve (Rf.word r).1:=by
 unfold Rf.word;simp only;split
 .exact h
 unfold Rf.ends;split<;>exact h
theorem qZ(h:Ve r)(i:Nat):Ve (Rf.beyond r i):=by
 unfold Rf.beyond;split<;>exact h
theorem BV{r:R}(h:Ve r):∀(f k:Nat),Ve (f_ r f k).1
 |0,k=>h
 |f+1,k=>by
  rw[f_];split
  .simp only;split
   .exact h
   split
   .exact h
   exact BV h f (k+1)
  exact h
theorem PK(h:Ve r):Ve (Rf.character r).1:=by
 unfold Rf.character;simp only;split
 .split<;>exact h
 exact BV h _ _
theorem xA:∀(f:Nat) (r:R) (t:Bs) (c:Int),Ve r→r.at_≤r.s.length→r.s.length≤100000000→t.length≤r.at_→Ve (eG f r t c).1
 |0,r,t,c,h,_,_,_=>h
 |f+1,r,t,c,h,j,a,l=>by
  rw[eG];split
  .rename_i e;split
   .split
    ·(dsimp only;exact qZ h _)
    simp only;split
    .rename_i g;obtain⟨k,m,g2,i,n⟩:=(gX e).2 g;have b:(Rf.character r).1.s=r.s:=by rw[g2]
     have d:(Rf.character r).1.at_=r.at_+k:=by rw[g2]
     exact xA f _ _ _ (PK h) (by rw[b,d];exact i) (by rw[b];exact a) (by rw[List.length_append,d];omega)
    exact PK h
   split
   .exact h
   split
   .split
    .exact h
    exact Ve.tell h _ (by show t.length≤_;omega)
   split
   ·(dsimp only;exact qZ h _)
   exact xA f {r with at_:=r.at_+1} _ _ h (by show r.at_+1≤r.s.length;omega) a (by rw[List.length_append];show t.length+1≤r.at_+1;omega)
  exact h
theorem BW(h:Ve r)(b:r.at_≤r.s.length)(c:r.s.length≤100000000):Ve (Rf.comment r).1:=by
 unfold Rf.comment;simp only;have a:=fS b 45;split
 .exact xA _ _ _ _ (lG h 45) a.1.le (by rw[a.1.s];exact c) (Nat.zero_le _)
 exact lG h 45
theorem BX(nm:Bs):∀(f:Nat) (r:R) (t:Bs) (c:Int),Ve r→r.at_≤r.s.length→r.s.length≤100000000→t.length≤r.at_→Ve (dZ nm f r t c).1
 |0,r,t,c,h,_,_,_=>h
 |f+1,r,t,c,h,j,d,l=>by
  rw[dZ];split
  .rename_i e;split
   .exact h
   split
   .exact Ve.tell h _ (by show t.length≤_;omega)
   split
   ·(dsimp only;exact qZ h _)
   split
   ·(dsimp only;exact qZ h _)
   simp only;split
   .rename_i g;obtain⟨k,m,g2,i,n⟩:=(gX e).2 g;have a:(Rf.character r).1.s=r.s:=by rw[g2]
    have b:(Rf.character r).1.at_=r.at_+k:=by rw[g2]
    exact BX nm f _ _ _ (PK h) (by rw[a,b];exact i) (by rw[a];exact d) (by rw[List.length_append,b];omega)
   exact PK h
  exact h
theorem BZ(h:Ve r)(e:r.at_≤r.s.length)(f:r.s.length≤100000000)(g:0≤r.ot):Ve (jO r).1:=by
 unfold jO;split
 .split
  .exact h
  simp only;have a:=xw h;have b:=jR e g;generalize Rf.word r=w at *;split
  .exact a
  split
  .exact a
  split
  .exact a
  split
  .exact a
  split
  .have c:=lG (r:={w.1 with at_:=w.1.at_+1}) a 62;split
   .exact c.tell _ (Nat.zero_le _)
   exact c
  have d:=gb b.le;exact BX _ _ (aP w.1) [] 0 a d.le (by rw[d.s,b.s];exact f) (Nat.zero_le _)
 exact h
theorem Qp(a:Bool):∀(f:Nat) (r:R),Ve r→r.at_≤r.s.length→r.s.length≤100000000→0≤r.ot→Ve (eH a f r).1
 |0,r,h,_,_,_=>h
 |f+1,r,h,m,n,o=>by
  rw[wK];have i:=BH (gb m) a;have t:=i.le;have c:Ve (jg a (aP r)):=h;have j:0≤(jg a (aP r)).ot:=by rw[i.ot];exact o
  have k:(jg a (aP r)).s.length≤100000000:=by rw[i.s];exact n
  generalize jg a (aP r)=q at *;have p:∀x:R×Bool,Kp q x.1→Ve x.1→Ve (if x.2 then eH a f x.1 else(x.1,false)).1:=by
   intro x l e;split
   .exact Qp a f x.1 e l.le (by rw[l.s];exact k) (by rw[l.ot];exact j)
   exact e
  unfold tP;split
  .rename_i u;split
   .exact c
   split
   .exact c
   split
   .exact c
   simp only;have b:Kp q {q with at_:=q.at_+2}:=.to (by omega) (by omega);refine p _ ?_ ?_
   .split
    .exact b.trans (tO b.le j)
    have d:=fS (r:={q with at_:=q.at_+2}) b.le 45;split
    .exact b.trans (d.1.trans (tN d.1.le))
    exact b.trans d.1
   split
   .exact BZ c b.le k j
   have d:=fS (r:={q with at_:=q.at_+2}) b.le 45;have g:=lG (r:={q with at_:=q.at_+2}) c 45;split
   .exact BW g d.1.le (by rw[d.1.s];exact k)
   exact g
  exact c
theorem Qq(a:Bool)(h:Ve r)(b:r.at_≤r.s.length)(c:r.s.length≤100000000)(d:0≤r.ot):Ve (cL a r).1:=Qp a _ r h b c d
theorem xB(base:Int)(first:Nat):∀(f:Nat) (r:R) (n:Int),Ve r→Ve (dG base first f r n).1
 |0,r,n,h=>h
 |f+1,r,n,h=>by
  rw[dG];split
  .simp only;split
   .split<;>exact h
   split
   .exact h
   exact xB base first f _ _ h
  exact h
theorem KO(h:Ve r):Ve (Rf.number r).1:=by
 unfold Rf.number;simp only;split
 .exact xB _ _ _ _ _ h
 exact xB _ _ _ _ _ h
theorem B_(fr:Nat):∀(f:Nat) (r:R),Ve r→Ve (fE fr f r).1
 |0,r,h=>h
 |f+1,r,h=>by
  rw[fE];split
  .split
   .exact KO h
   split
   .exact h
   .exact B_ fr f _ h
   exact h
  exact h
theorem xC(h:Ve r):Ve (Rf.reference r).1:=B_ _ _ _ h
theorem Ca(q:Int):∀(f:Nat) (r:R) (t:Bs) (c:Int),Ve r→r.at_≤r.s.length→r.s.length≤100000000→t.length≤2*r.at_→Ve (cN q f r t c).1∧(cN q f r t c).2.1.length≤200000000
 |0,r,t,c,h,_,_,_=>⟨h,Nat.zero_le _⟩
 |f+1,r,t,c,h,o,j,p=>by
  rw[cN];split
  .rename_i i;simp only;split
   .exact⟨h,by show t.length≤_;omega⟩
   split
   .exact⟨h,Nat.zero_le _⟩
   split
   ·(dsimp only;exact⟨qZ h _,Nat.zero_le _⟩)
   have g:∀x:R×Bs×Bool,x=(if r.byte r.at_==38 then Rf.reference r else((Rf.character r).1,if(Rf.character r).2.1=[10]∨(Rf.character r).2.1=[9]then[32]else(Rf.character r).2.1,(Rf.character r).2.2))→Ve x.1∧(x.2.2=true→x.1.s=r.s∧x.1.at_≤r.s.length∧x.2.1.length+2*r.at_≤2*x.1.at_):=by
    intro x g;subst g;split
    .refine⟨xC h,fun e=>?_⟩;obtain⟨k,b,g2,d,l⟩:=(PD i).2 e;rw[d];exact⟨rfl,g2,by show _+2*r.at_≤2*k;omega⟩
    refine⟨PK h,fun e=>?_⟩;obtain⟨k,b,g2,d,l⟩:=(gX i).2 e;refine⟨by show(Rf.character r).1.s=_;rw[g2],by show(Rf.character r).1.at_≤_;rw[g2];exact d,?_⟩;have m:(Rf.character r).1.at_=r.at_+k:=by rw[g2]
    show(if(Rf.character r).2.1=[10]∨(Rf.character r).2.1=[9]then[32]else(Rf.character r).2.1:Bs).length+2*r.at_≤2* (Rf.character r).1.at_;rw[m];split
    .simp only[List.length_cons,List.length_nil];omega
    omega
   generalize u:(if r.byte r.at_==38 then Rf.reference r else((Rf.character r).1,if(Rf.character r).2.1=[10]∨(Rf.character r).2.1=[9]then[32]else(Rf.character r).2.1,(Rf.character r).2.2))=x at *;have a:=g x rfl;split
   .rename_i n;obtain⟨b,g2,d⟩:=a.2 n;exact Ca q f x.1 _ _ a.1 (by rw[b];exact g2) (by rw[b];exact j) (by rw[List.length_append];omega)
   exact⟨a.1,Nat.zero_le _⟩
  exact⟨h,Nat.zero_le _⟩
theorem KP(h:Ve r)(b:r.at_<r.s.length)(a:r.s.length≤100000000):Ve (Rf.value r).1∧(Rf.value r).2.1.length≤200000000:=by
 unfold Rf.value;simp only;split
 .exact⟨h,Nat.zero_le _⟩
 exact Ca _ _ {r with at_:=r.at_+1} [] 0 h (by show r.at_+1≤r.s.length;omega) a (Nat.zero_le _)
theorem KQ(h:Ve r)(a:List aD):Ve (Rf.attrName r a).1:=by
 unfold Rf.attrName;simp only;split
 .exact h
 have b:=xw h;generalize Rf.word r=w at *;split
 .exact b
 split
 .exact b
 split
 .exact b
 have c:=lG (r:=aP w.1) b 61;generalize Rf.must (aP w.1) 61=m at *;split
 .exact c
 unfold Rf.ends;split
 .split<;>exact c
 split<;>exact c
theorem Cb:∀(f:Nat) (r:R) (c:List aD),Ve r→Va c→r.at_≤r.s.length→1≤r.ot→r.s.length≤100000000→Ve (fQ f r c).1∧Va (fQ f r c).2.1
 |0,r,c,h,_,_,_,_=>⟨h,fun a d=>nomatch d⟩
 |f+1,r,c,h,d,t,u,v=>by
  rw[qQ];have m:=gb t;have w:=m.le;have j:Ve (aP r):=h;have n:1≤(aP r).ot:=by rw[m.ot];exact u
  have o:(aP r).s.length≤100000000:=by rw[m.s];exact v
  generalize aP r=q at *;unfold nU;split
  .split
   .exact⟨j,d⟩
   split
   .exact⟨j,fun a d=>nomatch d⟩
   split
   .exact⟨j,fun a d=>nomatch d⟩
   have p:=KQ j c;have e:=qO w n c;split
   .rename_i y;obtain⟨A,z,B⟩:=e.2 y;generalize Rf.attrName q c=x at *;have k:x.1.at_<x.1.s.length:=by rw[e.1.s];exact z
    have g:=KP p k (by rw[e.1.s];exact o);have i:=e.1.trans (qP k);split
    .refine Cb f (Rf.value x.1).1 _ g.1 ?_ i.le (by rw[i.ot];exact n) (by rw[i.s];exact o);intro b l;rcases List.mem_append.1 l with l|l
     .exact d b l
     rw[List.mem_singleton.1 l];exact g.2
    exact⟨g.1,fun a d=>nomatch d⟩
   exact⟨p,fun a d=>nomatch d⟩
  exact⟨j,fun a d=>nomatch d⟩
theorem KR(h:Ve r)(b:r.at_≤r.s.length)(c:1≤r.ot)(d:r.s.length≤100000000):Ve (Rf.attributes r).1∧Va (Rf.attributes r).2.1:=Cb _ r [] h (fun a e=>nomatch e) b c d
theorem xD:∀(l:Bs) (r:R),Ve r→Ve (Rf.gu l r).1
 |[],r,h=>h
 |x::l,r,h=>by
  rw[tQ];split
  .exact xD l _ (lG h _)
  exact lG h _
theorem Cc(h:Ve r)(a:r.at_<r.s.length)(b:r.s.length≤100000000)(e:(Rf.character r).2.2=true):Ve (Rf.text (Rf.character r).1 (Rf.character r).2.1):=by
 obtain⟨k,c,g2,d,f⟩:=(gX a).2 e;exact(PK h).tell _ (by show(Rf.character r).2.1.length≤_;omega)
theorem KS(h:Ve r)(a:r.at_<r.s.length)(e:(Rf.reference r).2.2=true):Ve (Rf.text (Rf.reference r).1 (Rf.reference r).2.1):=by
 obtain⟨k,b,g2,c,d⟩:=(PD a).2 e;exact(xC h).tell _ (by show(Rf.reference r).2.1.length≤_;omega)
theorem Ce:∀(f:Nat) (r:R),Ve r→r.at_≤r.s.length→r.s.length≤100000000→Ve (fF f r).1
 |0,r,h,_,_=>h
 |f+1,r,h,e,a=>by
  rw[fF];split
  .rename_i b;simp only;split
   .exact h
   split
   .exact h
   split
   .rename_i c;have d:=(pN b c).1;exact Ce f _ (Cc h b a c) d.le (by rw[d.s];exact a)
   exact PK h
  exact h
theorem KT(h:Ve r)(b:r.at_≤r.s.length)(c:r.s.length≤100000000):Ve (Rf.lC r).1:=by
 rw[wM];have a:=(wO fG r b).1;split
 .exact Ce _ _ (xD _ _ h) a.le (by rw[a.s];exact c)
 exact xD _ _ h
theorem Cf:∀(l:Bs) (r:R),Ve r→Ve (fR l r).1
 |[],r,h=>h
 |x::l,r,h=>by
  rw[fR];split
  .split
   .exact h
   exact Cf l _ h
  exact h
theorem Cg(h:Ve r)(nm:Bs):Ve (eZ r nm).1:=by
 unfold eZ;simp only;have a:=Cf nm {r with at_:=r.at_+2} h;generalize fR nm {r with at_:=r.at_+2}=x at *;split
 .exact a
 split
 .exact a
 exact lG (r:=aP x.1) a 62
theorem Ci(h:Ve r)(g:r.at_+2≤r.s.length)(b:r.s.length≤100000000)(f:0≤r.ot)(c:Int):Ve (j_ r c).1:=by
 have d:Kp r {r with at_:=r.at_+2}:=.to (by omega) (by omega);unfold j_;split
 .exact BZ (r:={r with at_:=r.at_+2}) h d.le b f
 split
 .exact h
 simp only;split
 .split
  .have e:=fS (r:={r with at_:=r.at_+2}) d.le 45;have a:=lG (r:={r with at_:=r.at_+2}) h 45;split
   .exact BW a e.1.le (by rw[e.1.s];exact b)
   exact a
  exact KT (r:={r with at_:=r.at_+2}) h d.le b
 exact h
theorem xE(s:R):∀(l:List aD) (q:R) (told:List aD),Va l→Ve q→Ve (Rf.fK s l q told).1
 |[],q,told,_,h=>h
 |a::l,q,told,c,h=>by
  rw[Qo];have d:Va l:=fun b e=>c b (List.mem_cons_of_mem _ e)
  split
  .exact xE s l _ _ d (h.tell _ (c a List.mem_cons_self))
  exact xE s l _ _ d h
theorem Cj(h:Ve r)(nm:Bs){a:List aD}(b:Va a):Ve (aX r nm a):=by
 unfold aX Rf.started;dsimp only;refine Ve.tell (xE _ a {r with opn:=r.opn++[nm],tags:=r.tags++[a]} [] b h) _ ?_;exact Nat.zero_le _
theorem Ck:∀(l:List aD) (q:R),Ve q→Ve (Rf.endGo l q)
 |[],q,h=>h
 |a::l,q,h=>by
  rw[Rf.endGo];refine Ck l _ ?_;split
  .exact h.tell _ (Nat.zero_le _)
  exact h
theorem Cm(h:Ve r)(nm:Bs)(a:List aD):Ve (gK r nm a):=by
 unfold gK Rf.ended;simp only;have b:=h.tell ⟨2,nm,Rf.kI r nm,[],[]⟩ (Nat.zero_le _);split
 .exact Ck _ _ b
 exact b
theorem KU(f:Nat)(A:∀(r:R) (run:Nat),Ve r→r.at_≤r.s.length→1≤r.ot→r.s.length≤100000000→Ve (Rf.content f r run).1)(r:R)(z:Ve r)(h:r.at_<r.s.length)(n:1≤r.ot)(e:r.s.length≤100000000):Ve (Rf.element (f+1) r).1:=by
 rw[nX];have p:Kp r {r with at_:=r.at_+1}:=.to (by omega) (by omega);unfold PF;split
 .exact z
 have t:Ve {r with at_:=r.at_+1}:=z;generalize B:({r with at_:=r.at_+1}:R)=q at *;have g:=p.trans (jR (r:=q) p.le (by rw[p.ot];omega));have j:=xw t;cases C:(Rf.word q).2.2 with
 |false=>rw[if_neg (by decide)];exact j
 |true=>
  rw[if_pos rfl];have c:=KR j g.le (by rw[g.ot];exact n) (by rw[g.s];exact e);generalize D:Rf.attributes (Rf.word q).1=x at *;cases E:x.2.2 with
  |false=>rw[if_neg (by decide)];exact c.1
  |true=>
   rw[if_pos rfl];have l:=nY (nm:=(Rf.word q).2.1) h n e B.symm (by rw[←C]) D E;generalize(Rf.word q).2.1=nm at *;obtain⟨a,b,o⟩:=x;simp only at l c⊢;have F:a.at_<a.s.length:=by rw[l.kp.s];exact l.at_
   have i:Kp r {a with at_:=a.at_+1}:=l.kp.trans (.to (by omega) (by omega));unfold PE;split
   .exact c.1
   split
   .have d:=lG (r:={a with at_:=a.at_+1}) c.1 62;split
    .exact Cm (Cj d nm c.2) nm b
    exact d
   have d:Ve {a with at_:=a.at_+1}:=c.1;generalize G:({a with at_:=a.at_+1}:R)=m at *;have u:=l_ m nm b;have k:(aX m nm b).s=r.s:=by rw[u.1];exact i.s
   have v:(aX m nm b).at_=m.at_:=by rw[u.1]
   have w:(aX m nm b).ot=r.ot:=by rw[u.1];exact i.ot
   have y:=A (aX m nm b) (aX m nm b).at_ (Cj d nm c.2) (by rw[k,v];exact i.len) (by rw[w];exact n) (by rw[k];exact e);unfold nW;split
   .split
    .exact Cm (Cg y nm) nm b
    exact Cg y nm
   exact y
theorem KV(f:Nat)(l:∀(r:R),Ve r→r.at_<r.s.length→1≤r.ot→r.s.length≤100000000→Ve (Rf.element f r).1)(m:∀(r:R) (run:Nat),Ve r→r.at_≤r.s.length→1≤r.ot→r.s.length≤100000000→Ve (Rf.content f r run).1)
 (r:R) (run:Nat) (b:Ve r) (h:r.at_≤r.s.length) (e:1≤r.ot) (a:r.s.length≤100000000):Ve (Rf.content (f+1) r run).1:=by
 have g:∀(q:R) (k:Nat),Ve q→Kp r q→Ve (Rf.content f q k).1:=fun q k i j=>
  m q k i j.le (by rw[j.ot];exact e) (by rw[j.s];exact a)
 rw[Rf.content];split
 .rename_i c;simp only;split
  .split
   .exact b
   rename_i o;split
   .exact b
   split
   .split
    .rename_i n;exact g _ _ (l r b c e a) ((jS f).1 r c e a n).1
    exact l r b c e a
   split
   .exact g _ _ (Ci b (by omega) a (by omega) _) (qT (r:=r) (by omega) (by omega) _).1
   exact Ci b (by omega) a (by omega) _
  split
  .split
   .rename_i d;exact g _ _ (KS b c d) (tT c d).1
   exact xC b
  split
  .exact b
  split
  .rename_i d;exact g _ _ (Cc b c a d) (pN c d).1
  exact PK b
 exact b
theorem t_:∀(f:Nat),(∀(r:R),Ve r→r.at_<r.s.length→1≤r.ot→r.s.length≤100000000→Ve (Rf.element f r).1)∧(∀(r:R) (run:Nat),Ve r→r.at_≤r.s.length→1≤r.ot→r.s.length≤100000000→Ve (Rf.content f r run).1)
 |0=>⟨fun r a _ _ _=>(by rw[Rf.element];exact a),fun r run a _ _ _=>(by rw[Rf.content];exact a)⟩
 |f+1=>⟨KU f (t_ f).2,KV f (t_ f).1 (t_ f).2⟩
theorem KW(r:R)(j:Ve r)(h:r.at_≤r.s.length)(k:1≤r.ot)(a:r.s.length≤100000000):Ve (Rf.document r):=by
 rw[wW];have c:=qV false h (by omega);have b:=Qq false j h a (by omega);split
 .rename_i l;have n:=c.2 l;unfold pO;generalize(cL false r).1=m at *;have o:m.at_+1<m.s.length:=by rw[c.1.s];exact n
  have d:1≤m.ot:=by rw[c.1.ot];exact k
  have e:m.s.length≤100000000:=by rw[c.1.s];exact a
  split
  .have f:=(t_ (2*r.s.length+2)).1 m b (by omega) d e;split
   .rename_i p;have g:=c.1.trans ((jS _).1 m (by omega) d e p).1;have i:=Qq true f g.le (by rw[g.s];exact a) (by rw[g.ot];omega);unfold qW;split<;>exact i
   exact f
  exact b
 exact b
theorem xG:∀(l:List Ev) (n:Nat),(∀e∈l,e.val.length≤n)→pW l≤l.length*n
 |[],n,_=>Nat.zero_le _
 |e::l,n,h=>by
  have b:=h e List.mem_cons_self;have c:=xG l n fun x a=>h x (List.mem_cons_of_mem _ a)
  rw[List.length_cons,Nat.succ_mul];unfold pW;omega
theorem xH(m:8≤ot)(b:s.length≤100000000):(Rf.read od oa ot on s).events.length≤400000000∧∀e∈(Rf.read od oa ot on s).events,e.val.length≤200000000:=by
 have h:∀tx:Bs,tx.length≤100000000→(Rf.document (Rf.start od oa ot on tx)).events.length≤400000000∧Ve (Rf.document (Rf.start od oa ot on tx)):=by
  intro tx a;have c:=wX (Rf.start od oa ot on tx) (Nat.zero_le _) (by show 1≤ot;omega) a;have d:=KW (Rf.start od oa ot on tx) (fun e f=>nomatch f) (Nat.zero_le _) (by show 1≤ot;omega) a;obtain⟨n,g,i,o⟩:=c;have j:(Rf.start od oa ot on tx).s=tx:=rfl;have k:(Rf.start od oa ot on tx).at_=0:=rfl;have l:(Rf.start od oa ot on tx).events.length=0:=rfl;rw[j]at g;rw[k,l]at i;exact⟨by omega,d⟩
 unfold Rf.read;simp only;split
 .exact h _ (by rw[List.length_take];omega)
 exact h s b
theorem KX(i:8≤ot)(c:s.length≤100000000):(Rf.read od oa ot on s).opn.length≤100000000∧∀n∈(Rf.read od oa ot on s).opn,n.length≤100000000:=by
 have h:∀tx:Bs,tx.length≤100000000→(Rf.document (Rf.start od oa ot on tx)).opn.length≤100000000∧∀n∈(Rf.document (Rf.start od oa ot on tx)).opn,n.length≤100000000:=by
  intro tx d;have a:=wX (Rf.start od oa ot on tx) (Nat.zero_le _) (by show 1≤ot;omega) d;have b:=a.2.2.2 ⟨(fun n e=>nomatch e),Nat.zero_le _⟩;have f:=a.2.1;have g:(Rf.start od oa ot on tx).s=tx:=rfl;rw[g]at f;exact⟨by have:=b.2;omega,b.1⟩
 unfold Rf.read;simp only;split
 .exact h _ (by rw[List.length_take];omega)
 exact h s c
end Go.Proofs.YtmgfijllcdadgaaGreatDoor.V
