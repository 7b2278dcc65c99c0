import Derived.Test.YtmgfijllcdadgaaGreatDoorNW15
import Derived.Test.YtmgfijllcdadgaaGreatDoorNW03
set_option linter.unusedVariables false
set_option linter.unusedSimpArgs false
set_option maxHeartbeats 8000000
set_option maxRecDepth 100000
namespace Go.Proofs.YtmgfijllcdadgaaGreatDoor.V
open Go.RowKit
open Mk (Bs Ev aD)
open Rf (R)
open Tryz
open Rf (f_ eG mR)
variable {s r:R}{k:Nat}
section
variable {w w' :World}{b:Nat}{s:R}{L:aH}
theorem Ri{l:Bs}{i:Nat}{y:UInt8}(h:l[i]?=some y):(ByteArray.extract ⟨l.toArray⟩ i (i+1))=⟨[y].toArray⟩:=by
 have:=iS l i 1;rw[this,drop_at h];rfl
theorem si(h:aI w b s L)(f:bT s)(i:Nat)(l:i<s.s.length):Calls Tryz.prog 204 #[.pointer (some ⟨b,0,none⟩),.int .i64 i] w fun e w' =>e=.returned (.bool (Rf.begins s i))∧w' =w:=by
 have m:=h.cell;have n:=h.lt;have u:=f.len;obtain⟨y,o,a,c⟩:=bH s i l;have p:=Ri c;have g:Rf.begins s i=decide (0≤Rf.goes [y]):=by
  unfold Rf.begins;rw[show s.s.getD i 0=y by simp[c]]
 rw[g];have j:=aB (fun w=>vZ [y] (by simp) w);have q:wrap64 ((i:Int)+1)=(i:Int)+1:=by unfold wrap64;omega
 have v:((i:Int)+1).toNat=i+1:=by omega
 have r:(i:Int)+1≤(s.s.length:Int):=by omega
 generalize Rf.goes [y]=gv at *;unfold aF at m;clear h f g c a o;cases k:decide (0≤gv)
 .have t:decide (0≤gv)=false:=k;go_enter func204,ntmps204
  go_wp2_with(go_at_call 85;refine(aA j _).mono ?_;rintro e w1 ⟨rfl,d⟩;obtain rfl:=d.symm)
  go_ret;exact⟨rfl,rfl⟩
 have t:decide (0≤gv)=true:=k;go_enter func204,ntmps204
 go_wp2_with(go_at_call 85;refine(aA j _).mono ?_;rintro e w1 ⟨rfl,d⟩;obtain rfl:=d.symm)
 go_ret;exact⟨rfl,rfl⟩
theorem pG(h:aI w b s L)(g:bT s)(i:Nat)(p:i<s.s.length):Calls Tryz.prog 154 #[.pointer (some ⟨b,0,none⟩),.int .i64 i] w (iC w b s L (Rf.beyond s i,false)):=by
 have q:=h.cell;have t:=h.frozen;have r:=h.lt;have a:=h.start.store 5 (.int .i64 (i:Int)) {s with at_:=i} rfl rfl rfl rfl;have c:bT {s with at_:=i}:=⟨g.len,by simpa using Nat.le_of_lt p,g.t0,g.t1⟩;have j:=aB (si a.rd c i p);have d:Rf.begins {s with at_:=i} i=Rf.begins s i:=rfl;rw[d]at j;have k:=aB a;unfold aF at q;cases m:Rf.begins s i
 .have l:Rf.beyond s i=Rf.fail {s with at_:=i} 2:=by simp[Rf.beyond,m]
  rw[l];rw[m]at j;have n:=aB (bW a.rd 2);clear h g a c l d;go_enter func154,ntmps154
  go_wp2_with(first
   |(go_at_call 204;refine(aA j).mono ?_;rintro e w1 ⟨rfl,rfl⟩)
   |(go_at_call 83;refine(aA n).mono ?_;rintro e w1 ⟨rfl,o,f⟩))
  go_ret;exact⟨rfl,o,(aA k).call f⟩
 have l:Rf.beyond s i=Rf.fail {s with at_:=i} 7:=by simp[Rf.beyond,m]
 rw[l];rw[m]at j;have n:=aB (bW a.rd 7);clear h g a c l d;go_enter func154,ntmps154
 go_wp2_with(first
  |(go_at_call 204;refine(aA j).mono ?_;rintro e w1 ⟨rfl,rfl⟩)
  |(go_at_call 83;refine(aA n).mono ?_;rintro e w1 ⟨rfl,o,f⟩))
 go_ret;exact⟨rfl,o,(aA k).call f⟩
end
section
variable {w w' :World}{b:Nat}{s:R}{L:aH}
theorem Rj(s:R):Rf.character s=if s.byte s.at_==10||s.byte s.at_==13 then
 (if s.byte s.at_==13&&decide (s.at_+1<s.s.length)&&s.byte (s.at_+1)==10 then{s with at_:=s.at_+2}else{s with at_:=s.at_+1},[10],true)
 else f_ s (s.s.length+1) 1:=rfl
theorem Rk{f:Nat}(h:s.at_+k≤s.s.length):f_ s (f+1) k=if Rf.goes ((s.s.drop s.at_).take k)<0 then(Rf.fail {s with at_:=s.at_+k - 1} 2,[],false)else if Rf.goes ((s.s.drop s.at_).take k)=0 then({s with at_:=s.at_+k},(s.s.drop s.at_).take k,true)else f_ s f (k+1):=by
 rw[f_,if_pos h]
theorem Rl{f:Nat}(h:¬s.at_+k≤s.s.length):f_ s f k=({s with at_:=s.s.length,stop:=1},[],false):=by
 cases f with
 |zero=>rfl
 |succ f=>rw[f_,if_neg h]
theorem nR(h:aI w b s L)(J:bT s)(A:s.at_<s.s.length):Calls Tryz.prog 155 #[.pointer (some ⟨b,0,none⟩)] w (kM w b s L (Rf.character s)):=by
 have I:=h.cell;have X:=h.frozen;have B:=h.lt;have Y:=J.len;have x:=aB h;have HL:=aB J;obtain⟨y,C,a0,hy⟩:=bH s s.at_ A;have a1:(s.at_:Int)<(s.s.length:Int):=by omega
 have hd:=Rj s;rw[C]at hd;have a2:wrap64 ((s.at_:Int)+1)=((s.at_+1:Nat):Int):=by unfold wrap64;omega
 unfold aF at I;clear h J hy;by_cases c:(y.toNat:Int)=10
 .have j:Rf.character s=({s with at_:=s.at_+1},[10],true):=by rw[hd,c];rfl
  rw[j];have K:((y.toNat:Int)==10)=true:=by simpa using c
  have M:((y.toNat:Int)==13)=false:=by simp;omega
  clear j hd C;go_enter func155,ntmps155
  go_wp2
  go_quiet(fail)
  go_wp2
  go_quiet(fail)
  go_wp2
  go_ret2;exact⟨rfl,L,(((aA x).start.drewN _).store 5 _ {s with at_:=s.at_+1} rfl rfl rfl rfl).drewN _⟩
 by_cases d:(y.toNat:Int)=13
 .have K:((y.toNat:Int)==10)=false:=by simpa using c
  have M:((y.toNat:Int)==13)=true:=by simpa using d
  rw[d]at hd;by_cases n:s.at_+1<s.s.length
  .obtain⟨N,D,Z,O⟩:=bH s (s.at_+1) n;rw[D]at hd;have a3:wrap64 ((s.at_:Int)+1+1)=((s.at_+2:Nat):Int):=by unfold wrap64;omega
   have o:(s.at_:Int)+1<(s.s.length:Int):=by omega
   have P:decide ((s.at_:Int)+1<(s.s.length:Int))=true:=by simp;omega
   have hn:((s.at_:Int)+1).toNat=s.at_+1:=by omega
   clear C D O;by_cases z:(N.toNat:Int)=10
   .have j:Rf.character s=({s with at_:=s.at_+2},[10],true):=by rw[hd];simp[n,z]
    rw[j];have Q:((N.toNat:Int)==10)=true:=by simpa using z
    clear j hd z c d A Y;go_enter func155,ntmps155
    go_wp2
    go_quiet(fail)
    go_wp2
    go_quiet(fail)
    go_wp2
    go_ret2;exact⟨rfl,L,((((aA x).start.drewN _).store 5 _ {s with at_:=s.at_+1} rfl rfl rfl rfl).drewN _).store 5 _ {s with at_:=s.at_+2} rfl rfl rfl rfl⟩
   have j:Rf.character s=({s with at_:=s.at_+1},[10],true):=by rw[hd];simp[n,z]
   rw[j];have Q:((N.toNat:Int)==10)=false:=by simpa using z
   clear j hd z c d A Y;go_enter func155,ntmps155
   go_wp2
   go_quiet(fail)
   go_wp2
   go_quiet(fail)
   go_wp2
   go_ret2;exact⟨rfl,L,(((aA x).start.drewN _).store 5 _ {s with at_:=s.at_+1} rfl rfl rfl rfl).drewN _⟩
  have j:Rf.character s=({s with at_:=s.at_+1},[10],true):=by rw[hd];simp[n]
  rw[j];have P:decide ((s.at_:Int)+1<(s.s.length:Int))=false:=by simp;omega
  clear j hd C;go_enter func155,ntmps155
  go_wp2
  go_quiet(fail)
  go_wp2
  go_quiet(fail)
  go_wp2
  go_ret2;exact⟨rfl,L,(((aA x).start.drewN _).store 5 _ {s with at_:=s.at_+1} rfl rfl rfl rfl).drewN _⟩
 have K:((y.toNat:Int)==10)=false:=by simpa using c
 have M:((y.toNat:Int)==13)=false:=by simpa using d
 have j:Rf.character s=f_ s (s.s.length+1) 1:=by rw[hd,K,M];rfl
 obtain⟨u,p⟩:∃u,u=Rf.character s:=⟨_,rfl⟩;rw[←p];have HF:=aB (p.trans j);clear j hd C p;go_enter func155,ntmps155
 go_wp2
 go_quiet(fail)
 go_wp2_with fail
 clear I X B;go_loopg [5] s.s.length (fun g s5 wx=>∃k:Nat,1≤k∧s.at_+k≤s.s.length+1∧g=s.s.length+1 - k∧s5=.int .i64 k∧u=f_ s (s.s.length+2 - k) k∧aL w b (aR s L) wx s L)
 case atStart=>exact⟨1,by omega,by omega,by omega,rfl,aA HF,(aA x).start.drewN _⟩
 case round=>
  obtain⟨k,E,o,rfl,rfl,hfin,F⟩:=hrel;clear HF;have I:=F.rd.cell;have X:=F.rd.frozen;have B:=F.rd.lt;have q:=aB F;unfold aF at I;clear F x;have a4:wrap64 ((s.at_:Int)+(k:Int))=(s.at_:Int)+(k:Int):=by unfold wrap64;omega
  by_cases n:s.at_+k≤s.s.length
  .have P:decide ((s.at_:Int)+(k:Int)≤(s.s.length:Int))=true:=by simp;omega
   have a5:(s.at_:Int)+(k:Int)≤(s.s.length:Int):=by omega
   have hn:((s.at_:Int)+(k:Int)).toNat=s.at_+k:=by omega
   have a6:=iS s.s s.at_ k;obtain⟨f,r⟩:∃f,s.s.length+2 - k=f+1:=⟨s.s.length+1 - k,by omega⟩;rw[r,Rk n]at hfin;have G:((s.s.drop s.at_).take k).length≤1000000000000:=by rw[List.length_take,List.length_drop];omega
   generalize(s.s.drop s.at_).take k=t at *;have R:=aB (fun w=>vZ t G w);generalize Rf.goes t=gv at *;have l:=aB hfin;have S:=aB (And.intro E (And.intro o (And.intro n r)));clear hfin o n r G c d A;by_cases v:gv<0
   .have a:=aA l;rw[if_pos v]at a;have i:=aB a;have Q:decide (gv<0)=true:=by simpa using v
    have hq:(s.at_:Int)+(k:Int) - 1=((s.at_+k - 1:Nat):Int):=by omega
    have H:=aB (fun m=>((aA q).drewN m).store 5 (.int .i64 ((s.at_:Int)+(k:Int) - 1)) {s with at_:=s.at_+k - 1} (by rw[hq];rfl) rfl rfl rfl);have HE:=aB (fun m=>bW (aA H m).rd 2);clear a l hq;go_wp2_with fail
    go_quiet(fail)
    go_wp2_with fail
    go_quiet(fail)
    go_wp2_with(first
     |(go_at_call 85;refine(aA R _).mono ?_;rintro e w1 ⟨rfl,rfl⟩)
     |(go_at_call 83;refine(aA HE _).mono ?_;rintro e w1 ⟨rfl,L1,T⟩))
    go_ret2;rw[aA i];exact⟨rfl,L1,(aA H _).call T⟩
   have Q:decide (gv<0)=false:=by simpa using v
   by_cases g2:gv=0
   .have a:=aA l;rw[if_neg v,if_pos g2]at a;have i:=aB a;have e5:(gv==0)=true:=by simpa using g2
    clear a l v;go_wp2_with fail
    go_quiet(fail)
    go_wp2_with fail
    go_quiet(fail)
    go_wp2_with(go_at_call 85;refine(aA R _).mono ?_;rintro e w1 ⟨rfl,rfl⟩)
    go_ret2;rw[aA i];exact⟨rfl,L,((aA q).drewN _).store 5 _ {s with at_:=s.at_+k} (by simp[aF]) rfl rfl rfl⟩
   have a:=aA l;rw[if_neg v,if_neg g2]at a;have i:=aB a;have e5:(gv==0)=false:=by simpa using g2
   have a7:wrap64 ((k:Int)+1)=((k+1:Nat):Int):=by unfold wrap64;omega
   clear a l v g2;go_wp2_with fail
   go_quiet(fail)
   go_wp2_with fail
   go_quiet(fail)
   go_wp2_with(go_at_call 85;refine(aA R _).mono ?_;rintro e w1 ⟨rfl,rfl⟩)
   obtain⟨E,o,n,r⟩:=aA S;go_roundg (s.s.length - k)
   case measure=>omega
   case rel=>exact⟨k+1,by omega,by omega,by omega,by simp,by rw[show s.s.length+2 - (k+1)=f by omega];exact aA i,(aA q).drewN _⟩
  have P:decide ((s.at_:Int)+(k:Int)≤(s.s.length:Int))=false:=by simp;omega
  rw[Rl n]at hfin;have i:=aB hfin;clear hfin n o c d A;go_wp2_with fail
  go_quiet(fail)
  go_wp2
  go_ret2;rw[aA i];exact⟨rfl,L,(((aA q).drewN _).store 5 _ {s with at_:=s.s.length} rfl rfl rfl rfl).store 6 _ {s with at_:=s.s.length,stop:=1} rfl rfl rfl rfl⟩
end
section
variable {w0 w w' :World}{b:Nat}{s:R}{L:aH}{f0:List Nat}
def jC(L:aH)(e:Ev)(v:Value)(g cap:Nat):aH:={L with ea:=some ⟨g,0,none⟩,ec:=cap,es:=L.es++[(e,v)]}
theorem Aw(s:R)(L:aH)(e:Ev)(v:Value)(g cap:Nat):
 (a_ (Rf.tell s e) (jC L e v g cap)).Perm (dJ (Rf.tell s e) (jC L e v g cap)::aN (e,v)::cO s L::bK s L::(L.es.map aN++L.gs.map dK)):=by
 have a:a_ (Rf.tell s e) (jC L e v g cap)=dJ (Rf.tell s e) (jC L e v g cap)::cO s L::bK s L::((L.es.map aN++[aN (e,v)])++L.gs.map dK):=by
  simp[a_,jC,cO,bK,Rf.tell]
 rw[a];refine .cons _ ?_;rw[List.append_assoc];exact(qj (aN (e,v)) (cO s L::bK s L::L.es.map aN) (L.gs.map dK))
theorem aL.push(m:aL w0 b f0 w s L)(e:Ev)(v:Value)(o:(aN (e,v)).owned w (b+1))(p:∀k,v.ownBlock=some k→k∉aR s L)
 {g cap:Nat} (hown:w'.ownsRow (b+1) 65 5 (.slice (some ⟨g,0,none⟩) (s.events.length+1) cap) (s.events.length+1) (bA L.es++bP e v))
 (c:w.grownBy w' (dJ s L).v.ownBlock) (q:(Value.slice L.ea s.events.length L.ec).ownBlock=some g∨g=w.heap.size):
 aL w0 b (v.ownBlock.toList++f0) (w'.setCell ⟨b,9,none⟩ (.slice (some ⟨g,0,none⟩) (s.events.length+1) cap)) (Rf.tell s e) (jC L e v g cap):=by
 have C:bL w (b+1) (aN (e,v)::a_ s L):=by
  refine⟨fun x a=>?_,?_⟩
  .rcases List.mem_cons.1 a with rfl|a
   .exact o
   exact m.rd.rows.own x a
  unfold aW;rw[List.filterMap_cons];split
  .exact m.rd.rows.nd
  rename_i j D;exact List.nodup_cons.2 ⟨fun E=>p j D E,m.rd.rows.nd⟩
 have r:bL w (b+1) (dJ s L::aN (e,v)::cO s L::bK s L::(L.es.map aN++L.gs.map dK)):=C.perm (jd _ _ _);have F:(dJ (Rf.tell s e) (jC L e v g cap)).owned w' (b+1):=by
  show World.ownsRow _ _ _ _ _ _ _;simp only[dJ,jC,Rf.tell,List.length_append,List.length_cons,List.length_nil,Nat.zero_add,bA,List.flatMap_append,List.flatMap_cons,List.flatMap_nil,List.append_nil];exact hown
 have f:(dJ (Rf.tell s e) (jC L e v g cap)).v.ownBlock=(dJ s L).v.ownBlock∨(dJ (Rf.tell s e) (jC L e v g cap)).v.ownBlock=some w.heap.size:=by
  rcases q with h|h
  .exact .inl h.symm
  exact .inr (by rw[h];rfl)
 have i:=(r.grow F c f).perm (Aw s L e v g cap).symm;have t:some b≠(dJ s L).v.ownBlock:=fun h=>by
  have:=(m.rd.rows.own (dJ s L) (by simp[a_])).lt b h.symm;omega
 have l:w'.heap[b]?=some (.cells (aF s L).toArray 111 (0,0)):=(c.block b m.rd.lt t).trans m.rd.blk;have u:=m.fr.size;refine⟨⟨?_,?_,?_,?_⟩,?_,m.gs⟩
 .have G:(aF s L).set 9 (.slice (some ⟨g,0,none⟩) (s.events.length+1) cap)=aF (Rf.tell s e) (jC L e v g cap):=by simp[aF,jC,Rf.tell]
  rw[←G];simp[World.setCell,Array.getElem?_modify,l]
 .refine i.keep fun k d=>Below.heap_setCell _ _ _ _ ?_
  have:=(i.lt k d).1;show k≠b;omega
 .simp[jC,Rf.tell,m.rd.evs]
 .exact m.rd.je
 have hev:∀k,(dJ s L).v.ownBlock=some k→k∈aR s L:=fun k d=>List.mem_filterMap.2 ⟨dJ s L,by simp[a_],d⟩
 refine⟨c.os.trans m.fr.os,c.tape.trans m.fr.tape,c.output.trans m.fr.output,?_,fun k d z A=>?_,fun k d=>?_⟩
 .have:=c.size;simp[World.setCell];omega
 .rw[Below.heap_setCell _ _ _ _ (by show k≠b;exact z)];refine(c.block k (by omega) fun h=>?_).trans (m.fr.block k d z fun h=>A (List.mem_append_right _ h));rcases m.fr.aJ k (hev k h.symm)with B|B
  .exact A (List.mem_append_right _ B)
  omega
 have y:k∈aW (dJ (Rf.tell s e) (jC L e v g cap)::aN (e,v)::cO s L::bK s L::(L.es.map aN++L.gs.map dK)):=gI (Aw s L e v g cap) k d;obtain⟨x,a,n⟩:=List.mem_filterMap.1 y;have old:k∈aR s L→k∈v.ownBlock.toList++f0∨w0.heap.size≤k:=fun h=>(m.fr.aJ k h).imp (List.mem_append_right _) id
 rcases List.mem_cons.1 a with rfl|a
 .rcases f with h|h
  .exact old (hev k (h.symm.trans n))
  rw[n]at h;cases h;exact .inr u
 rcases List.mem_cons.1 a with rfl|a
 .exact .inl (List.mem_append_left _ (by
   have:v.ownBlock=some k:=n
   simp[this]))
 exact old (List.mem_filterMap.2 ⟨x,by simp only[a_];exact List.mem_cons_of_mem _ a,n⟩)
def jf(e:Ev)(v:Value):Obj:=.cells #[.int .i64 e.kind,.string ⟨e.name.toArray⟩,.string ⟨e.space.toArray⟩,.string ⟨e.val.toArray⟩,v] 65 (0,0)
theorem mV(h:aI w b s L)(d:Ev)(a:Option Addr)(n c:Nat)(l:(aN (d,.slice a n c)).owned w (b+1))(o:∀k,(Value.slice a n c).ownBlock=some k→k∉aR s L)(O:s.events.length≤1000000000):
 Calls Tryz.prog 152 #[.pointer (some ⟨b,0,none⟩),.agg #[.int .i64 d.kind,.string ⟨d.name.toArray⟩,.string ⟨d.space.toArray⟩,.string ⟨d.val.toArray⟩,.slice a n c]] w fun e w' =>e=.returned (.tuple #[])∧∃L', aL w b ((Value.slice a n c).ownBlock.toList++aR s L) w' (Rf.tell s d) L' :=by
 have m:=((h.start.alloc (jf d (.slice a n c))).alloc (jf d (.slice a n c))).drew;have j:(aN (d,.slice a n c)).owned ((w.alloc (jf d (.slice a n c))).alloc (jf d (.slice a n c))).drew (b+1):=fP l fun k G=>by
  have f:=(World.ownsRow.lt l k G).2;show((w.alloc (jf d (.slice a n c))).alloc (jf d (.slice a n c))).heap[k]?=_;rw[Below.heap_alloc _ _ _ (by simp;omega),Below.heap_alloc _ _ _ f]
 have C:=aB (m.rd.rows.own (dJ s L) (by simp[a_]))
 have D:=aB (show((w.alloc (jf d (.slice a n c))).alloc (jf d (.slice a n c))).drew.heap[w.heap.size+1]?=some (jf d (.slice a n c))from by
  have:=heap_alloc_new (w.alloc (jf d (.slice a n c))) (jf d (.slice a n c))
  rw[show(w.alloc (jf d (.slice a n c))).heap.size=w.heap.size+1 by simp]at this
  exact this)
 have u:=aB (show s.events.length+1≤maxLen by unfold maxLen;omega);have p:=aB (show b+1≤((w.alloc (jf d (.slice a n c))).alloc (jf d (.slice a n c))).drew.heap.size by have:=h.lt;simp;omega);have v:=aB m;have q:=aB j;have H:=aB o;have f:=h.lt;have I:∀t E i,((w.alloc t).alloc E).cell? ⟨b,i,none⟩=(aF s L)[i]?:=fun t E i=>by
  rw[←h.cell i];simp only[World.cell?];rw[Below.heap_alloc _ _ _ (by simp;omega),Below.heap_alloc _ _ _ f]
 have x:∀t i,(w.alloc t).cell? ⟨b,i,none⟩=(aF s L)[i]?:=fun t i=>by
  rw[←h.cell i];simp only[World.cell?];rw[Below.heap_alloc _ _ _ f]
 obtain⟨J,K,y,z,A⟩:=info_parts oW;unfold aF at I x;clear h m l j o;unfold jf at C D p v q;go_enter func152,ntmps152
 go_wp2
 go_region_law (refine step_append_lies _ rfl (.tmp 8) (.tmp 10) 29 rfl (b+1) 65 J _ 5 80 underlying29 K y z A rfl (by decide) (.slice L.ea s.events.length L.ec) s.events.length (bA L.es) (by simp[Act.eval]) (aA C) ⟨w.heap.size+1,0,none⟩ 1 1 (bP d (.slice a n c)) (by simp[Act.eval]) rfl (World.news_of_block (aA D)) (mK _ _ _ _) (by decide) (aA u) (by omega) (aA p) (w.heap.size+2) (by simp) ?_;intro g cap w2 hown hgrow B F;obtain⟨M,N⟩:=lY ((aA v).rd.grown (r:=dJ s L) hgrow (by simp[a_]));unfold aF at M)
 all_goals
  go_wp2
  go_end0
  exact⟨rfl,_,(aA v).push d _ (aA q) (aA H) hown hgrow (by simpa using B)⟩
end
structure Kp(r r' :R):Prop where
 s:r'.s=r.s
 od:r'.od=r.od
 oa:r'.oa=r.oa
 ot:r'.ot=r.ot
 on:r'.on=r.on
 gz:r.at_≤r'.at_
 len:r'.at_≤r.s.length
 ev:r'.events.length+4*r.at_≤r.events.length+4*r'.at_
 op:r'.opn=r.opn
 tg:r'.tags=r.tags
theorem Kp.refl(h:r.at_≤r.s.length):Kp r r:=⟨rfl,rfl,rfl,rfl,rfl,Nat.le_refl _,h,by omega,rfl,rfl⟩
theorem Kp.trans{a b c:R}(h:Kp a b)(k:Kp b c):Kp a c:=by
 obtain⟨i,j,l,m,n,u,v,w,o,d⟩:=h;obtain⟨f,p,q,r,s,x,g,y,t,e⟩:=k;rw[i]at f g;exact⟨f,p.trans j,q.trans l,r.trans m,s.trans n,by omega,g,by omega,t.trans o,e.trans d⟩
theorem Kp.to(a:r.at_≤k)(b:k≤r.s.length):Kp r {r with at_:=k}:=⟨rfl,rfl,rfl,rfl,rfl,a,b,by show r.events.length+_≤_;simp;omega,rfl,rfl⟩
theorem Kp.stop{a r:R}(h:Kp a r)(x:Int):Kp a {r with stop:=x}:=⟨h.s,h.od,h.oa,h.ot,h.on,h.gz,h.len,h.ev,h.op,h.tg⟩
theorem Kp.fail{a r:R}(h:Kp a r)(x:Int):Kp a (Rf.fail r x):=⟨h.s,h.od,h.oa,h.ot,h.on,h.gz,h.len,h.ev,h.op,h.tg⟩
theorem Ay(h:r.at_≤r.s.length):Kp r (Rf.ends r).1:=by
 unfold Rf.ends;split
 .exact .refl h
 exact(Kp.refl h).stop 1
theorem sW(h:(Rf.ends r).2=false):(Rf.ends r).1=r∧r.at_<r.s.length:=by
 unfold Rf.ends at h⊢;split<;>simp_all
theorem fS(h:r.at_≤r.s.length)(c:Int):Kp r (Rf.must r c).1∧((Rf.must r c).2=true→(Rf.must r c).1={r with at_:=r.at_+1}∧r.at_<r.s.length):=by
 unfold Rf.must;split
 .split
  .exact⟨.to (by omega) (by omega),fun _=>⟨rfl,by assumption⟩⟩
  exact⟨(Kp.refl h).fail 3,fun h=>by cases h⟩
 exact⟨(Kp.refl h).stop 1,fun h=>by cases h⟩
theorem gb(h:r.at_≤r.s.length):Kp r (Rf.aP r):=by
 refine .to (by omega) ?_;have:=mS Rf.cB (r.s.drop r.at_);rw[List.length_drop]at this;omega
theorem jR(h:r.at_≤r.s.length)(a:0≤r.ot):Kp r (Rf.word r).1:=by
 have:=mS Rf.eY (r.s.drop r.at_);rw[List.length_drop]at this;unfold Rf.word;simp only;split
 .exact(Kp.to (by omega) (by omega)).fail 7
 exact(Kp.to (by omega) (by omega)).trans (Ay (by simp;omega))
theorem qL{i:Nat}(h:r.at_≤i)(a:i≤r.s.length):Kp r (Rf.beyond r i):=by
 unfold Rf.beyond;split
 .exact(Kp.to h a).fail 7
 exact(Kp.to h a).fail 2
theorem Az{r:R}(h:r.at_<r.s.length):∀(f k:Nat),1≤k→Kp r (f_ r f k).1∧((f_ r f k).2.2=true→∃a,1≤a∧(f_ r f k).1={r with at_:=r.at_+a}∧(f_ r f k).2.1=(r.s.drop r.at_).take a∧r.at_+a≤r.s.length∧Rf.goes ((r.s.drop r.at_).take a)=0)
 |0,k,b=>⟨(Kp.to (Nat.le_of_lt h) (Nat.le_refl _)).stop 1,fun h=>by simp[f_]at h⟩
 |f+1,k,b=>by
  rw[f_];split
  .simp only;split
   .exact⟨(Kp.to (by omega) (by omega)).fail 2,fun h=>by cases h⟩
   split
   .exact⟨.to (by omega) (by omega),fun _=>⟨k,b,rfl,rfl,by omega,by assumption⟩⟩
   exact Az h f (k+1) (by omega)
  exact⟨(Kp.to (Nat.le_of_lt h) (Nat.le_refl _)).stop 1,fun h=>by cases h⟩
theorem gX(h:r.at_<r.s.length):Kp r (Rf.character r).1∧((Rf.character r).2.2=true→∃k,1≤k∧(Rf.character r).1={r with at_:=r.at_+k}∧r.at_+k≤r.s.length∧(Rf.character r).2.1.length≤k):=by
 unfold Rf.character;simp only;split
 .split
  .rename_i a;simp at a;exact⟨.to (by omega) (by omega),fun _=>⟨2,by omega,rfl,by omega,by simp⟩⟩
  exact⟨.to (by omega) (by omega),fun _=>⟨1,by omega,rfl,by omega,by simp⟩⟩
 have b:=Az h (r.s.length+1) 1 (by omega);refine⟨b.1,fun a=>?_⟩;obtain⟨c,d,e,f,g,_⟩:=b.2 a;exact⟨c,d,e,g,by rw[f,List.length_take];omega⟩
section
variable {f:Nat}{r:R}{t:Bs}{c:Int}
theorem Rm(h:¬r.at_<r.s.length):eG (f+1) r t c=({r with stop:=1},false):=by
 rw[eG,if_neg h]
theorem Rn(h:r.at_<r.s.length)(a:r.byte r.at_≠45)(b:c=r.ot):eG (f+1) r t c=(Rf.beyond r r.at_,false):=by
 rw[eG,if_pos h,if_pos (by simpa using a),if_pos (by simpa using b)]
theorem Ro(h:r.at_<r.s.length)(a:r.byte r.at_≠45)(b:c≠r.ot):eG (f+1) r t c=if(Rf.character r).2.2 then eG f (Rf.character r).1 (t++(Rf.character r).2.1) (c+1)else((Rf.character r).1,false):=by
 rw[eG,if_pos h,if_pos (by simpa using a),if_neg (by simpa using b)]
theorem AA(h:r.at_<r.s.length)(a:r.byte r.at_=45)(b:r.at_+1=r.s.length∨(r.at_+2=r.s.length∧r.byte (r.at_+1)=45)):eG (f+1) r t c=(mR r,false):=by
 rw[eG,if_pos h,if_neg (by simpa using a),if_pos b]
theorem Rp(h:r.at_+2<r.s.length)(a:r.byte r.at_=45)(b:r.byte (r.at_+1)=45):eG (f+1) r t c=if r.byte (r.at_+2) !=62 then(Rf.fail {r with at_:=r.at_+2} 3,false)else(Rf.tell {r with at_:=r.at_+3} ⟨4,[],[],t,[]⟩,true):=by
 rw[eG,if_pos (by omega),if_neg (by simpa using a),if_neg (by omega),if_pos (by simpa using b)]
theorem Rq(h:r.at_+1<r.s.length)(b:r.byte r.at_=45)(a:r.byte (r.at_+1)≠45):eG (f+1) r t c=if c==r.ot then(Rf.beyond r (r.at_+1),false)else eG f {r with at_:=r.at_+1} (t++[45]) (c+1):=by
 rw[eG,if_pos (by omega),if_neg (by simpa using b),if_neg (by simp[a];omega),if_neg (by simpa using a)]
end
theorem lD(a b:Bs):(⟨a.toArray⟩:ByteArray)++(⟨b.toArray⟩:ByteArray)=⟨(a++b).toArray⟩:=by
 apply ByteArray.ext;simp
theorem Kp.ok(h:Kp s r)(a:bT s):bT r:=⟨by rw[h.s];exact a.len,by rw[h.s];exact h.len,by rw[h.ot];exact a.t0,by rw[h.ot];exact a.t1⟩
section
variable {w w' :World}{b:Nat}{s:R}{L:aH}
theorem AB(h:aI w b s L)(hl:bT s)(hev:s.events.length≤4*s.at_+100)(aa:s.s.length≤100000000):Calls Tryz.prog 108 #[.pointer (some ⟨b,0,none⟩)] w (iC w b s L (Rf.comment s)):=by
 have HM:=aB h;have HL:=aB hl;have HD:=aB (Py h hl 45 (by decide) (by decide));have hk:=fS hl.at_ 45;obtain⟨a3,v⟩:∃a3,a3=Rf.comment s:=⟨_,rfl⟩;rw[←v];have hd:Rf.comment s=if(Rf.must s 45).2 then eG (s.s.length+1) (Rf.must s 45).1 [] 0 else((Rf.must s 45).1,false):=rfl
 rw[hd]at v;have ag:=h.lt;clear h hd;obtain⟨r1,o1⟩:Rf.must s 45=((Rf.must s 45).1,(Rf.must s 45).2):=rfl;generalize hm:Rf.must s 45=m at *;obtain⟨r,o⟩:=m;cases o with
 |false=>
  simp only[Bool.false_eq_true,if_false]at v;have C:=aB v;clear v hk hm;go_enter func108,ntmps108
  go_wp2_with(go_at_call 107;refine(aA HD).mono ?_;rintro e w1 ⟨rfl,L1,Y⟩)
  go_ret;rw[aA C];exact⟨rfl,L1,Y⟩
 |true=>
  simp only[if_true]at v;have C:=aB v;have HK:=aB hk;clear v hk hm hl;go_enter func108,ntmps108
  go_wp2_with(go_at_call 107;refine(aA HD).mono ?_;rintro e w1 ⟨rfl,L1,Y⟩;have z:=aB Y;clear Y)
  go_loopg [4,5] (s.s.length+1) (fun g s4 s5 wx=>∃(r:R) (t:Bs) (c:Int) (L1:aH),s4=.string ⟨t.toArray⟩∧s5=.int .i64 c∧0≤c∧c≤r.ot∧a3=eG g r t c∧s.s.length - r.at_<g∧Kp s r∧t.length≤r.at_∧aL w b (aR s L) wx r L1)
  case atStart=>exact⟨r,[],0,L1,rfl,rfl,by omega,by rw[(aA HK).1.ot];exact(aA HL).t0,aA C,by omega,(aA HK).1,by simp,aA z⟩
  case round=>
   obtain⟨r,t,c,L1,rfl,rfl,p,q,hfin,hg,n,u,hm⟩:=hrel;have N:=n.ok (aA HL);obtain⟨f,rfl⟩:∃f,gk=f+1:=⟨gk - 1,by omega⟩;have h1:=N.len;have h2:=N.at_;have B:r.s.length≤100000000:=by rw[n.s];exact aa
   have M:=aB (gy hm.rd N);have z:=aB hm;have O:=aB N;have d:r.s.length - r.at_<f+1:=by rw[n.s];exact hg
   have Z:=aB n;have j:r.events.length≤1000000000:=by
    have:=n.ev;have:=n.len;omega
   clear hm N hg HM HD HK C;by_cases P:r.at_<r.s.length
   .rw[show Rf.ends r=(r,false) by simp[Rf.ends,P]]at M;obtain⟨y,H,ah,hy⟩:=bH r r.at_ P;have ai:(r.at_:Int)<(r.s.length:Int):=by omega
    by_cases D:(y.toNat:Int)=45
    .have e1:((y.toNat:Int) !=45)=false:=by simpa using D
     by_cases h6:r.at_+1<r.s.length
     .obtain⟨y2,E,ae,Q⟩:=bH r (r.at_+1) h6;have I:(r.at_:Int)+1<(r.s.length:Int):=by omega
      have aj:((r.at_:Int)+1).toNat=r.at_+1:=by omega
      have eA:((r.s.length:Int) - (r.at_:Int)==1)=false:=by simp;omega
      by_cases X:(y2.toNat:Int)=45
      .have e3:((y2.toNat:Int)==45)=true:=by simpa using X
       by_cases h8:r.at_+2<r.s.length
       .obtain⟨y3,a4,af,a7⟩:=bH r (r.at_+2) h8;have a0:(r.at_:Int)+2<(r.s.length:Int):=by omega
        have ak:((r.at_:Int)+2).toNat=r.at_+2:=by omega
        have eB:((r.s.length:Int) - (r.at_:Int)==2)=false:=by simp;omega
        rw[Rp h8 (by rw[H];exact D) (by rw[E];exact X),a4]at hfin;by_cases h9:(y3.toNat:Int)=62
        .have e4:((y3.toNat:Int) !=62)=false:=by simpa using h9
         rw[e4]at hfin;simp only[Bool.false_eq_true,if_false]at hfin;have C:=aB hfin;have HT:=aB (fun(W:World) (L' :aH) (hW:aI W b {r with at_:=r.at_+3} L')=>mV hW ⟨4,[],[],t,[]⟩ none 0 0 (jw ⟨rfl,rfl,rfl⟩) (fun k hk=>by cases hk) j);have al:wrap64 ((r.at_:Int)+3)=((r.at_+3:Nat):Int):=by unfold wrap64;omega
         clear hfin H hy n j d u p q B E Q a4 a7 D X h9;go_wp2_with(go_at_call 105;refine(aA M).mono ?_;rintro e w1 ⟨rfl,J,a⟩;have i:=aB ((aA z).call a);have l:=a.rd.cell;have F:=a.rd.frozen;have x:=a.rd.lt;clear a;unfold aF at l)
         go_quiet(fail)
         go_wp2
         go_quiet(fail)
         go_wp2
         go_quiet(fail)
         go_wp2
         go_quiet(fail)
         go_wp2
         go_quiet(fail)
         go_wp2_with(go_at_call 152;refine(aA HT _ _ (((aA i).drewN _).store 5 _ {r with at_:=r.at_+3} (by simp[aF]) rfl rfl rfl).rd).mono ?_;rintro e w3 ⟨rfl,S,A⟩)
         go_ret;rw[aA C];exact⟨rfl,S,(((aA i).drewN _).store 5 _ {r with at_:=r.at_+3} (by simp[aF]) rfl rfl rfl).call A⟩
        have e4:((y3.toNat:Int) !=62)=true:=by simpa using h9
        rw[e4]at hfin;simp only[if_true]at hfin;have C:=aB hfin;clear hfin H hy n j d u p q B E Q a4 a7 D X h9;go_wp2_with(go_at_call 105;refine(aA M).mono ?_;rintro e w1 ⟨rfl,J,a⟩;have i:=aB ((aA z).call a);have l:=a.rd.cell;have F:=a.rd.frozen;have x:=a.rd.lt;clear a;unfold aF at l)
        go_quiet(fail)
        go_wp2
        go_quiet(fail)
        go_wp2
        go_quiet(fail)
        go_wp2
        go_quiet(fail)
        go_wp2
        go_quiet(fail)
        go_wp2_with(go_at_call 83;refine(bW (((aA i).drewN _).store 5 _ {r with at_:=r.at_+2} (by simp[aF]) rfl rfl rfl).rd 3).mono ?_;rintro e w3 ⟨rfl,S,A⟩)
        go_ret;rw[aA C];exact⟨rfl,S,(((aA i).drewN _).store 5 _ {r with at_:=r.at_+2} (by simp[aF]) rfl rfl rfl).call A⟩
       have eB:((r.s.length:Int) - (r.at_:Int)==2)=true:=by simp;omega
       rw[AA P (by rw[H];exact D) (.inr ⟨by omega,by rw[E];exact X⟩)]at hfin;have C:=aB hfin;clear hfin H hy n j d u p q B E Q D X;go_wp2_with(go_at_call 105;refine(aA M).mono ?_;rintro e w1 ⟨rfl,J,a⟩;have i:=aB ((aA z).call a);have l:=a.rd.cell;have F:=a.rd.frozen;have x:=a.rd.lt;clear a;unfold aF at l)
       go_quiet(fail)
       go_wp2
       go_quiet(fail)
       go_wp2
       go_quiet(fail)
       go_wp2
       go_ret;rw[aA C];exact⟨rfl,J,(((aA i).drewN _).store 5 _ {r with at_:=r.s.length} rfl rfl rfl rfl).store 6 _ (mR r) rfl rfl rfl rfl⟩
      have e3:((y2.toNat:Int)==45)=false:=by simpa using X
      rw[Rq h6 (by rw[H];exact D) (by rw[E];exact X)]at hfin;obtain⟨eb,eB⟩:∃eb,((r.s.length:Int) - (r.at_:Int)==2)=eb:=⟨_,rfl⟩;by_cases G:c=r.ot
      .have e2:(c==r.ot)=true:=by simpa using G
       rw[e2]at hfin;simp only[if_true]at hfin;have C:=aB hfin;have HH:=aB h6;clear hfin H hy n j d u p q B E Q D X G;cases eb;all_goals
        go_wp2_with(go_at_call 105;refine(aA M).mono ?_;rintro e w1 ⟨rfl,J,a⟩;have i:=aB ((aA z).call a);have l:=a.rd.cell;have F:=a.rd.frozen;have x:=a.rd.lt;clear a;unfold aF at l)
        go_quiet(fail)
        go_wp2
        go_quiet(fail)
        go_wp2
        go_quiet(fail)
        go_wp2
        go_quiet(fail)
        go_wp2_with(go_at_call 154;refine(pG ((aA i).drewN _).rd (aA O) (r.at_+1) (aA HH)).mono ?_;rintro e w2 ⟨rfl,S,A⟩)
        go_ret;rw[aA C];exact⟨rfl,S,((aA i).drewN _).call A⟩
      have e2:(c==r.ot)=false:=by simpa using G
      rw[e2]at hfin;simp only[Bool.false_eq_true,if_false]at hfin;have a2:=lD t [45];have a8:t.length≤100000000:=by omega
      have a5:wrap64 (c+1)=c+1:=by
       have:=(aA O).t1;unfold wrap64;omega
      have HZ:=aB (And.intro hfin (And.intro d (And.intro u (And.intro p (And.intro q G)))));clear hfin H hy n j d u p q B E Q D X G;cases eb;all_goals
       go_wp2_with(go_at_call 105;refine(aA M).mono ?_;rintro e w1 ⟨rfl,J,a⟩;have i:=aB ((aA z).call a);have l:=a.rd.cell;have F:=a.rd.frozen;have x:=a.rd.lt;clear a;unfold aF at l)
       go_quiet(fail)
       go_wp2
       go_quiet(fail)
       go_wp2
       go_quiet(fail)
       go_wp2
       go_quiet(fail)
       go_wp2
       obtain⟨hfin,d,u,p,q,G⟩:=aA HZ;have T:r.s=s.s:=(aA Z).s;go_roundg f
       case measure=>omega
       case rel=>exact⟨{r with at_:=r.at_+1},t++[45],c+1,J,by rw[←a2],by rw[a5],by omega,by show c+1≤r.ot;omega,hfin,by rw[←T];simp;omega,(aA Z).trans (.to (by omega) (by omega)),by simp;omega,((aA i).drewN _).store 5 _ {r with at_:=r.at_+1} (by simp[aF]) rfl rfl rfl⟩
     have eA:((r.s.length:Int) - (r.at_:Int)==1)=true:=by simp;omega
     rw[AA P (by rw[H];exact D) (.inl (by omega))]at hfin;have C:=aB hfin;clear hfin H hy n j d u p q B D;go_wp2_with(go_at_call 105;refine(aA M).mono ?_;rintro e w1 ⟨rfl,J,a⟩;have i:=aB ((aA z).call a);have l:=a.rd.cell;have F:=a.rd.frozen;have x:=a.rd.lt;clear a;unfold aF at l)
     go_quiet(fail)
     go_wp2
     go_quiet(fail)
     go_wp2
     go_quiet(fail)
     go_wp2
     go_ret;rw[aA C];exact⟨rfl,J,(((aA i).drewN _).store 5 _ {r with at_:=r.s.length} rfl rfl rfl rfl).store 6 _ (mR r) rfl rfl rfl rfl⟩
    have e1:((y.toNat:Int) !=45)=true:=by simpa using D
    by_cases G:c=r.ot
    .rw[Rn P (by rw[H];exact D) G]at hfin;have e2:(c==r.ot)=true:=by simpa using G
     have C:=aB hfin;have HH:=aB P;clear hfin D H hy G n j d u p q B;go_wp2_with(go_at_call 105;refine(aA M).mono ?_;rintro e w1 ⟨rfl,J,a⟩;have i:=aB ((aA z).call a);have l:=a.rd.cell;have F:=a.rd.frozen;have x:=a.rd.lt;clear a;unfold aF at l)
     go_quiet(fail)
     go_wp2_with(go_at_call 154;refine(pG ((aA i).drewN _).rd (aA O) r.at_ (aA HH)).mono ?_;rintro e w2 ⟨rfl,S,A⟩)
     go_ret;rw[aA C];exact⟨rfl,S,((aA i).drewN _).call A⟩
    rw[Ro P (by rw[H];exact D) G]at hfin;have e2:(c==r.ot)=false:=by simpa using G
    have K:=gX P;have HC:=aB (fun(W:World) (L' :aH) (hW:aI W b r L')=>nR hW (aA O) P);generalize a9:Rf.character r=ch at *;obtain⟨r3,t3,o3⟩:=ch;cases o3 with
    |false=>
     simp only[Bool.false_eq_true,if_false]at hfin;have C:=aB hfin;clear hfin D H hy G n j d u p q B K a9;go_wp2_with(go_at_call 105;refine(aA M).mono ?_;rintro e w1 ⟨rfl,J,a⟩;have i:=aB ((aA z).call a);have l:=a.rd.cell;have F:=a.rd.frozen;have x:=a.rd.lt;clear a;unfold aF at l)
     go_quiet(fail)
     go_wp2_with(go_at_call 155;refine(aA HC _ _ ((aA i).drewN _).rd).mono ?_;rintro e w2 ⟨rfl,S,A⟩)
     go_ret;rw[aA C];exact⟨rfl,S,((aA i).drewN _).call A⟩
    |true=>
     simp only[if_true]at hfin;obtain⟨k,a6,I,a0,a1⟩:=K.2 rfl;have a2:=lD t t3;have a8:t.length≤100000000:=by omega
     have am:t3.length≤100000000:=by have:=a1;simp at this;omega
     have HZ:=aB (And.intro hfin (And.intro K.1 (And.intro a6 (And.intro I (And.intro a0 (And.intro a1 (And.intro d (And.intro u (And.intro p (And.intro q G))))))))));have a5:wrap64 (c+1)=c+1:=by
      have:=(aA O).t1;unfold wrap64;omega
     clear hfin D H hy G n j d u p q B K a9 a6 I a0 a1;go_wp2_with(go_at_call 105;refine(aA M).mono ?_;rintro e w1 ⟨rfl,J,a⟩;have i:=aB ((aA z).call a);have l:=a.rd.cell;have F:=a.rd.frozen;have x:=a.rd.lt;clear a;unfold aF at l)
     go_quiet(fail)
     go_wp2_with(go_at_call 155;refine(aA HC _ _ ((aA i).drewN _).rd).mono ?_;rintro e w2 ⟨rfl,S,A⟩;have ab:=aB (((aA i).drewN _).call A);clear A)
     obtain⟨hfin,K,a6,I,a0,a1,d,u,p,q,G⟩:=aA HZ;have T:r.s=s.s:=(aA Z).s;have ad:r3.ot=r.ot:=by rw[I]
     go_roundg f
     case measure=>omega
     case rel=>exact⟨r3,t++t3,c+1,S,rfl,by rw[a5],by omega,by rw[ad];omega,hfin,by rw[I,←T];simp;omega,(aA Z).trans K,by rw[I];simp;omega,aA ab⟩
   rw[show Rf.ends r=({r with stop:=1},true) by simp[Rf.ends,P]]at M;rw[Rm P]at hfin;have C:=aB hfin;clear hfin n j d u p q B;go_wp2_with(go_at_call 105;refine(aA M).mono ?_;rintro e w1 ⟨rfl,J,a⟩)
   go_ret;rw[aA C];exact⟨rfl,J,(aA z).call a⟩
end
end Go.Proofs.YtmgfijllcdadgaaGreatDoor.V
