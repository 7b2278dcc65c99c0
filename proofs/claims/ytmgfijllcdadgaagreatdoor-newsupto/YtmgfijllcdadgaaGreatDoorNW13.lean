import Derived.Test.YtmgfijllcdadgaaGreatDoorNW12
import Derived.Laws.IdiomStrings
import Derived.Laws.ResultCell
import Derived.Test.YtmgfijllcdadgaaGreatDoorCards
import Derived.Test.YtmgfijllcdadgaaGreatDoorTie
import Derived.WalkKit
import Derived.ProofKit
import Derived.OpenShut
import Derived.Deep.DeepHandedRow
import Derived.Lib.LaidTab
import Derived.Stop.LaidErr
set_option linter.unusedVariables false
set_option linter.unusedSimpArgs false
set_option maxHeartbeats 1000000
set_option maxRecDepth 100000
namespace Go.Proofs.YtmgfijllcdadgaaGreatDoor
open Go.RowKit
open Mk (St Bs Ev aD)
open Go.ChangeShapes Go.WideShapes Go.ChangeAt Go.RowKit
open Go.Proofs.Tryz
open Mk (bI eU aQ bC fJ)
variable {k base size n b:Nat}{s:St}{w W:World}{e t:TypeId}{v:Value}{L:Lay}{P:Program}
theorem Ii(l:Bs)(x:UInt8):∀s,bI s (l++[x])=eU (bI s l) x:=by
 induction l with
 |nil=>intro s;rfl
 |cons y r ih=>intro s;exact ih _
theorem Ij(l r:Bs):∀s,bI s (l++r)=bI (bI s l) r:=by
 induction l with
 |nil=>intro s;rfl
 |cons y t ih=>intro s;exact ih _
theorem Ik(s:St)(x:UInt8)(h:s.ended≠0):eU s x=s:=by unfold eU;rw[if_neg h]
theorem Ag:∀(l:Bs) (s:St),s.ended≠0→bI s l=s
 |[],s,_=>rfl
 |x::r,s,h=>by
  show bI (eU s x) r=s;rw[Ik s x h];exact Ag r s h
theorem Il(s:St)(x:UInt8):s.at_≤(eU s x).at_∧(eU s x).at_≤s.at_+1:=by
 unfold eU;split
 .have:=GU {s with at_:=s.at_+1} x.toNat;simp only at this⊢;omega
 omega
theorem vS:∀(l:Bs) (s:St),s.at_≤(bI s l).at_∧(bI s l).at_≤s.at_+l.length
 |[],s=>by simp[bI]
 |x::r,s=>by
  have a:=Il s x;have b:=vS r (eU s x);simp only[bI,List.length_cons];omega
theorem Im(h:Inv k s)(x:UInt8):Inv (k+12) (eU s x):=by
 unfold eU;split
 .have a:=uT x;have b:=Hw (s:={s with at_:=s.at_+1}) (k:=k) {h with} x.toNat a.1 a.2;exact{b with}
 exact h.mono (by omega)
theorem sP:∀(l:Bs) {k:Nat} {s:St},Inv k s→Inv (k+12*l.length) (bI s l)
 |[],k,s,h=>h
 |x::r,k,s,h=>(sP r (Im h x)).mono (by simp;omega)
structure mQ(w:World)(v:Value)(l:List Ev)(fp:List Nat):Prop where
 ex:∃es:List (Ev×Value),es.map (·.1)=l∧w.ownsRow 0 65 5 v l.length (bA es)∧(∀p∈es,(aN p).owned w 0)∧(∀k,v.ownBlock=some k→k∈fp)∧(∀k∈aW (es.map aN),k∈fp∧v.ownBlock≠some k)
theorem nM{base' :Nat}{b:List Value}(h:w.ownsRow base e size v n b)(c:base' ≤base):w.ownsRow base' e size v n b:=by
 refine⟨h.1,?_⟩;rcases h.2 with d|⟨g,cap,a,f,i,j⟩
 .exact .inl d
 exact .inr ⟨g,cap,a,f,Nat.le_trans c i,j⟩
structure iR(w:World)(v:Value)(l:List Ev)(fp:List Nat):Prop where
 ex:∃es:List (Ev×Value),es.map (·.1)=l∧bL w 0 (⟨65,5,v,l.length,bA es⟩::es.map aN)∧∀k∈aW (⟨65,5,v,l.length,bA es⟩::es.map aN),k∈fp
theorem iR.keep{w w' :World}{v:Value}{l:List Ev}{fp:List Nat}(h:iR w v l fp)(b:∀k∈fp,w'.heap[k]?=w.heap[k]?):iR w' v l fp:=by
 obtain⟨c,d,e,a⟩:=h.ex;exact⟨c,d,e.keep fun k f=>b k (a k f),a⟩
theorem iR.got{l:List Ev}{fp:List Nat}(h:iR w v l fp):mQ w v l fp:=by
 obtain⟨e,f,a,d⟩:=h.ex;refine⟨e,f,a.head,fun p g=>a.own _ (List.mem_cons_of_mem _ (List.mem_map_of_mem g)),fun k i=>d k (List.mem_filterMap.2 ⟨_,List.mem_cons_self,i⟩),fun k b=>⟨d k (@lQ [_] _ k b),fun j=>?_⟩⟩;have c:=a.nd;unfold aW at c b;rw[List.filterMap_cons,j]at c;exact(List.nodup_cons.1 c).1 b
theorem Ah(h:aK w b s L)(y:s.text.length≤1000000000000)(z:s.list.length≤1000000000000):
 Calls Tryz.prog 56 #[.pointer (some ⟨b,0,none⟩)] w fun e w' =>∃v fp L', e=.returned v∧iR w' v (aQ s).list fp∧(∃a n c,v=.slice a n c)∧Mv w b (aJ s L) w' (Mk.take s) L' ∧∀k∈fp,(b≤k+1∧k≠b)∧k<w'.heap.size∧k∉aJ (Mk.take s) L' ∧(k∈aJ s L∨w.heap.size≤k):=by
 have A:=aB (EI h y z);clear h;go_enter func56,ntmps56
 go_wp2_with(go_at_call 80;refine(aA A).mono ?_;rintro e w1 ⟨d,rfl,⟨w2,g,rfl⟩,B,o,hd⟩;have HA:=aB g;have C:=aB o;have D:=aB hd;clear g o hd)
 go_ret;have g:=aA HA;have j:=g.rd.rows;have u:(rowsOf (aQ s) d).Perm ((bJ (aQ s) d::d.es.map aN)++[bE (aQ s) d,bQ (aQ s) d,bD (aQ s) d,cA (aQ s) d,bM (aQ s) d,bS (aQ s) d]):=by
  refine(lm _ _ _ _ _).trans (.cons _ ?_);exact(List.perm_append_comm (l₁:=[bE _ _,bQ _ _,bD _ _,cA _ _,bM _ _,bS _ _]) (l₂:=d.es.map aN))
 have q:=j.perm u;have f:∀k∈aW (bJ (aQ s) d::d.es.map aN),(b≤k+1∧k≠b)∧k<w2.heap.size∧k∈aJ (aQ s) d:=fun k i=>by
  have x:k∈aW ((bJ (aQ s) d::d.es.map aN)++[bE (aQ s) d,bQ (aQ s) d,bD (aQ s) d,cA (aQ s) d,bM (aQ s) d,bS (aQ s) d]):=by unfold aW at i⊢;rw[List.filterMap_append];exact List.mem_append_left _ i
  have:=q.lt k x;have p:=gI u.symm k x;exact⟨⟨by omega,fun e=>g.rd.nb (e▸p)⟩,this.2,p⟩
 have l:∀k∈aW (bJ (aQ s) d::d.es.map aN),(w2.setCell ⟨b,26,none⟩ (.slice none 0 0)).heap[k]?=w2.heap[k]?:=fun k i=>by
  refine Below.heap_setCell _ _ _ _ ?_;exact(f k i).1.2
 have hown:∀r∈bJ (aQ s) d::d.es.map aN,r.owned w2 (b - 1):=fun r t=>q.own r (List.mem_append_left _ t)
 have E:(aW (bJ (aQ s) d::d.es.map aN)).Nodup:=by
  have m:=q.nd;unfold aW at m⊢;rw[List.filterMap_append]at m;exact(List.nodup_append.1 m).1
 refine⟨_,aW (bJ (aQ s) d::d.es.map aN),B,rfl,?_,⟨_,_,_,rfl⟩,aA C,fun k i=>⟨(f k i).1,by have:=(f k i).2.1;simpa[World.setCell]using this,fun F=>(aA D) k F i,(aA HA).fr.aJ k (f k i).2.2⟩⟩;exact iR.keep (w:=w2) ⟨d.es,g.rd.evs,⟨fun r t=>nM (hown r t) (Nat.zero_le _),E⟩,fun k i=>i⟩ l
theorem Io{m:Nat}{d:Type}(f:d→List Value)(o:∀a,(f a).length=m){l:List d}(s:0<m)(h:w.ownsRow base e m v n (l.flatMap f))(t:n=l.length)(k:Nat)(p:k<l.length):
 ∃g c,v=.slice (some ⟨g,0,none⟩) n c∧g<w.heap.size∧∀j,j<m→w.cell? ⟨g,k*m+j,none⟩=(f l[k])[j]?:=by
 obtain⟨g,c,i,_,b⟩:=World.ownsRow.form h (by omega);refine⟨g,c,i,b,fun j q=>?_⟩;subst i;rw[qx h (k*m+j) ?_]
 .exact flat_get f m o l k p j q
 have r:(k+1)*m≤n*m:=Nat.mul_le_mul_right _ (by omega);rw[Nat.succ_mul]at r;omega
theorem slice_form{d:List Value}(h:w.ownsRow base e size v n d):∃a c,v=.slice a n c:=by
 rcases h.2 with⟨b,f⟩|⟨g,cap,i,b,_⟩
 .exact⟨none,0,by rw[b,f]⟩
 exact⟨_,_,b⟩
theorem Iq(w:World):iR w (.slice none 0 0) [] []:=⟨[],rfl,⟨fun r a=>(by rw[List.mem_singleton.1 a];exact World.ownsRow_nil w 0 _ _),(by simp[aW,Value.ownBlock])⟩,(fun k b=>by simp[aW,Value.ownBlock]at b)⟩
theorem Ai(h:aK w b s L)(hI:Inv k s)(l:Bs)(hk:k+12*l.length≤88000000)(hG:Gl w)(I:2+1<b)(a0:0≤s.at_)(a1:s.at_≤1000000000)(ad:Option Addr)(c:Nat)
 (hp:∀j (hj:j<l.length),∃g,ad=some ⟨g,0,none⟩∧g<w.heap.size∧g≠b∧g∉aJ s L∧w.cell? ⟨g,j,none⟩=some (.int .u8 (l[j].toNat:Int))):
 Calls Tryz.prog 36 #[.pointer (some ⟨b,0,none⟩),.slice ad l.length c] w fun e w' =>∃v fp L', e=.returned (.tuple #[v,.int .i64 (Mk.feed s l).2.2])∧iR w' v (Mk.feed s l).2.1 fp∧(∃a n c,v=.slice a n c)∧Mv w b (aJ s L) w' (Mk.feed s l).1 L' ∧∀k∈fp,(b≤k+1∧k≠b)∧k<w'.heap.size∧k∉aJ (Mk.feed s l).1 L' ∧(k∈aJ s L∨w.heap.size≤k):=by
 by_cases e1:s.ended=0
 .have R:Mk.feed s l=(Mk.take (bI s l),(aQ (bI s l)).list,(bI s l).ended):=by simp[Mk.feed,e1]
  rw[R];clear R;have r:=h.cell;have a7:=h.lt;have S:=h.dF;have HM:=aB h;have HG:=aB hG;have HI:=aB hI;have HP:=aB hp;have T:=aB S;unfold cellsOf at r;clear h hG hI hp S;obtain⟨A,J⟩:∃A,A=bI s l:=⟨_,rfl⟩;have B:=aB J;rw[←J];clear J;go_enter func36,ntmps36
  go_wp2
  go_loopw [6] (fun i w' =>∃k:Nat,k≤l.length∧i=.int .i64 k∧∃L1,Mv w b (aJ s L) w' (bI s (l.take k)) L1) (fun i _=>l.length - (intOf i).toNat)
  case atStart=>exact⟨0,by omega,rfl,L,(aA HM).start⟩
  case round=>
   obtain⟨j,hj,rfl,L1,m⟩:=hrel;clear r;have d:=sP (l.take j) (aA HI);have t:=vS (l.take j) s;have a8:(l.take j).length=j:=by simp;omega
   rw[a8]at d t;have K:=m.pq (aA HG) I (by omega) (fun q C=>((aA T) q C).1);by_cases X:j<l.length
   .have D:=Ii (l.take j) l[j] s;rw[←List.take_succ_eq_append_getElem X]at D;obtain⟨g,Y,hg,a9,Z,a2⟩:=(aA HP) j X;subst Y;have aa:wr.cell? ⟨g,j,none⟩=some (.int .u8 (l[j].toNat:Int)):=(World.cell?_of_block (a:=⟨g,j,none⟩) (m.fr.block g hg a9 Z)).trans a2;have ag:=m.fr.size;clear a2;by_cases e2:(bI s (l.take j)).ended=0
    .have M:=uT l[j];have a3:eU (bI s (l.take j)) l[j]={(Mk.read {bI s (l.take j)with at_:=(bI s (l.take j)).at_+1} (l[j].toNat:Int)).1 with ended:=(Mk.read {bI s (l.take j)with at_:=(bI s (l.take j)).at_+1} (l[j].toNat:Int)).2}:=by
      unfold eU;rw[if_pos e2]
     rw[a3]at D;clear a3;generalize(l[j].toNat:Int)=x at *;generalize a4:bI s (l.take (j+1))=s2 at *;generalize bI s (l.take j)=N at *;have E:=(m.store 28 (.int .i64 (N.at_+1)) {N with at_:=N.at_+1} rfl rfl rfl).drew;have a5:=E.pq (aA HG) I (by omega) (fun q C=>((aA T) q C).1);have HX:=aB (lu E.rd (show Inv _ {N with at_:=N.at_+1}from{d with}) (by omega) x M.1 M.2 a5 I);have r:=m.rd.cell;have hf:=m.rd.frozen;have G:=m.rd.lt;have o:=aB E;have ab:=aB D;have ae:=aB a4;unfold cellsOf at r;clear m E K a5 d D a4 M Z;generalize a6:Mk.read {N with at_:=N.at_+1} x=r2 at *;have ah:=aB a6;clear a6;go_wp2
     go_region_with (go_at_call 55;refine(aA HX).mono ?_;rintro e w1 ⟨rfl,L2,f⟩;have u:=f.rd.cell;have ai:=f.rd.frozen;have H:=f.rd.lt;have y:=aB f;clear f;unfold cellsOf at u)
     all_goals
      go_wp2
      go_roundw
      case rel=>
       refine⟨j+1,by omega,by go_num,L2,?_⟩;rw[aA ae,aA ab];exact((aA o).call (aA y)).store 29 _ _ rfl rfl rfl
      case measure=>simp[intOf];omega
    have hfin:bI s (l.take j)=A:=by
     rw[aA B];have h9:l=l.take j++l.drop j:=(List.take_append_drop j l).symm;conv=>rhs;rw[h9]
     rw[Ij,Ag (l.drop j) _ e2]
    rw[hfin]at m d;have HK:=aB (Ah m.rd (by have:=d.hx;omega) (by have:=d.hl;omega));have r:=m.rd.cell;have G:=m.rd.lt;have o:=aB m;have e3:(A.ended==0)=false:=by rw[beq_eq_false_iff_ne,←hfin];exact e2
    unfold cellsOf at r;clear m K d hfin t B;go_wp2_with fail
    refine(aA HK).mono ?_;rintro e w1 ⟨v,fp,L2,rfl,p,⟨va,vn,vc,rfl⟩,f,z⟩;have u:=f.rd.cell;have H:=f.rd.lt;have O:=aB p;have y:=aB f;have P:=aB z;have af:(Mk.take A).ended=A.ended:=by unfold Mk.take aQ;split<;>rfl
    unfold cellsOf at u;clear p f z HK r;go_wp2
    go_quiet(fail)
    go_wp2
    go_ret2;refine⟨_,fp,L2,rfl,(aA O).keep (fun _ _=>by rw[heap_drewN]),⟨_,_,_,rfl⟩,((aA o).call (aA y)).drewN _,fun q C=>?_⟩;have F:=(aA P) q C;refine⟨F.1,by rw[heap_drewN];exact F.2.1,F.2.2.1,?_⟩;rcases F.2.2.2 with Q|Q
    .exact(aA o).fr.aJ q Q
    exact .inr (Nat.le_trans (aA o).fr.size Q)
   have hfin:bI s (l.take j)=A:=by
    rw[aA B];rw[List.take_of_length_le (by omega)]
   rw[hfin]at m d;have HK:=aB (Ah m.rd (by have:=d.hx;omega) (by have:=d.hl;omega));have r:=m.rd.cell;have G:=m.rd.lt;have o:=aB m;have e3:decide ((j:Int)<(l.length:Int))=false:=by simp;omega
   unfold cellsOf at r;clear m K d hfin t B;go_wp2_with fail
   refine(aA HK).mono ?_;rintro e w1 ⟨v,fp,L2,rfl,p,⟨va,vn,vc,rfl⟩,f,z⟩;have u:=f.rd.cell;have H:=f.rd.lt;have O:=aB p;have y:=aB f;have P:=aB z;have af:(Mk.take A).ended=A.ended:=by unfold Mk.take aQ;split<;>rfl
   unfold cellsOf at u;clear p f z HK r;go_wp2
   go_quiet(fail)
   go_wp2
   go_ret2;refine⟨_,fp,L2,rfl,(aA O).keep (fun _ _=>by rw[heap_drewN]),⟨_,_,_,rfl⟩,((aA o).call (aA y)).drewN _,fun q C=>?_⟩;have F:=(aA P) q C;refine⟨F.1,by rw[heap_drewN];exact F.2.1,F.2.2.1,?_⟩;rcases F.2.2.2 with Q|Q
   .exact(aA o).fr.aJ q Q
   exact .inr (Nat.le_trans (aA o).fr.size Q)
 have R:Mk.feed s l=(s,[],s.ended):=by simp[Mk.feed,e1]
 rw[R];have r:=h.cell;have a7:=h.lt;have HM:=aB h;have e2:(s.ended !=0)=true:=by simpa using e1
 unfold cellsOf at r;clear h hI hG hp R e1;go_enter func36,ntmps36
 go_wp2
 go_quiet(fail)
 go_wp2
 go_ret2;exact⟨_,[],L,rfl,Iq _,⟨_,_,_,rfl⟩,(aA HM).start.drewN _,fun q C=>by cases C⟩
theorem Aj(d a t:Int)(n:Bool)(e:a≤32):Inv 0 (bC d a t n) where
 hx:=by simp[bC]
 ht:=by simp[bC]
 c0:=by simp[bC]
 c1:=by simp[bC]
 hl:=by simp[bC]
 ho:=by simp[bC]
 ha:=by simp[bC]
 hi:=fun _ _=>by simp[bC]
 oA:=e
 hb:=by simp[bC]
 hc:=by simp[bC]
 cb:=fun c hc=>by simp[bC]at hc
 av:=fun x hx=>by simp[bC]at hx
 an:=fun x hx=>by simp[bC]at hx
 ax:=by simp[bC]
 bv:=fun x hx=>by
  have:x=(Mk.qf,Mk.iN):=by simpa[bC]using hx
  subst this;decide
 hs:=.inl rfl
 pt:=by simp[Pt,bC]
 rn:=by simp[bC]
 r0:=by simp[bC]
 r1:=by simp[bC]
 m0:=by simp[bC]
 m1:=by simp[bC]
 am:=rfl
 on:=fun y b=>by simp[bC]at b
 hn:=by simp[bC]
 ev:=fun y b=>by simp[bC]at b
 l0:=by simp[bC]
 l1:=by simp[bC]
 mM:=by simp[bC]
 mO:=by simp[bC]
theorem Ir(h:Inv k s):Inv k (Mk.take s):=by
 unfold Mk.take aQ;split
 .exact{h with hl:=(by simp),ev:=(fun e a=>by simp at a)}
 exact{h with hx:=(by simp),hl:=(by simp),ev:=(fun e a=>by simp at a)}
theorem Iu(h:Inv k s)(l:Bs):Inv (k+12*l.length) (Mk.feed s l).1:=by
 unfold Mk.feed;split
 .exact Ir (sP l h)
 exact h.mono (by omega)
theorem Iv(s:St)(l:Bs):s.at_≤(Mk.feed s l).1.at_∧(Mk.feed s l).1.at_≤s.at_+l.length:=by
 unfold Mk.feed;split
 .have a:=vS l s;have b:=GN (bI s l);show s.at_≤(aQ (bI s l)).at_∧(aQ (bI s l)).at_≤_;rw[b];exact a
 exact⟨Int.le_refl _,by show s.at_≤_;omega⟩
theorem mQ.slice{w:World}{v:Value}{l:List Ev}{fp:List Nat}(h:mQ w v l fp):∃a c,v=.slice a l.length c:=by
 obtain⟨d,e,b,f,g,i⟩:=h.ex;exact slice_form b
theorem sQ{B j:Nat}{b a:Array Value}{u:Value}(h:W.heap[B]?=some (.cells b t (0,0)))(c:b.setIfInBounds j u=a):(W.setCell ⟨B,j,none⟩ u).heap[B]?=some (.cells a t (0,0)):=by
 rw[←c];exact heap_setCell_same _ _ _ _ _ _ h
theorem vT{w' :World}(h:w.grownBy w' none):Below w.heap.size w w' :=⟨h.os,h.tape,h.output,h.size,fun k a=>h.block k a (by simp)⟩
theorem Iw(w:World)(t b e:TypeId)(i:TypeInfo)(d:P.underlying t=some (.slice e))(f:P.info? e=some i)(a:Option Addr)(c:Nat):
 (Builtin.append_ #[t,t] b #[.slice none 0 0,.slice a 0 c]).run P w=.ok (.slice none 0 0) w:=by
 cases a<;>simp[Builtin.append_,run_underlying d,sizeOf,typeInfo,f,Builtin.lenOf,Builtin.firstCells,storeCells,loadCells,loadCellsFrom]
theorem Iy{b:Array Oper}{rest:List Oper}{o:Oper}{a:Act}{Q:Exit→Act→World→Prop}(d:o.guard=none)(s x:Operand)(t e:TypeId)
 (g:o.op=.call {callee:=.builtin .append,args:=#[s,x],argTypes:=#[t,t]}) (i:TypeInfo) (j:P.underlying t=some (.slice e)) (k:P.info? e=some i) (f:Option Addr) (c:Nat) (l:a.eval s=.slice none 0 0) (m:a.eval x=.slice f 0 c)
 (h:wpList P b Q rest (a.put o.dst (.slice none 0 0)) w):wpList P b Q (o::rest) a w:=
 wpList_plain d fun _ n=>by
  unfold Oper.wp execOp;simp only[g,resolve,invoke,builtin,Sem.run_bind,Sem.run_pure,Result.andThen_ok,List.map_toArray,List.map_cons,List.map_nil,l,m,Iw w t o.type e i j k f c];exact n _ _ h
theorem Iz(h:aK w b s L)(M:s.opn.length≤1000000000):
 Calls Tryz.prog 59 #[.pointer (some ⟨b,0,none⟩)] w fun e w' =>∃oa F,e=.returned (.slice oa s.opn.length F)∧w'.ownsRow w.heap.size 9 1 (.slice oa s.opn.length F) s.opn.length (s.opn.map sv)∧Below w.heap.size w w' :=by
 have t:=h.cell;have I:=h.lt;have p:=aB (h.rows.own (bE s L) (by simp[rowsOf]));unfold cellsOf at t;clear h;cases d:s.opn with
 |nil=>
  rw[d]at t;clear p d;obtain⟨v,z,f,i,k⟩:=info_parts vg;go_enter func59,ntmps59
  go_wp2_with(at_builtin;refine Iy rfl (.tmp 4) (.tmp 8) 34 9 rfl v underlying34 z L.oa L.oc rfl rfl ?_)
  go_ret;exact⟨none,0,rfl,World.ownsRow_nil _ _ _ _,Below.refl _ _⟩
 |cons y r=>
  obtain⟨g,c,G,A,J⟩:=World.ownsRow.form (aA p) (by simp[bE,d]);simp only[bE]at G;injection G with l B C;have m:=aA p;have a:Hid (∀j u,(s.opn.map sv)[j]?=some u→w.cell? ((⟨g,0,none⟩:Addr).add j)=some u):=fun j u q=>by
   have n:(⟨g,0,none⟩:Addr).add j=⟨g,j,none⟩:=by unfold Addr.add;split<;>simp_all
   have N:j<s.opn.length:=by
    have:=(List.getElem?_eq_some_iff.1 q).1;simpa using this
   unfold Row.owned bE at m;simp only at m;rw[l]at m;rw[n,qx m j (by omega)];exact q
  obtain⟨v,z,f,i,k⟩:=info_parts vg;rw[l]at t;rw[←d];have o:0<s.opn.length:=by simp[d]
  have K:Hid (w.ownsRow w.heap.size 9 1 (.slice none 0 0) 0 []):=World.ownsRow_nil _ _ _ _;clear p m d B C A;go_enter func59,ntmps59
  go_wp2_with(at_builtin;refine wpList_append_lies _ rfl (.tmp 4) (.tmp 8) 34 rfl w.heap.size 9 v _ 1 16 underlying34 z f i k rfl (by decide) (.slice none 0 0) 0 [] rfl (aA K) ⟨g,0,none⟩ s.opn.length L.oc (s.opn.map sv) rfl (by simp) (aA a) (by intro u q;obtain⟨x,_,rfl⟩:=List.mem_map.1 q;rfl) o (by unfold maxLen;omega) (by omega) (Nat.le_refl _) w.heap.size rfl ?_;intro g2 cap w2 hown hgrow D H;rw[Nat.zero_add]at *;have HOW:=aB hown;have E:=aB hgrow;clear hown hgrow D)
  go_ret;exact⟨_,_,rfl,aA HOW,vT (aA E)⟩
theorem IA(h:aK w b s L)(d:s.opn.length≤1000000000):
 Calls Tryz.prog 40 #[.pointer (some ⟨b,0,none⟩)] w fun e w' =>∃oa c,e=.returned (.slice oa s.opn.length c)∧w'.ownsRow w.heap.size 9 1 (.slice oa s.opn.length c) s.opn.length (s.opn.map sv)∧Below w.heap.size w w' :=by
 have f:=aB (Iz h d);have g:=h.lt;clear h;go_enter func40,ntmps40
 go_wp2_with(go_at_call 59;refine(aA f).mono ?_;rintro e w' ⟨oa,c,rfl,hown,a⟩;have HOW:=aB hown;have i:=aB a;clear hown a)
 go_ret;exact⟨_,_,rfl,aA HOW,aA i⟩
theorem below_drewN{B:Nat}{a:World}(h:Below B a w)(n:Nat):Below B a (w.drewN n):=⟨h.os,h.tape,h.output,h.size,h.block⟩
def tx(u:Bs):Ev:=⟨3,[],[],u,[]⟩
def out(l:List Ev)(t:Bs):List Ev:=if t.length=0 then l else l++[tx t]
theorem Ak{H:Type}{enc:TypeId×Value→H}{sp:Nat→Bool}{c:Bool}{a:Nat}{f:List Value}{zs:List Bs}{p:List MemPlace}
 (q:P.underlying t=some (.array n e)) (r:P.underlying e=some .string) (g:P.cellsOf e=1) (j:P.cellsOf t=n)
 (h:DataW.trod enc P w base sp c a t f=some (.agg (zs.map fun z=>.lit (.string z)),p)):f=zs.map fun z=>Value.string ⟨z.toArray⟩:=by
 cases a with
 |zero=>simp[DataW.trod]at h
 |succ a=>
  simp only[DataW.trod,q,g,j,Nat.mul_one]at h;split at h
  .rename_i D;obtain⟨k,o,s⟩:=Option.map_eq_some_iff.1 h;have d:k.map (·.1)=zs.map fun z=>(DataW.lit (.string z):DataW H):=by
    have:=congrArg Prod.fst s;simpa using this
   have u:k.length=n:=by simpa using Lib.mapM_length o
   have v:zs.length=n:=by
    have:=congrArg List.length d;simp at this;omega
   apply List.ext_getElem?;intro i;by_cases x:i<n
   .obtain⟨b,y,A⟩:=Lib.mapM_at o i i (by simp[x]);obtain⟨z,B,rfl,_⟩:=DataW.trod_string r A;have C:f[i]?=some (.string z):=by
     have:=congrArg (·[0]?) B;simpa[List.getElem?_take,List.getElem?_drop]using this
    have l:(k.map (·.1))[i]?=some (DataW.lit (.string z.data.toList):DataW H):=by simp[y]
    rw[d]at l;simp only[List.getElem?_map,Option.map_eq_some_iff,DataW.lit.injEq,Lit.string.injEq]at l;obtain⟨E,m,rfl⟩:=l;simp[C,m]
   rw[List.getElem?_eq_none (by omega),List.getElem?_eq_none (by simp;omega)]
  cases h
theorem Al : Tryz.prog.globalNamed "markup/refs.names" = some 1 := by kernel_rfl
theorem vU : Tryz.prog.globalNamed "markup/refs.named" = some 2 := by kernel_rfl
theorem IB:(Tryz.prog.globals[1]?).map (·.type)=some 183:=by kernel_rfl
theorem IC:(Tryz.prog.globals[2]?).map (·.type)=some 186:=by kernel_rfl
theorem Am:Tryz.prog.cellsOf 183=5:=by kernel_rfl
theorem ID:Tryz.prog.cellsOf 186=5:=by kernel_rfl
theorem qF:Tryz.prog.cellsOf 9=1:=by kernel_rfl
theorem sS:Tryz.prog.cellsOf 3=1:=by kernel_rfl
theorem tables  (h : laidMetH Tryz.prog [("markup/refs.names", Rows.laid_markup_refs_names), ("markup/refs.named", Rows.laid_markup_refs_named)] W) : Gl W ∧ 2 < W.heap.size := by
 have d : laidMet Tryz.prog [("markup/refs.names", Rows.laid_markup_refs_names), ("markup/refs.named", Rows.laid_markup_refs_named)] W := h;have e : Lib.TabIs Tryz.prog W "markup/refs.named" .i64 [60, 62, 38, 34, 39] := Lib.tabIs_of_head (rest := []) vU IC underlying186 underlying3 sS ID d.tail;have j : W.var? Tryz.prog "markup/refs.names" = some (([[108, 116, 59], [103, 116, 59], [97, 109, 112, 59], [113, 117, 111, 116, 59], [97, 112, 111, 115, 59]] : List Bs).map fun z => Value.string ⟨z.toArray⟩).toArray := by
  obtain⟨ps,⟨k,l,m,f,p,q,b,c,a,hd,_,_⟩,_⟩:=d;obtain rfl:=Option.some.inj (Al.symm.trans b);obtain rfl:=Option.some.inj (IB.symm.trans c);rw[a,←Ak (zs:=[[108,116,59],[103,116,59],[97,109,112,59],[113,117,111,116,59],[97,112,111,115,59]]) underlying183 underlying9 qF Am hd]
 refine⟨⟨fun i=>?_,fun i=>?_⟩,?_⟩
 .rw[World.var?_cell Al j i];simp[fJ]
 .rw[World.var?_cell vU e i];simp[fJ]
 have:=e;unfold Lib.TabIs World.var? at this;rw[vU]at this;simp only[Option.bind_some]at this;cases g:W.heap[2]? with
 |none=>rw[g]at this;cases this
 |some o=>exact(Array.getElem?_eq_some_iff.1 g).1
theorem IE{g o:Nat}{x:Value}(h:W.cell? ⟨g,o,none⟩=some x):g<W.heap.size:=by
 unfold World.cell? at h;cases a:W.heap[g]? with
 |none=>simp[a]at h
 |some o=>exact(Array.getElem?_eq_some_iff.1 a).1
end Go.Proofs.YtmgfijllcdadgaaGreatDoor
