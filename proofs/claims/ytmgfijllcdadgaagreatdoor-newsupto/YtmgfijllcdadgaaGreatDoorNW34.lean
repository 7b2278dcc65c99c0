import Derived.Test.YtmgfijllcdadgaaGreatDoorNW33
import Derived.Test.YtmgfijllcdadgaaGreatDoorNW32
import Derived.Lib.BufferWrite
import Derived.OwnWalk
import Derived.Test.YtmgfijllcdadgaaGreatDoorNW13
import Derived.Laws.CopyOwn
set_option linter.unusedVariables false
set_option linter.unusedSimpArgs false
set_option maxHeartbeats 1000000
set_option maxRecDepth 100000
namespace Go.Proofs.YtmgfijllcdadgaaGreatDoor.U
open Go.RowKit
open Mk (Bs Ev aD)
open V
open Go.Lib
open Go.Proofs.Tryz
variable {base n c k i:Nat}{e:TypeId}{a:Option Addr}{l:List Row}
def lH:Value→Value
 |.slice a _ c=>.slice a c c
 |v=>v
theorem Lc{w:World}{size:Nat}{j:List Value}(h:w.ownsRow base e size (.slice a n c) n j):cV w size a c 0 []∧(∀k,aT a k→base≤k∧k<w.heap.size):=by
 refine⟨?_,fun k q=>World.ownsRow.lt h k (by cases a with|none=>exact absurd q fV|some x=>exact q)⟩;rcases h.2 with⟨b,_⟩|⟨g,cap,d,b,t,l,m,o,p,_⟩
 .injection b with f r i;subst f i;exact .nil _ _ _ _
 injection b with f r i;subst f i;exact⟨o,fun _=>⟨g,d,e,rfl,l,by omega,fun q s=>by cases s⟩⟩
theorem kx(h:aT a k):(Value.slice a n c).ownBlock=some k:=by
 cases a with
 |none=>exact absurd h fV
 |some x=>exact h
theorem Cy{x:Row}(h:(aW (x::l)).Nodup){y:Row}(a:y∈l)(b:x.v.ownBlock=some k)(c:y.v.ownBlock=some k):False:=by
 unfold aW at h;rw[List.filterMap_cons,b]at h;exact(List.nodup_cons.1 h).1 (List.mem_filterMap.2 ⟨y,a,c⟩)
theorem Cz(h:(aW l).Nodup)(i:Nat):(aW (l.drop i)).Nodup:=by
 unfold aW at h⊢;exact h.sublist ((List.drop_sublist i l).filterMap _)
theorem pI:(Tryz.prog.info? 63).map (fun i=>(i.zero,i.size,i.bytes))=some (some (.slice none 0 0),1,24):=by kernel_rfl
section
variable {w:World}{O:Nat→Nat×Nat}{b:Nat}{pl:List (Pl×PA)}{pa:Option Addr}{pc:Nat}{fp:List Nat}{n0:Nat}{es:List (Ev×Value)}{aa:Option Addr}{ac:Nat}
theorem ow{d:World}{l:Nat→Nat×Nat}{g:List HA}{m:Option Addr}{o:Nat}(h:WI d l b pl g pa pc m o)(p:c≤3){t:List Value}(u:d.ownsRow base e (jU c) (.slice a n i) n t)(v:∀k,aT a k→l k=fr)(w:g.length≤17000000000000):
 Calls Tryz.prog 68 #[.pointer (some ⟨b,0,none⟩),.pointer (some ⟨d.heap.size,0,none⟩)] (d.alloc (.cells (jE c (.slice a i i) 0) 120)) fun e w' =>e=.returned (.tuple #[])∧∃O' ha' hc', WI w' O' b pl (g++[⟨d.heap.size,c,a,i,i⟩]) pa pc ha' hc' ∧bF (aT a) l O' d w' :=by
 have j:=cZ d (.cells (jE c (.slice a i i) 0) 120);obtain⟨x,r⟩:=Lc u;refine(Lb (h.below j) (heap_alloc_new d _) p (h.nw _ (Nat.le_refl _)) (x.below j) (fun k q=>⟨v k q,by have:=(r k q).2;omega,by have:=(r k q).2;simp;omega⟩) w).mono fun e w' ⟨y,O', ha', hc', z,s⟩=>⟨y,O', ha', hc', z,?_⟩
 refine⟨Ch.trans (.of_below j) s.ch fun k A f=>?_,fun k A f B=>s.tag k (by simp;omega) f fun e=>?_⟩
 .rcases f with f|f|f
  .exact .inl f
  .omega
  exact .inr f
 rcases e with e|e
 .omega
 exact B e
structure KI(w:World)(O:Nat→Nat×Nat)(b:Nat)(pl:List (Pl×PA))(pa:Option Addr)(pc:Nat)(fp:List Nat)(n0:Nat)(es:List (Ev×Value))(aa:Option Addr)(ac:Nat)(i:Nat)(wx:World)(O2:Nat→Nat×Nat)(hl2:List HA)(ha2:Option Addr)(hc2:Nat):Prop where
 wi:WI wx O2 b pl hl2 pa pc ha2 hc2
 len:hl2.length=n0+1+i
 gA:bF (· ∈fp) O O2 w wx
 row:wx.ownsRow w.heap.size 63 1 (.slice aa es.length ac) es.length (es.map fun p=>lH p.2)
 ro:∀k,aT aa k→O2 k=fr
 es:∀p∈es.drop i,(aN p).owned wx 0∧∀k,p.2.ownBlock=some k→O2 k=fr
theorem KI.next{n w3:World}{s O3:Nat→Nat×Nat}{g:List HA}{t mq:Option Addr}{u hc3:Nat}(h:KI w O b pl pa pc fp n0 es aa ac i n s g t u)(v:i<es.length){m:Nat}(A:es[i].2=.slice a m c)(x:(aW (es.map aN)).Nodup)(y:∀k∈aW (es.map aN),k∈fp∧k<w.heap.size)
 (G:WI w3 O3 b pl (g++[⟨n.heap.size,1,a,c,c⟩]) pa pc mq hc3) (j:bF (aT a) s O3 n w3):
 KI w O b pl pa pc fp n0 es aa ac (i+1) w3 O3 (g++[⟨n.heap.size,1,a,c,c⟩]) mq hc3:=by
 have l:∀k,aT a k→k∈fp∧k<w.heap.size:=fun k q=>y k (List.mem_filterMap.2 ⟨aN es[i],List.mem_map_of_mem (List.getElem_mem v),by simp only[aN,A];exact kx q⟩)
 have d:∀k,k<n.heap.size→s k=fr→¬aT a k→w3.heap[k]?=n.heap[k]?∧O3 k=fr:=fun k B C D=>⟨j.ch.block k B fun e=>by rcases e with e|e;exact e C;exact D e,j.tag k B C D⟩
 have f:=Cz x i;rw[←List.map_drop,List.drop_eq_getElem_cons v,List.map_cons]at f;have o:∀p∈es.drop (i+1),∀k,p.2.ownBlock=some k→¬aT a k:=fun p r k q e=>Cy f (List.mem_map_of_mem r) (show es[i].2.ownBlock=some k by rw[A];exact kx e) q
 refine⟨G,by rw[List.length_append,h.len];simp;omega,h.gA.trans j fun q I e=>(l q e).1,?_,fun k q=>?_,fun p r=>?_⟩
 .exact gY h.row fun k q=>(d k (World.ownsRow.lt h.row k q).2 (h.ro k (iU q)) fun e=>by have E:=(World.ownsRow.lt h.row k q).1;have H:=(l k e).2;omega).1
 .have E:=World.ownsRow.lt h.row k (kx q);exact(d k E.2 (h.ro k q) fun e=>by have H:=(l k e).2;omega).2
 obtain⟨z,F⟩:=h.es p (by rw[List.drop_eq_getElem_cons v];exact List.mem_cons_of_mem _ r);exact⟨fP z fun k q=>(d k (World.ownsRow.lt z k q).2 (F k q) (o p r k q)).1,fun k q=>(d k (World.ownsRow.lt z k q).2 (F k q) (o p r k q)).2⟩
theorem KI.first{u:List HA}{f w2:World}{v:Nat→Nat×Nat}{G m:Option Addr}{H j:Nat}{l:List Ev}(x:WI w O b pl u pa pc G H)(o:∀k∈fp,O k=fr∧k<w.heap.size)(C:bL w 0 (⟨65,5,.slice a es.length j,l.length,bA es⟩::es.map aN))(r:∀k∈aW (⟨65,5,.slice a es.length j,l.length,bA es⟩::es.map aN),k∈fp)
 (y:Below w.heap.size w f) (hrow:f.ownsRow w.heap.size 63 1 (.slice aa es.length ac) es.length (es.map fun p=>lH p.2)) (z:WI w2 v b pl (u++[⟨f.heap.size,0,a,j,j⟩]) pa pc m n) (g:bF (aT a) O v f w2):
 KI w O b pl pa pc fp u.length es aa ac 0 w2 v (u++[⟨f.heap.size,0,a,j,j⟩]) m n:=by
 have s:∀k,aT a k→k∈fp:=fun k q=>r k (List.mem_filterMap.2 ⟨_,List.mem_cons_self,kx q⟩)
 have c:∀k,k<f.heap.size→O k=fr→¬aT a k→w2.heap[k]?=f.heap[k]?∧v k=fr:=fun k D E F=>⟨g.ch.block k D fun e=>by rcases e with e|e;exact e E;exact F e,g.tag k D E F⟩
 have t:∀k,aT aa k→k<f.heap.size∧O k=fr∧¬aT a k:=fun k q=>by
  have d:=World.ownsRow.lt hrow k (kx q);exact⟨d.2,x.nw k d.1,fun e=>by have:=(o k (s k e)).2;omega⟩
 refine⟨z,by simp,(bF.of_below (· ∈fp) y).trans g fun q _ e=>s q e,gY hrow fun k q=>?_,fun k q=>?_,fun p I=>?_⟩
 .obtain⟨d,A,B⟩:=t k (iU q);exact(c k d A B).1
 .obtain⟨d,A,B⟩:=t k q;exact(c k d A B).2
 have h:aN p∈es.map aN:=List.mem_map_of_mem I;have J:=C.own _ (List.mem_cons_of_mem _ h);have i:∀k,p.2.ownBlock=some k→k<w.heap.size∧O k=fr∧¬aT a k:=fun k q=>by
  have d:=o k (r k (@lQ [_] _ k (List.mem_filterMap.2 ⟨_,h,q⟩)));exact⟨d.2,d.1,fun e=>Cy C.nd h (kx e) q⟩
 have K:=y.size;exact⟨fP J fun k q=>((c k (by have:=(i k q).1;omega) (i k q).2.1 (i k q).2.2).1).trans (y.block k (i k q).1),fun k q=>(c k (by have:=(i k q).1;omega) (i k q).2.1 (i k q).2.2).2⟩
theorem Ld(v:Value)(m:Int):jE 0 v m=#[v,.slice none 0 0,.slice none 0 0,.slice none 0 0,.int .i64 m]:=rfl
theorem Lf(v:Value)(m:Int):jE 1 v m=#[.slice none 0 0,v,.slice none 0 0,.slice none 0 0,.int .i64 m]:=rfl
theorem CB(v:Value)(m:Int):jE 2 v m=#[.slice none 0 0,.slice none 0 0,v,.slice none 0 0,.int .i64 m]:=rfl
theorem um(v:Value)(m:Int):jE 3 v m=#[.slice none 0 0,.slice none 0 0,.slice none 0 0,v,.int .i64 m]:=rfl
theorem CF{L:List HA}{ha:Option Addr}{hc:Nat}{v:Value}{l:List Ev}(h:WI w O b pl L pa pc ha hc)(hg:iR w v l fp)(r:∀k∈fp,O k=fr∧k<w.heap.size)(hn:L.length+l.length+1≤17000000000000)(am:l.length≤1000000000):
 Calls Tryz.prog 69 #[.pointer (some ⟨b,0,none⟩),v] w fun e w' =>e=.returned (.tuple #[])∧∃O' hl' ha' hc', WI w' O' b pl hl' pa pc ha' hc' ∧hl'.length=L.length+l.length+1∧bF (· ∈fp) O O' w w' :=by
 obtain⟨es,t,A,h3⟩:=hg.ex;have B:es.length=l.length:=by rw[←t];simp
 have C:=A.head;unfold Row.owned at C;dsimp only at C;rw[←B]at C hn am;obtain⟨M,D,an⟩:=b_ C;subst an;have ao:=A.nd;have ap:=aB B;have x:=aB (And.intro h (And.intro r (And.intro A h3)));have HC:=aB (fun k hk=>kN (l:=es) (fun p=>bP p.1 p.2) (fun _=>rfl) (by decide) C rfl k hk);have HE:=aB (fun k (hk:k<es.length)=>A.own (aN es[k]) (List.mem_cons_of_mem _ (List.mem_map_of_mem (List.getElem_mem hk))));have HN:Hid (w.ownsRow w.heap.size 63 1 (.slice none 0 0) 0 []):=World.ownsRow_nil _ _ _ _;have E:=aB C;obtain⟨i0,Q,R,S,T⟩:=info_parts pI;clear h hg r t A h3 B C ao;go_enter func69,ntmps69
 go_wp2_with fail
 go_loopg [5,6] es.length (fun g s5 s6 wx=>∃(i:Nat) (aa:Option Addr) (ac:Nat),i≤es.length∧g=es.length - i∧s5=.slice aa i ac∧s6=.int .i64 i∧Hid (Below w.heap.size w wx∧wx.ownsRow w.heap.size 63 1 (.slice aa i ac) i ((es.take i).map fun p=>lH p.2)))
 case atStart=>exact⟨0,none,0,Nat.zero_le _,rfl,rfl,rfl,aB ⟨Below.refl _ _,by simpa using aA HN⟩⟩
 case round=>
  obtain⟨i,aa,ac,hi,rfl,rfl,rfl,o⟩:=hrel;by_cases a:i<es.length
  .have e1:decide ((i:Int)<(es.length:Int))=true:=by simp;omega
   have e2:(i:Int)<(es.length:Int):=by omega
   obtain⟨g,c9,f1,f2,f3⟩:=aA HC i a;injection f1 with f1 _ aq;subst f1 aq;have f4:=f3 4 (by decide);rw[←fU ((aA o).1.block g f2)]at f4;have Y:g<wr.heap.size:=Nat.lt_of_lt_of_le f2 (aA o).1.size;have F:=(aA o).1.size;have hx:=aA HE i a;have Z:=aB (show i+1≤maxLen by unfold maxLen;omega);have hrow:(es.take (i+1)).map (fun p=>lH p.2)=((es.take i).map fun p=>lH p.2)++[lH es[i].2]:=by rw[List.take_add_one,List.getElem?_eq_getElem a,List.map_append];rfl
   have y:=aB hrow;simp only[bP,List.getElem?_cons_succ,List.getElem?_cons_zero]at f4;rcases hx.2 with⟨d,hz⟩|⟨g', cap,ar,d,_,_,a0,a1,_⟩
   .replace d:es[i].2=.slice none 0 0:=d;rw[d]at f4 y;have HO:=aB ((aA o).2.alloc (.cells #[.slice none 0 0] 63));have HB:=aB (show(wr.alloc (.cells #[.slice none 0 0] 63)).heap[wr.heap.size]?=_ from heap_alloc_new wr _);have G:=aB ((aA o).1.alloc F (.cells #[.slice none 0 0] 63));clear hx hz f3 HC HE hrow d o;go_wp2_with(at_builtin;refine wpList_append_lies _ rfl _ _ 109 rfl w.heap.size 63 i0 _ 1 24 underlying109 Q R S T rfl (by decide) (.slice aa i ac) i ((es.take i).map fun p=>lH p.2) (by simp[Act.eval]) (aA HO) ⟨wr.heap.size,0,none⟩ 1 1 [.slice none 0 0] (by simp[Act.eval]) rfl (World.news_of_block (aA HB)) (by simp[Value.oneCell']) (by decide) (aA Z) (by omega) (by simp;omega) (wr.heap.size+1) (by simp) ?_;intro g2 s w3 hown hgrow H a2;have HG:=aB (And.intro (uY (aA G) (by simp;omega) (aA HO) hgrow) hown);clear hown hgrow H)
    go_roundg (es.length - (i+1))
    case measure=>omega
    case rel=>exact⟨i+1,some ⟨g2,0,none⟩,s,by omega,rfl,rfl,by simp,aB ⟨(aA HG).1,by rw[aA y];exact(aA HG).2⟩⟩
   replace d:es[i].2=.slice (some ⟨g', 0,none⟩) es[i].1.aC.length cap:=d;rw[d]at f4 y;have HO:=aB ((aA o).2.alloc (.cells #[.slice (some ⟨g', 0,none⟩) cap cap] 63));have HB:=aB (show(wr.alloc (.cells #[.slice (some ⟨g', 0,none⟩) cap cap] 63)).heap[wr.heap.size]?=_ from heap_alloc_new wr _);have G:=aB ((aA o).1.alloc F (.cells #[.slice (some ⟨g', 0,none⟩) cap cap] 63));have aw:(es[i].1.aC.length:Int)≤(cap:Int):=by have:es[i].1.aC.length≤cap:=a0;omega
   have av:cap≤9223372036854775807:=a1;generalize es[i].1.aC.length=al at *;clear hx a0 a1 f3 HC HE hrow d o;go_wp2_with(at_builtin;refine wpList_append_lies _ rfl _ _ 109 rfl w.heap.size 63 i0 _ 1 24 underlying109 Q R S T rfl (by decide) (.slice aa i ac) i ((es.take i).map fun p=>lH p.2) (by simp[Act.eval]) (aA HO) ⟨wr.heap.size,0,none⟩ 1 1 [.slice (some ⟨g', 0,none⟩) cap cap] (by simp[Act.eval]) rfl (World.news_of_block (aA HB)) (by simp[Value.oneCell']) (by decide) (aA Z) (by omega) (by simp;omega) (wr.heap.size+1) (by simp) ?_;intro g2 s w3 hown hgrow H a2;have HG:=aB (And.intro (uY (aA G) (by simp;omega) (aA HO) hgrow) hown);clear hown hgrow H)
   go_roundg (es.length - (i+1))
   case measure=>omega
   case rel=>exact⟨i+1,some ⟨g2,0,none⟩,s,by omega,rfl,rfl,by simp,aB ⟨(aA HG).1,by rw[aA y];exact(aA HG).2⟩⟩
  have e1:decide ((i:Int)<(es.length:Int))=false:=by simp;omega
  have e3:decide (i<es.length)=false:=by simp;omega
  obtain⟨j,hj⟩:∃j,j=i:=⟨i,rfl⟩;subst hj;have a3:=aB (show j=es.length by omega);rw[aA a3,List.take_length]at o;obtain⟨a4,r,hR,a6⟩:=aA x;have hw:=a4.below (aA o).1;have a7:wr.ownsRow 0 65 (jU 0) (.slice M es.length D) es.length (bA es):=gY (aA E) fun k q=>(aA o).1.block k (World.ownsRow.lt (aA E) k q).2
  have a8:∀k,aT M k→O k=fr:=fun k q=>(r k (a6 k (List.mem_filterMap.2 ⟨_,List.mem_cons_self,kx q⟩))).1
  have I:=aB (ow hw (by decide) a7 a8 (by omega));have F:=(aA o).1.size;have HW:=aB hw;have J:(M=none∧D=0∧es.length=0)∨∃g,M=some ⟨g,0,none⟩∧es.length≤D∧D≤9223372036854775807:=by
   rcases(aA E).2 with⟨t,A⟩|⟨g,cap,ar,t,_,_,h4,h5,_⟩
   .injection t with t _ h5;exact .inl ⟨t,h5,A⟩
   injection t with t _ h5;subst h5;exact .inr ⟨g,t,h4,by assumption⟩
  have ax:(es.length:Int)≤(D:Int):=by omega
  clear a4 r hR a6 hw a7 a8 HC HE a hi;rw[Ld]at I;have X:∀w2 z f m,WI w2 z b pl (L++[⟨wr.heap.size,0,M,D,D⟩]) pa pc f m→bF (aT M) O z wr w2→Hid (∃z K f m,KI w O b pl pa pc fp L.length es aa ac 0 w2 z K f m):=fun w2 z f m N P=>aB ⟨_,_,_,_,KI.first (aA x).1 (aA x).2.1 (aA x).2.2.1 (aA x).2.2.2 (aA o).1 (aA o).2 N P⟩
  have a9:=aB X;clear X;rcases J with⟨rfl,rfl,-⟩|⟨g,rfl,ay,az⟩;all_goals
   go_wp2_with fail
   refine(aA I).mono ?_;rintro e w2 ⟨rfl,z,f,m,ab,ad⟩;have ae:=aA a9 w2 z f m ab ad;clear ab ad I o HW a9;go_wp2_with fail
   go_loopg [8] es.length (fun g s8 wx=>∃i:Nat,i≤es.length∧g=es.length - i∧s8=.int .i64 i∧Hid (∃z K f m,KI w O b pl pa pc fp L.length es aa ac i wx z K f m))
   case atStart=>exact⟨0,Nat.zero_le _,rfl,rfl,ae⟩
   case round=>
    obtain⟨i,hi,rfl,rfl,HJ⟩:=hrel;clear ae;by_cases a:i<es.length
    .try(exfalso;omega)
     all_goals
      have e1:decide ((i:Int)<(es.length:Int))=true:=by simp;omega
      have e2:(i:Int)<(es.length:Int):=by omega
      have e4:(i:Int)<(j:Int):=by have:=aA a3;omega
      obtain⟨O4,af,ag,ah,u⟩:=aA HJ;obtain⟨ho,hf⟩:=u.es es[i] (by rw[List.drop_eq_getElem_cons a];exact List.mem_cons_self);unfold Row.owned at ho;obtain⟨a5,c5,d⟩:=b_ ho;rw[d]at ho;have ai:=u.len;replace d:es[i].2=.slice a5 (aN es[i]).n c5:=d;have I:=aB (ow u.wi (c:=1) (by decide) ho (fun k q=>hf k (by rw[d];exact kx q)) (by omega));rw[Lf]at I;obtain⟨g6,rfl,Y,aj⟩:=ou (nM u.row (Nat.zero_le _)) a;rw[show(es.map fun p=>lH p.2)[i]?=some (.slice a5 c5 c5) by simp[a,d,lH]]at aj;have ak:=aB (fun w3 O3 mq hc3 N P=>u.next (w3:=w3) (O3:=O3) (mq:=mq) (hc3:=hc3) a d (Cz (aA x).2.2.1.nd 1) (fun k q=>⟨(aA x).2.2.2 k (@lQ [_] _ k q),((aA x).2.1 k ((aA x).2.2.2 k (@lQ [_] _ k q))).2⟩) N P);clear u ho hf d HJ ai;go_wp2_with fail
      refine(aA I).mono ?_;rintro e w3 ⟨rfl,O3,mq,hc3,N,P⟩;have au:=aB (aA ak w3 O3 mq hc3 N P);clear N P ak I aj Y;go_wp2_with fail
      go_roundg (es.length - (i+1))
      case measure=>omega
      case rel=>exact⟨i+1,by omega,rfl,by simp,aB ⟨_,_,_,_,aA au⟩⟩
    have e1:decide ((i:Int)<(es.length:Int))=false:=by simp;omega
    have e3:decide (i<es.length)=false:=by simp;omega
    rw[show i=es.length by omega]at HJ;go_wp2_with fail
    go_end0
    obtain⟨O4,af,ag,ah,u⟩:=aA HJ;exact⟨rfl,O4,af,ag,ah,u.wi,by rw[u.len,←aA ap];omega,u.gA⟩
end
theorem Lg:(Tryz.prog.info? 5).map (fun i=>(i.zero,i.size,i.bytes))=some (some (.int .u8 0),1,1):=by kernel_rfl
theorem PW(s:Bs):(hd s).length=s.length+3:=by simp[hd]
def hdc(s:Bs)(i:Nat):Array Value:=(s.map bv++([.int .u8 81,.int .u8 82,.int .u8 83]:List Value).take i++List.replicate (3 - i) (Value.int .u8 0)).toArray
theorem Lh(s:Bs)(i:Nat)(a:i≤3):(hdc s i).size=s.length+3:=by simp[hdc];omega
theorem Li(s:Bs):hdc s 3=((hd s).map bv).toArray:=by simp[hdc,hd,bv]
theorem Lj(s:Bs)(i:Nat)(a:i<3):(hdc s i).setIfInBounds (s.length+i) (.int .u8 ((81:Int)+i))=hdc s (i+1):=by
 have h:i=0∨i=1∨i=2:=by omega
 rcases h with rfl|rfl|rfl<;>simp[hdc,List.replicate,List.setIfInBounds_toArray,List.set_append]
theorem CG(s:Bs)(M:s.length≤1000000000)(w:World):Calls Tryz.prog 70 #[.string ⟨s.toArray⟩] w fun e w' =>e=.returned (.slice (some ⟨w.heap.size,0,none⟩) (s.length+3) (s.length+3))∧w'.heap[w.heap.size]?=some (.cells ((hd s).map bv).toArray 5 (0,0))∧Below w.heap.size w w' :=by
 obtain⟨D,z,r,h,t⟩:=info_parts Lg;go_enter func70,ntmps70
 go_wp2_with(at_make;apply Classical.byContradiction;intro a)
 apply a;clear a;refine wpList_make_full _ rfl _ _ 74 rfl w.heap.size 5 D (.int .u8 0) 1 underlying74 z r h .i64 .i64 _ _ (s.length+3) rfl rfl (by simp) (by simp) (by rw[t];omega) (by unfold maxLen;omega) (Nat.le_refl _) ?_;intro w1 hown j;have v:w1.heap[w.heap.size]?=some (.cells (madeCells (Value.int .u8 0).cells ((s.length+3)*1)) 5 (0,0)):=by
  rcases hown.2 with⟨q,_⟩|⟨g,cap,E,q,_,F,_,_,G,x⟩
  .cases q
  injection q with k _ H;injection k with k;injection k with k _ _;subst k H;rw[F];congr 2
  apply Array.ext';rw[←x,List.take_of_length_le (by rw[Array.length_toList];omega)]
 have c:=run_copy_row_string (P:=Tryz.prog) w1 74 9 3 5 w.heap.size 0 (s.length+3) (s.length+3) ⟨s.toArray⟩ _ 5 underlying74 (by rw[z];simp[h]) v (by simp[ByteArray.size]) (by simp[ByteArray.size,size_madeCells]);have b:(List.take 0 (madeCells (Value.int .u8 0).cells ((s.length+3)*1)).toList++byteCells (⟨s.toArray⟩:ByteArray).data.toList++List.drop (0+(⟨s.toArray⟩:ByteArray).size) (madeCells (Value.int .u8 0).cells ((s.length+3)*1)).toList).toArray=hdc s 0:=by
  have y:(madeCells (Value.int .u8 0).cells ((s.length+3)*1)).toList=List.replicate (s.length+3) (Value.int .u8 0):=by rw[Nat.mul_one];exact toList_madeCells_one _ _
  rw[y];simp[hdc,ByteArray.size,byteCells,bv]
 rw[b]at c;obtain⟨w2,d⟩:∃w2,w2=w1.setRow w.heap.size (hdc s 0):=⟨_,rfl⟩;rw[←d]at c;have A:Hid (w2.heap[w.heap.size]?=some (.cells (hdc s 0) 5 (0,0))∧Below w.heap.size w w2):=by
  rw[d];exact aB ⟨setRow_heap w1 _ _ _ _ _ v,below_setRow (vT j) (Nat.le_refl _) _⟩
 clear hown j v b d;go_wp2_with fail
 go_loopg [4] 3 (fun g I B=>∃i:Nat,i≤3∧g=3 - i∧I=.int .i64 i∧Hid (B.heap[w.heap.size]?=some (.cells (hdc s i) 5 (0,0))∧Below w.heap.size w B))
 case atStart=>exact⟨0,by omega,rfl,rfl,A⟩
 case round=>
  obtain⟨i,l,rfl,rfl,f⟩:=hrel;clear A c;by_cases m:i<3
  .have y:decide ((i:Int)<3)=true:=by simp;omega
   obtain⟨n,J,K⟩:=aM (aA f).1;have C:∃u,wr.cell? ⟨w.heap.size,s.length+i,none⟩=some u:=by
    rw[n];exact⟨_,Array.getElem?_eq_getElem (by rw[Lh s i l];omega)⟩
   obtain⟨u,C⟩:=C;have o:(wr.setCell ⟨w.heap.size,s.length+i,none⟩ (.int .u8 ((81:Int)+i))).heap[w.heap.size]?=some (.cells (hdc s (i+1)) 5 (0,0)):=by rw[←Lj s i m];exact heap_setCell_same wr _ _ _ _ _ (aA f).1
   have p:Below w.heap.size w (wr.setCell ⟨w.heap.size,s.length+i,none⟩ (.int .u8 ((81:Int)+i))):=(aA f).2.setCell (Nat.le_refl _) _;have L:=aB (And.intro o p);clear n o p f;go_wp2_with fail
   go_roundg (3 - (i+1))
   case measure=>omega
   case rel=>exact⟨i+1,by omega,rfl,by simp,L⟩
  have y:decide ((i:Int)<3)=false:=by simp;omega
  have N:decide (i<3)=false:=by simp;omega
  rw[show i=3 by omega,Li]at f;clear m l;go_wp2_with fail
  go_ret;exact⟨rfl,(aA f).1,(aA f).2⟩
theorem CH{w:World}{g:Nat}{l:Bs}(h:w.heap[g]?=some (.cells (l.map bv).toArray 5 (0,0))):(convert 74 9 (.slice (some ⟨g,0,none⟩) l.length c)).run Tryz.prog w=.ok (.string ⟨l.toArray⟩) w:=by
 refine run_convert_bytes_back w _ _ _ _ _ l underlying74 underlying5 underlying9 fun j b=>?_
 have a:(⟨g,0,none⟩:Addr).add j=⟨g,j,none⟩:=by unfold Addr.add;split<;>simp_all
 rw[a,(aM h).1 j];simp[bv,b]
theorem Ll(s:Bs)(i:s.length≤1000000000)(w:World)(g:Nat)(b:w.heap[g]?=some (.cells ((hd s).map bv).toArray 5 (0,0))):Calls Tryz.prog 71 #[.slice (some ⟨g,0,none⟩) (s.length+3) (s.length+3),.string ⟨s.toArray⟩] w fun e w' =>e=.returned (.bool true)∧Below w.heap.size w w' :=by
 have d:=aB (fun w=>CG s i w);have f:=aB b;clear b;have m:(hd s==hd s)=true:=by simp
 go_enter func71,ntmps71
 go_wp2_with fail
 refine(aA d _).mono ?_;rintro e w1 ⟨rfl,h,a⟩;have j:=CH (c:=s.length+3) h;have k:=CH (c:=s.length+3) ((a.block g (Array.getElem?_eq_some_iff.1 (aA f)).1).trans (aA f));rw[PW]at j k;have l:=aB a;clear h a d;go_wp2_with fail
 go_ret;exact⟨rfl,aA l⟩
def kR(O:Nat→Nat×Nat)(i pb:Nat)(f:List Nat):Nat→Nat×Nat:=fun k=>if k∈f then(4,i)else if O k=(4,i)∧k≠pb then fr else O k
section
variable {w w' :World}{O:Nat→Nat×Nat}{b:Nat}{pl:List (Pl×PA)}{hl:List HA}{pa ha:Option Addr}{pc hc:Nat}
theorem WI.old(h:WI w O b pl hl pa pc ha hc)(q:O k≠fr):k<w.heap.size:=by
 by_cases e:k<w.heap.size
 .exact e
 exact absurd (h.nw k (by omega)) q
theorem WI.upd(h:WI w O b pl hl pa pc ha hc)(G:i<pl.length){p' :Pl}{L' :Lay}(m:Ch (fun k=>k=pl[i].2.xb∨k=pl[i].2.pb∨k∈aJ pl[i].1.s pl[i].2.L) w w')
 (I:w'.heap[pl[i].2.xb]?=some (.cells (dL p' pl[i].2.pb) 57 (0,0))) (C:aK w' pl[i].2.pb p'.s L') (H:∀k∈aJ p'.s L', k∈aJ pl[i].1.s pl[i].2.L∨w.heap.size≤k):
 WI w' (kR O i pl[i].2.pb (aJ p'.s L')) b (pl.set i (p', ⟨pl[i].2.xb,pl[i].2.pb,L'⟩)) hl pa pc ha hc∧bF (fun _=>False) O (kR O i pl[i].2.pb (aJ p'.s L')) w w' ∧
  ∀k,k∉aJ p'.s L' →k≠pl[i].2.pb→(k∈aJ pl[i].1.s pl[i].2.L∨w.heap.size≤k)→kR O i pl[i].2.pb (aJ p'.s L') k=fr:=by
 have f:=h.ps i G;generalize J:pl[i].2=A at *;generalize K:pl[i].1=p at *;have D:∀k,k∈aJ p'.s L' →O k=(4,i)∨O k=fr:=fun k q=>by
  rcases H k q with q|q
  .exact .inl (f.of k q)
  exact .inr (h.nw k q)
 have n:∀k x y,O k=(x,y)→x<7→(x,y)≠(4,i)→kR O i A.pb (aJ p'.s L') k=O k:=fun k x y e o t=>by
  unfold kR
  rw[if_neg (fun q=>by
   rcases D k q with q|q
   .exact t (e.symm.trans q)
   exact fI o (e.symm.trans q)),if_neg (fun q=>t (e.symm.trans q.1))]
 have r:∀k x y,O k=(x,y)→x<7→(x,y)≠(4,i)→(x,y)≠(3,i)→w'.heap[k]?=w.heap[k]?:=fun k x y e o t E=>by
  refine m.block k (h.old (by rw[e];exact fI o)) fun q=>?_
  rcases q with q|q|q
  .exact E (e.symm.trans (q▸f.ox))
  .exact t (e.symm.trans (q▸f.op))
  exact t (e.symm.trans (f.of k q))
 have F:kR O i A.pb (aJ p'.s L') A.pb=(4,i):=by
  unfold kR;rw[if_neg C.nb,if_neg (fun q=>q.2 rfl)];exact f.op
 have a:∀x y:Nat,(x≠4∨y≠i)→(x,y)≠(4,i):=fun x y q e=>by injection e with g l;rcases q with q|q;exact q g;exact q l
 have c:∀x y:Nat,(x≠3∨y≠i)→(x,y)≠(3,i):=fun x y q e=>by injection e with g l;rcases q with q|q;exact q g;exact q l
 have u:jF (pl.set i (p', ⟨A.xb,A.pb,L'⟩))=jF pl:=by
  unfold jF;rw[List.map_set];have g:(pl.map fun p=>Value.pointer (some ⟨p.2.xb,0,none⟩))[i]'(by simpa using G)=.pointer (some ⟨A.xb,0,none⟩):=by simp[J]
  rw[←g];exact List.set_getElem_self _
 refine⟨⟨?_,?_,?_,fun k q=>?_,?_,fun k q=>?_,fun j z=>?_,fun j z=>?_,fun k q=>?_⟩,⟨?_,fun k B d _=>?_⟩,fun k B d v=>?_⟩
 .rw[r b 0 0 h.ob (by decide) (a _ _ (.inl (by decide))) (c _ _ (.inl (by decide))),List.length_set];exact h.blk
 .exact(n b 0 0 h.ob (by decide) (a _ _ (.inl (by decide)))).trans h.ob
 .rw[u,List.length_set];exact gY h.pr fun k q=>r k 1 0 (h.po k (iU q)) (by decide) (a _ _ (.inl (by decide))) (c _ _ (.inl (by decide)))
 .exact(n k 1 0 (h.po k q) (by decide) (a _ _ (.inl (by decide)))).trans (h.po k q)
 .exact gY h.hr fun k q=>r k 2 0 (h.ho k (iU q)) (by decide) (a _ _ (.inl (by decide))) (c _ _ (.inl (by decide)))
 .exact(n k 2 0 (h.ho k q) (by decide) (a _ _ (.inl (by decide)))).trans (h.ho k q)
 .by_cases e:i=j
  .subst e;rw[List.getElem_set_self];exact⟨I,(n _ 3 i f.ox (by decide) (a _ _ (.inl (by decide)))).trans f.ox,C,F,fun k q=>by unfold kR;rw[if_pos q],f.lo⟩
  rw[List.getElem_set_ne e];rw[List.length_set]at z;exact(h.ps j z).keep fun k B d=>by
   rcases d with d|d
   .exact⟨r k _ _ d (by decide) (a _ _ (.inl (by decide))) (c _ _ (.inr fun l=>e l.symm)),n k _ _ d (by decide) (a _ _ (.inl (by decide)))⟩
   exact⟨r k _ _ d (by decide) (a _ _ (.inr fun l=>e l.symm)) (c _ _ (.inl (by decide))),n k _ _ d (by decide) (a _ _ (.inr fun l=>e l.symm))⟩
 .exact(h.hs j z).keep (fun k B d=>by rcases d with d|d<;>exact⟨r k _ _ d (by decide) (a _ _ (.inl (by decide))) (c _ _ (.inl (by decide))),n k _ _ d (by decide) (a _ _ (.inl (by decide)))⟩) h.nw
 .have g:=h.nw k (Nat.le_trans m.size q);unfold kR;rw[if_neg (fun e=>by have:=(C.dF k e).2;omega),if_neg (fun e=>by rw[g]at e;cases e.1)];exact g
 .refine m.wide fun k _ q=>.inl ?_
  rcases q with q|q|q
  .rw[q,f.ox];exact fI (by decide)
  .rw[q,f.op];exact fI (by decide)
  rw[f.of k q];exact fI (by decide)
 .unfold kR
  rw[if_neg (fun e=>by
   rcases H k e with e|e
   .have:=f.of k e;rw[d]at this;cases this
   omega),if_neg (fun e=>by rw[d]at e;cases e.1)]
  exact d
 unfold kR;rw[if_neg B];rcases v with v|v
 .rw[if_pos ⟨f.of k v,d⟩]
 have g:=h.nw k v;rw[if_neg (fun e=>by rw[g]at e;cases e.1)];exact g
end
def kS(O:Nat→Nat×Nat)(n xb pb g2:Nat)(f:List Nat):Nat→Nat×Nat:=fun k=>if k=xb then(3,n)else if k=pb∨k∈f then(4,n)else if k=g2 then(1,0)else O k
section
variable {w:World}{O:Nat→Nat×Nat}{b:Nat}{pl:List (Pl×PA)}{hl:List HA}{pa ha:Option Addr}{pc hc:Nat}
theorem WI.more(h:WI w O b pl hl pa pc ha hc){W:World}{xb pb g2 cap:Nat}{p:Pl}{L:Lay}(d:Ch (aT pa) w W)(H:W.heap[xb]?=some (.cells (dL p pb) 57 (0,0)))(P:w.heap.size≤xb)(r:aK W pb p.s L)(Q:w.heap.size≤pb)(g:∀k∈aJ p.s L,w.heap.size≤k)
 (t:xb≠pb) (u:xb∉aJ p.s L) (v:aT pa g2∨(w.heap.size≤g2∧g2≠xb∧g2≠pb∧g2∉aJ p.s L)) (hrow:W.ownsRow 0 54 1 (.slice (some ⟨g2,0,none⟩) (pl.length+1) cap) (pl.length+1) (jF pl++[.pointer (some ⟨xb,0,none⟩)])) (z:2+1<pb):
 WI (W.setCell ⟨b,0,none⟩ (.slice (some ⟨g2,0,none⟩) (pl.length+1) cap)) (kS O pl.length xb pb g2 (aJ p.s L)) b (pl++[(p,⟨xb,pb,L⟩)]) hl (some ⟨g2,0,none⟩) cap ha hc∧bF (fun _=>False) O (kS O pl.length xb pb g2 (aJ p.s L)) w (W.setCell ⟨b,0,none⟩ (.slice (some ⟨g2,0,none⟩) (pl.length+1) cap)):=by
 have A:=cE h.blk;have I:g2<W.heap.size:=(World.ownsRow.lt hrow g2 rfl).2;have c:g2<w.heap.size→O g2=(1,0):=fun q=>by rcases v with e|e;exact h.po g2 e;omega
 have B:g2≠xb:=fun e=>by
  rcases v with q|q
  .have:=h.old (k:=g2) (by rw[h.po g2 q];exact fI (by decide));omega
  exact q.2.1 e
 have C:¬(g2=pb∨g2∈aJ p.s L):=fun e=>by
  rcases v with q|q
  .have l:=h.old (k:=g2) (by rw[h.po g2 q];exact fI (by decide));rcases e with e|e
   .omega
   have:=g _ e;omega
  rcases e with e|e
  .exact q.2.2.1 e
  exact q.2.2.2 e
 have D:g2≠b:=fun e=>by
  have l:=c (by omega);rw[e,h.ob]at l;cases l
 have f:∀k,k<w.heap.size→kS O pl.length xb pb g2 (aJ p.s L) k=if k=g2 then(1,0)else O k:=fun k q=>by
  unfold kS
  rw[if_neg (by omega),if_neg (fun e=>by
   rcases e with e|e
   .omega
   have:=g k e;omega)]
 have J:∀k,O k≠fr→kS O pl.length xb pb g2 (aJ p.s L) k=O k:=fun k q=>by
  have m:=h.old q;rw[f k m];by_cases e:k=g2
  .rw[if_pos e,e];exact(c (e▸m)).symm
  rw[if_neg e]
 have K:∀k x y,O k=(x,y)→x<7→x≠0→x≠1→(W.setCell ⟨b,0,none⟩ (.slice (some ⟨g2,0,none⟩) (pl.length+1) cap)).heap[k]?=w.heap[k]?:=fun k x y e n E l=>by
  rw[heap_setCell_other W ⟨b,0,none⟩ k _ (fun(q:k=b)=>by rw[q,h.ob]at e;cases e;exact E rfl)];refine d.block k (h.old (by rw[e];exact fI n)) fun q=>?_
  have:=h.po k q;rw[e]at this;cases this;exact l rfl
 have F:∀k x y,O k=(x,y)→x<7→x≠0→x≠1→(W.setCell ⟨b,0,none⟩ (.slice (some ⟨g2,0,none⟩) (pl.length+1) cap)).heap[k]?=w.heap[k]?∧kS O pl.length xb pb g2 (aJ p.s L) k=O k:=fun k x y e n E l=>⟨K k x y e n E l,J k (by rw[e];exact fI n)⟩
 have G:W.heap[b]?=_:=(d.block b A fun e=>by have:=h.po b e;rw[h.ob]at this;cases this).trans h.blk;refine⟨⟨?_,(J b (by rw[h.ob];exact fI (by decide))).trans h.ob,?_,fun k q=>?_,?_,fun k q=>?_,fun i M=>?_,fun j R=>?_,fun k q=>?_⟩,⟨?_,fun k m a _=>?_⟩⟩
 .rw[heap_setCell_same W b 0 _ _ _ G,List.length_append];rfl
 .have N:(pl++[(p,(⟨xb,pb,L⟩:PA))]).length=pl.length+1:=by simp
  have o:jF (pl++[(p,(⟨xb,pb,L⟩:PA))])=jF pl++[.pointer (some ⟨xb,0,none⟩)]:=by simp[jF]
  rw[N,o];exact gY hrow fun k q=>heap_setCell_other W ⟨b,0,none⟩ k _ (fun e=>D ((PN.1 (iU q)).trans e))
 .have e:=PN.1 q;subst e;unfold kS;rw[if_neg B,if_neg C,if_pos rfl]
 .exact gY h.hr fun k q=>K k 2 0 (h.ho k (iU q)) (by decide) (by decide) (by decide)
 .exact(F k 2 0 (h.ho k q) (by decide) (by decide) (by decide)).2.trans (h.ho k q)
 .by_cases e:i<pl.length
  .rw[List.getElem_append_left e];exact(h.ps i e).keep fun k m a=>by rcases a with a|a<;>exact F k _ _ a (by decide) (by decide) (by decide)
  have o:i=pl.length:=by rw[List.length_append]at M;simp at M;omega
  subst o;rw[List.getElem_append_right (Nat.le_refl _)];simp only[Nat.sub_self,List.getElem_cons_zero]
  refine⟨(heap_setCell_other W ⟨b,0,none⟩ xb _ (show xb≠b by omega)).trans H,by unfold kS;rw[if_pos rfl],r.keep fun k q=>heap_setCell_other W ⟨b,0,none⟩ k _ (show k≠b from fun e=>by
   rcases q with q|q
   .omega
   have:=g k q;omega),by unfold kS;rw[if_neg (Ne.symm t),if_pos (.inl rfl)],fun k q=>by unfold kS;rw[if_neg (show k≠xb from fun e=>u (e▸q)),if_pos (.inr q)],z⟩
 .exact(h.hs j R).keep (fun k m a=>by rcases a with a|a<;>exact F k _ _ a (by decide) (by decide) (by decide)) h.nw
 .have N:W.heap.size≤k:=by simpa using q
  have o:=d.size;have S:=cE H;have X:=r.lt;unfold kS
  rw[if_neg (by omega),if_neg (fun e=>by
   rcases e with e|e
   .omega
   have:=(r.dF k e).2;omega),if_neg (by omega)]
  exact h.nw k (by omega)
 .refine d.wide (T:=fun k=>O k≠fr∨False) ?_ |>.trans (T:=fun k=>k=b) ⟨rfl,rfl,rfl,by simp,fun k _ q=>heap_setCell_other W ⟨b,0,none⟩ k _ q⟩ fun k _ q=>.inl (by rw[q,h.ob];exact fI (by decide))
  intro k _ q;exact .inl (by rw[h.po k q];exact fI (by decide))
 rw[f k m,if_neg (fun e=>by have:=c (e▸m);rw[←e,a]at this;cases this)];exact a
end
end Go.Proofs.YtmgfijllcdadgaaGreatDoor.U
