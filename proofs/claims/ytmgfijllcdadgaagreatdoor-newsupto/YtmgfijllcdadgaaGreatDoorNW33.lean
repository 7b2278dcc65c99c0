import Derived.Test.YtmgfijllcdadgaaGreatDoorNW32
import Derived.Test.YtmgfijllcdadgaaGreatDoorNW13
import Derived.Laws.Cover3
set_option linter.unusedVariables false
set_option linter.unusedSimpArgs false
set_option maxHeartbeats 4000000
set_option maxRecDepth 100000
namespace Go.Proofs.YtmgfijllcdadgaaGreatDoor.U
open Go.RowKit
open Mk (Bs Ev aD)
open V
open Go.Proofs.Tryz
variable {e:TypeId}{n c k g2 cap:Nat}{a:Option Addr}{w w' :World}
theorem Ch.cells{S:Nat→Prop}{w w' :World}{h t:Nat}{a:Array Value}(q:Ch S w w')(b:w.heap[h]?=some (.cells a t (0,0)))(c:¬S h):w'.heap[h]?=some (.cells a t (0,0)):=(q.block h (Array.getElem?_eq_some_iff.1 b).1 c).trans b
section
variable {w:World}{hb m:Nat}{ae aa an ab:Option Addr}{ne na nn nb ce ca cn cb:Nat}
theorem ug(hh:w.heap[hb]?=some (.cells #[.slice ae ne ce,.slice aa na ca,.slice an nn cn,.slice ab nb cb,.int .i64 (m:Int)] 120 (0,0)))(hm:m≤1000000000000000)
 (h1:cV w 5 ae ne 0 (mE m)) (h2:cV w 3 aa na 0 (mA m)) (h3:cV w 1 an nn 0 (mN m)) (h4:cV w 1 ab nb 0 (mB m)) (k1:¬aT ae hb) (k2:¬aT aa hb) (k3:¬aT an hb) (k4:¬aT ab hb)
 (Y:m_ ae aa) (Z:m_ ae an) (a0:m_ ae ab) (a1:m_ aa an) (a2:m_ aa ab) (a3:m_ an ab):
 Calls Tryz.prog 90 #[.pointer (some ⟨hb,0,none⟩)] w fun e w' =>e=.returned (.tuple #[])∧Ch (fun k=>aT ae k∨aT aa k∨aT an k∨aT ab k) w w' ∧cV w' 5 ae ne ne (mE m)∧cV w' 3 aa na na (mA m)∧cV w' 1 an nn nn (mN m)∧cV w' 1 ab nb nb (mB m):=by
 have HS:=aB (fun w=>Cs m hm w);have HH:=aB hh;obtain⟨E,F,t⟩:=aM hh;have H1:=aB h1;have H2:=aB h2;have H3:=aB h3;have H4:=aB h4;have K:=aB (And.intro k1 (And.intro k2 (And.intro k3 k4)));have D:=aB (And.intro Y (And.intro Z (And.intro a0 (And.intro a1 (And.intro a2 a3)))));have l1:=h1.le;have l2:=h2.le;have l3:=h3.le;have l4:=h4.le;clear hh h1 h2 h3 h4 k1 k2 k3 k4 Y Z a0 a1 a2 a3;go_enter func90,ntmps90
 go_wp2_with fail
 refine(aA HS _).mono ?_;rintro e w1 ⟨rfl,u⟩;have j:Hid (Ch (fun k=>aT ae k∨aT aa k∨aT an k∨aT ab k) w w1):=aB (.of_below u);have a4:=(u.block _ t).trans (aA HH);have a:=aB a4;have a5:=aB ((aA H1).keep fun q _ b=>u.block q b);have G:=aB ((aA H2).keep fun q _ b=>u.block q b);have r:=aB ((aA H3).keep fun q _ b=>u.block q b);have l:=aB ((aA H4).keep fun q _ b=>u.block q b);clear E F t HH H1 H2 H3 H4 HS u a4;obtain⟨E,F,t⟩:=aM (aA a);go_wp2_with fail
 go_loopg [3] ne (fun g M N=>∃i:Nat,i≤ne∧g=ne - i∧M=.int .i64 i∧Hid (MI w1 N 5 ae ne i (mE m)))
 case atStart=>exact⟨0,Nat.zero_le _,rfl,rfl,aB ⟨aA a5,.refl _ _⟩⟩
 case round=>
  obtain⟨i,O,rfl,rfl,d⟩:=hrel;obtain⟨v,x,y⟩:=aM ((aA d).ch.cells (aA a) (aA K).1);by_cases f:i<ne
  .have P:decide ((i:Int)<(ne:Int))=true:=by simp;omega
   have e2:(i:Int)<(ne:Int):=by omega
   obtain⟨g,rfl,Q,R,c⟩:=(aA d).md.spot f;have J:=aB (fun W=>(aA d).step rfl f W);obtain⟨u0,S⟩:=c 0 (by decide);obtain⟨u1,q1⟩:=c 1 (by decide);obtain⟨u2,q2⟩:=c 2 (by decide);obtain⟨u3,q3⟩:=c 3 (by decide);obtain⟨u4,q4⟩:=c 4 (by decide);rw[Nat.add_zero]at S;clear d c;go_wp2_with fail
   go_region
   go_wp2_with fail
   go_roundg (ne - (i+1))
   case measure=>omega
   case rel=>exact⟨i+1,by omega,rfl,by simp,aA J _ (by first|exact .inl rfl|exact .inr rfl)⟩
  have P:decide ((i:Int)<(ne:Int))=false:=by simp;omega
  have e3:decide (i<ne)=false:=by simp;omega
  rw[show i=ne by omega]at d;have z:=aA d;have T:=aB ((aA j).trans z.ch fun q _ b=>.inl b);have n:=aB (z.ch.cells (aA a) (aA K).1);have G2:=aB ((aA G).keep fun q b o=>z.ch.block q o fun h=>(aA D).1 q h b);have G3:=aB ((aA r).keep fun q b o=>z.ch.block q o fun h=>(aA D).2.1 q h b);have L:=aB ((aA l).keep fun q b o=>z.ch.block q o fun h=>(aA D).2.2.1 q h b);have p:=aB z.md;clear d z j a v x y f O a5 G r l;rename Hid (Ch _ _ _)=>j
  have a:=n;have G:=G2;have r:=G3;have l:=L;have I:=p;clear n G2 G3 L p;obtain⟨E,F,t⟩:=aM (aA a);go_wp2_with fail
  go_loopg [4] na (fun g M N=>∃i:Nat,i≤na∧g=na - i∧M=.int .i64 i∧Hid (MI wr N 3 aa na i (mA m)))
  case atStart=>exact⟨0,Nat.zero_le _,rfl,rfl,aB ⟨aA G,.refl _ _⟩⟩
  case round=>
   obtain⟨i,O,rfl,rfl,d⟩:=hrel;obtain⟨v,x,y⟩:=aM ((aA d).ch.cells (aA a) (aA K).2.1);by_cases f:i<na
   .have P:decide ((i:Int)<(na:Int))=true:=by simp;omega
    have e2:(i:Int)<(na:Int):=by omega
    obtain⟨g,rfl,Q,R,c⟩:=(aA d).md.spot f;have J:=aB (fun W=>(aA d).step rfl f W);obtain⟨u0,S⟩:=c 0 (by decide);obtain⟨u1,q1⟩:=c 1 (by decide);obtain⟨u2,q2⟩:=c 2 (by decide);rw[Nat.add_zero]at S;clear d c;go_wp2_with fail
    go_roundg (na - (i+1))
    case measure=>omega
    case rel=>exact⟨i+1,by omega,rfl,by simp,aA J _ (by first|exact .inl rfl|exact .inr rfl)⟩
   have P:decide ((i:Int)<(na:Int))=false:=by simp;omega
   have e3:decide (i<na)=false:=by simp;omega
   rw[show i=na by omega]at d;have A:=aA d;have T:=aB ((aA j).trans A.ch fun q _ b=>.inr<|.inl b);have n:=aB (A.ch.cells (aA a) (aA K).2.1);have G3:=aB ((aA r).keep fun q b o=>A.ch.block q o fun h=>(aA D).2.2.2.1 q h b);have L:=aB ((aA l).keep fun q b o=>A.ch.block q o fun h=>(aA D).2.2.2.2.1 q h b);have p:=aB ((aA I).keep fun q b o=>A.ch.block q o fun h=>(aA D).1 q b h);have s:=aB A.md;clear d A j a v x y f O G r l I;rename Hid (Ch _ _ _)=>j
   have a:=n;have r:=G3;have l:=L;have I:=p;have X:=s;clear n G3 L p s;obtain⟨E,F,t⟩:=aM (aA a);go_wp2_with fail
   go_loopg [5] nn (fun g M N=>∃i:Nat,i≤nn∧g=nn - i∧M=.int .i64 i∧Hid (MI wr N 1 an nn i (mN m)))
   case atStart=>exact⟨0,Nat.zero_le _,rfl,rfl,aB ⟨aA r,.refl _ _⟩⟩
   case round=>
    obtain⟨i,O,rfl,rfl,d⟩:=hrel;obtain⟨v,x,y⟩:=aM ((aA d).ch.cells (aA a) (aA K).2.2.1);by_cases f:i<nn
    .have P:decide ((i:Int)<(nn:Int))=true:=by simp;omega
     have e2:(i:Int)<(nn:Int):=by omega
     obtain⟨g,rfl,Q,R,c⟩:=(aA d).md.spot f;have J:=aB (fun W=>(aA d).step rfl f W);obtain⟨u0,S⟩:=c 0 (by decide);rw[Nat.mul_one,Nat.add_zero]at S;rw[Nat.mul_one]at J;clear d c;go_wp2_with fail
     go_roundg (nn - (i+1))
     case measure=>omega
     case rel=>exact⟨i+1,by omega,rfl,by simp,aA J _ (by first|exact .inl rfl|exact .inr rfl)⟩
    have P:decide ((i:Int)<(nn:Int))=false:=by simp;omega
    have e3:decide (i<nn)=false:=by simp;omega
    rw[show i=nn by omega]at d;have B:=aA d;have T:=aB ((aA j).trans B.ch fun q _ b=>.inr<|.inr<|.inl b);have n:=aB (B.ch.cells (aA a) (aA K).2.2.1);have L:=aB ((aA l).keep fun q b o=>B.ch.block q o fun h=>(aA D).2.2.2.2.2 q h b);have p:=aB ((aA I).keep fun q b o=>B.ch.block q o fun h=>(aA D).2.1 q b h);have s:=aB ((aA X).keep fun q b o=>B.ch.block q o fun h=>(aA D).2.2.2.1 q b h);have H:=aB B.md;clear d B j a v x y f O r l I X;rename Hid (Ch _ _ _)=>j
    have a:=n;have l:=L;have I:=p;have X:=s;have F3:=H;clear n L p s H;obtain⟨E,F,t⟩:=aM (aA a);go_wp2_with fail
    go_loopg [6] nb (fun g M N=>∃i:Nat,i≤nb∧g=nb - i∧M=.int .i64 i∧Hid (MI wr N 1 ab nb i (mB m)))
    case atStart=>exact⟨0,Nat.zero_le _,rfl,rfl,aB ⟨aA l,.refl _ _⟩⟩
    case round=>
     obtain⟨i,O,rfl,rfl,d⟩:=hrel;obtain⟨v,x,y⟩:=aM ((aA d).ch.cells (aA a) (aA K).2.2.2);by_cases f:i<nb
     .have P:decide ((i:Int)<(nb:Int))=true:=by simp;omega
      have e2:(i:Int)<(nb:Int):=by omega
      obtain⟨g,rfl,Q,R,c⟩:=(aA d).md.spot f;have J:=aB (fun W=>(aA d).step rfl f W);obtain⟨u0,S⟩:=c 0 (by decide);rw[Nat.mul_one,Nat.add_zero]at S;rw[Nat.mul_one]at J;clear d c;go_wp2_with fail
      go_region
      go_wp2_with fail
      go_roundg (nb - (i+1))
      case measure=>omega
      case rel=>exact⟨i+1,by omega,rfl,by simp,aA J _ (by first|exact .inl rfl|exact .inr rfl)⟩
     have P:decide ((i:Int)<(nb:Int))=false:=by simp;omega
     have e3:decide (i<nb)=false:=by simp;omega
     rw[show i=nb by omega]at d;have C:=aA d;have T:=aB ((aA j).trans C.ch fun q _ b=>.inr<|.inr<|.inr b);have n:=aB (C.ch.cells (aA a) (aA K).2.2.2);have p:=aB ((aA I).keep fun q b o=>C.ch.block q o fun h=>(aA D).2.2.1 q b h);have s:=aB ((aA X).keep fun q b o=>C.ch.block q o fun h=>(aA D).2.2.2.2.1 q b h);have H:=aB ((aA F3).keep fun q b o=>C.ch.block q o fun h=>(aA D).2.2.2.2.2 q b h);have a6:=aB C.md;clear d C j a v x y f O l I X F3;rename Hid (Ch _ _ _)=>j
     have a:=n;have I:=p;have X:=s;have F3:=H;have F4:=a6;clear n p s H a6;obtain⟨E,F,t⟩:=aM (aA a);go_wp2_with fail
     go_end0
     exact⟨rfl,aA j,aA I,aA X,aA F3,aA F4⟩
end
structure Pl where
 od:Int
 oa:Int
 ot:Int
 on:Bool
 s:Mk.St
 aS:Bs
 said:Int
structure PA where
 xb:Nat
 pb:Nat
 L:Lay
structure HA where
 hb:Nat
 c:Nat
 a:Option Addr
 n:Nat
 cp:Nat
def fr:Nat×Nat:=(7,0)
def dL(p:Pl)(pb:Nat):Array Value:=#[.pointer (some ⟨pb,0,none⟩),.int .i64 p.od,.int .i64 p.oa,.int .i64 p.ot,.bool p.on,.string ⟨p.aS.toArray⟩,.int .i64 p.said]
structure uh(w:World)(O:Nat→Nat×Nat)(i:Nat)(p:Pl)(A:PA):Prop where
 blk:w.heap[A.xb]?=some (.cells (dL p A.pb) 57 (0,0))
 ox:O A.xb=(3,i)
 rd:aK w A.pb p.s A.L
 op:O A.pb=(4,i)
 of:∀k∈aJ p.s A.L,O k=(4,i)
 lo:2+1<A.pb
structure uj(w:World)(O:Nat→Nat×Nat)(j:Nat)(h:HA):Prop where
 blk:w.heap[h.hb]?=some (.cells (jE h.c (.slice h.a h.n h.cp) ((j+1:Nat):Int)) 120 (0,0))
 oh:O h.hb=(5,j)
 md:cV w (jU h.c) h.a h.n h.n (pX h.c (j+1))
 c4:h.c≤3
 or:∀k,aT h.a k→O k=(6,j)
def jF(pl:List (Pl×PA)):List Value:=pl.map fun p=>.pointer (some ⟨p.2.xb,0,none⟩)
def ng(hl:List HA):List Value:=hl.map fun h=>.pointer (some ⟨h.hb,0,none⟩)
structure WI(w:World)(O:Nat→Nat×Nat)(b:Nat)(pl:List (Pl×PA))(hl:List HA)(pa:Option Addr)(pc:Nat)(ha:Option Addr)(hc:Nat):Prop where
 blk:w.heap[b]?=some (.cells #[.slice pa pl.length pc,.slice ha hl.length hc] 52 (0,0))
 ob:O b=(0,0)
 pr:w.ownsRow 0 54 1 (.slice pa pl.length pc) pl.length (jF pl)
 po:∀k,aT pa k→O k=(1,0)
 hr:w.ownsRow 0 102 1 (.slice ha hl.length hc) hl.length (ng hl)
 ho:∀k,aT ha k→O k=(2,0)
 ps:∀i (hi:i<pl.length),uh w O i pl[i].1 pl[i].2
 hs:∀j (hj:j<hl.length),uj w O j hl[j]
 nw:∀k,w.heap.size≤k→O k=fr
structure bF(X:Nat→Prop)(O O' :Nat→Nat×Nat)(w w' :World):Prop where
 ch:Ch (fun k=>O k≠fr∨X k) w w'
 tag:∀k,k<w.heap.size→O k=fr→¬X k→O' k=fr
section
variable {w w' :World}{O O' :Nat→Nat×Nat}{b:Nat}{pl:List (Pl×PA)}{hl:List HA}{pa ha:Option Addr}{pc hc:Nat}
theorem gY{base:Nat}{size:Nat}{v:Value}{a:List Value}(h:w.ownsRow base e size v n a)(b:∀k,v.ownBlock=some k→w'.heap[k]?=w.heap[k]?):w'.ownsRow base e size v n a:=fP (r:=⟨e,size,v,n,a⟩) h b
theorem iU(h:(Value.slice a n c).ownBlock=some k):aT a k:=by
 cases a with
 |none=>cases h
 |some x=>injection h with h;simp[aT,h]
theorem cE{o:Obj}(h:w.heap[k]?=some o):k<w.heap.size:=(Array.getElem?_eq_some_iff.1 h).1
theorem uh.keep{i:Nat}{p:Pl}{A:PA}(h:uh w O i p A)(a:∀k,k<w.heap.size→O k=(3,i)∨O k=(4,i)→w'.heap[k]?=w.heap[k]?∧O' k=O k):uh w' O' i p A:=
 ⟨(a _ (cE h.blk) (.inl h.ox)).1.trans h.blk,(a _ (cE h.blk) (.inl h.ox)).2.trans h.ox,
  h.rd.keep fun k q=>by
   rcases q with rfl|q
   .exact(a _ h.rd.lt (.inr h.op)).1
   exact(a k (h.rd.dF k q).2 (.inr (h.of k q))).1,
  (a _ h.rd.lt (.inr h.op)).2.trans h.op,fun k q=>(a k (h.rd.dF k q).2 (.inr (h.of k q))).2.trans (h.of k q),h.lo⟩
theorem uj.keep{j:Nat}{h:HA}(q:uj w O j h)(b:∀k,k<w.heap.size→O k=(5,j)∨O k=(6,j)→w'.heap[k]?=w.heap[k]?∧O' k=O k)(d:∀k,w.heap.size≤k→O k=fr):uj w' O' j h:=
 ⟨(b _ (cE q.blk) (.inl q.oh)).1.trans q.blk,(b _ (cE q.blk) (.inl q.oh)).2.trans q.oh,q.md.keep (fun k a c=>(b k c (.inr (q.or k a))).1),q.c4,
  fun k a=>by
   by_cases c:k<w.heap.size
   .exact(b k c (.inr (q.or k a))).2.trans (q.or k a)
   have:=d k (by omega)
   rw[q.or k a]at this
   cases this⟩
theorem fI{x y:Nat}(h:x<7):(x,y)≠fr:=fun e=>by injection e with e _;omega
theorem WI.keep(h:WI w O b pl hl pa pc ha hc)(c:∀k,k<w.heap.size→O k≠fr→w'.heap[k]?=w.heap[k]?)(e:w.heap.size≤w'.heap.size):WI w' O b pl hl pa pc ha hc:=
 ⟨(c b (cE h.blk) (by rw[h.ob];exact fI (by decide))).trans h.blk,h.ob,
  gY h.pr fun k q=>c k (World.ownsRow.lt h.pr k q).2 (by rw[h.po k (iU q)];exact fI (by decide)),h.po,
  gY h.hr fun k q=>c k (World.ownsRow.lt h.hr k q).2 (by rw[h.ho k (iU q)];exact fI (by decide)),h.ho,
  fun i f=>(h.ps i f).keep fun k d a=>⟨c k d (by rcases a with a|a<;>rw[a]<;>exact fI (by decide)),rfl⟩,
  fun j g=>(h.hs j g).keep (fun k d a=>⟨c k d (by rcases a with a|a<;>rw[a]<;>exact fI (by decide)),rfl⟩) h.nw,
  fun k c=>h.nw k (Nat.le_trans e c)⟩
theorem WI.below(h:WI w O b pl hl pa pc ha hc)(a:Below w.heap.size w w'):WI w' O b pl hl pa pc ha hc:=h.keep (fun k c _=>a.block k c) a.size
theorem WI.ch(h:WI w O b pl hl pa pc ha hc){X:Nat→Prop}(a:Ch X w w')(c:∀k,X k→O k=fr):WI w' O b pl hl pa pc ha hc:=h.keep (fun k d e=>a.block k d fun q=>e (c k q)) a.size
theorem bF.of_below(X:Nat→Prop)(a:Below w.heap.size w w'):bF X O O w w' :=⟨.of_below a,fun _ _ h _=>h⟩
theorem bF.trans{X Y:Nat→Prop}{b:Nat→Nat×Nat}{c:World}(h:bF X O O' w w')(k:bF Y O' b w' c)(g:∀q,q<w.heap.size→Y q→X q):bF X O b w c:=
 ⟨h.ch.trans k.ch fun q a d=>by
  by_cases f:O q=fr
  .by_cases e:X q
   .exact .inr e
   rcases d with d|d
   .exact absurd (h.tag q a f e) d
   exact .inr (g q a d)
  exact .inl f,
  fun q a f e=>k.tag q (Nat.lt_of_lt_of_le a h.ch.size) (h.tag q a f e) fun i=>e (g q a i)⟩
end
def mo(O:Nat→Nat×Nat)(hb:Nat)(a:Option Addr)(g2 j:Nat):Nat→Nat×Nat:=fun k=>if k=hb then(5,j)else if a.map (·.block)=some k then(6,j)else if k=g2 then(2,0)else O k
theorem RI{O:Nat→Nat×Nat}{b:Nat}{j:Nat}(d:k≠b)(c:aT a k):mo O b a g2 j k=(6,j):=by
 unfold aT at c;unfold mo;rw[if_neg d,if_pos c]
theorem uk{O:Nat→Nat×Nat}{b:Nat}{j:Nat}(d:k≠b)(c:¬aT a k):mo O b a g2 j k=if k=g2 then(2,0)else O k:=by
 unfold aT at c;unfold mo;rw[if_neg d,if_neg c]
section
variable {w:World}{O:Nat→Nat×Nat}{b:Nat}{pl:List (Pl×PA)}{hl:List HA}{pa ha:Option Addr}{pc hc:Nat}
theorem WI.kept(h:WI w O b pl hl pa pc ha hc){l:World}{f A:Nat}(D:c≤3)(t:O f=fr)(R:f<w.heap.size)(r:∀k,aT a k→O k=fr∧k≠f∧k<w.heap.size)(p:Ch (fun k=>k=f∨aT a k∨aT ha k) w l)
 (E:l.heap[f]?=some (.cells (jE c (.slice a n A) ((hl.length+1:Nat):Int)) 120 (0,0))) (F:cV l (jU c) a n n (pX c (hl.length+1)))
 (hrow:l.ownsRow 0 102 1 (.slice (some ⟨g2,0,none⟩) (hl.length+1) cap) (hl.length+1) (ng hl++[.pointer (some ⟨f,0,none⟩)])) (G:aT ha g2∨w.heap.size≤g2):
 WI (l.setCell ⟨b,1,none⟩ (.slice (some ⟨g2,0,none⟩) (hl.length+1) cap)) (mo O f a g2 hl.length) b pl (hl++[⟨f,c,a,n,A⟩]) pa pc (some ⟨g2,0,none⟩) cap∧
  bF (fun k=>k=f∨aT a k) O (mo O f a g2 hl.length) w (l.setCell ⟨b,1,none⟩ (.slice (some ⟨g2,0,none⟩) (hl.length+1) cap)):=by
 have H:=cE h.blk;have N:g2<l.heap.size:=(World.ownsRow.lt hrow g2 rfl).2;have m:g2<w.heap.size→O g2=(2,0):=fun q=>by rcases G with e|e;exact h.ho g2 e;omega
 have u:∀k,O k≠fr→k<w.heap.size:=fun k q=>by
  by_cases e:k<w.heap.size
  .exact e
  exact absurd (h.nw k (by omega)) q
 have I:g2≠b:=fun e=>by
  have s:=m (by omega);rw[e,h.ob]at s;cases s
 have v:g2≠f:=fun e=>by
  have s:=m (by omega);rw[e,t]at s;cases s
 have J:¬aT a g2:=fun e=>by
  have s:=m (r g2 e).2.2;rw[(r g2 e).1]at s;cases s
 have P:∀k,O k≠fr→mo O f a g2 hl.length k=O k:=fun k q=>by
  rw[uk (show k≠f from fun e=>q (e▸t)) (fun e=>q (r k e).1)];by_cases e:k=g2
  .rw[if_pos e,e];exact(m (e▸u k q)).symm
  rw[if_neg e]
 have S:∀k,O k≠fr→O k≠(2,0)→k≠b→(l.setCell ⟨b,1,none⟩ (.slice (some ⟨g2,0,none⟩) (hl.length+1) cap)).heap[k]?=w.heap[k]?:=fun k q o B=>by
  rw[heap_setCell_other l ⟨b,1,none⟩ k _ B];refine p.block k (u k q) fun e=>?_
  rcases e with e|e|e
  .exact q (e▸t)
  .exact q (r k e).1
  exact o (h.ho k e)
 have d:O b≠fr:=by rw[h.ob];exact fI (by decide)
 have K:l.heap[b]?=_:=(p.block b H fun e=>by
  rcases e with e|e|e
  .exact d (e▸t)
  .exact d (r b e).1
  have:=h.ho b e;rw[h.ob]at this;cases this).trans h.blk
 have g:∀k,∀x y:Nat,O k=(x,y)→x=1∨3≤x→x<7→(l.setCell ⟨b,1,none⟩ (.slice (some ⟨g2,0,none⟩) (hl.length+1) cap)).heap[k]?=w.heap[k]?∧mo O f a g2 hl.length k=O k:=fun k x y e Y L=>by
  have z:O k≠fr:=by rw[e];exact fI L
  refine⟨S k z (fun q=>?_) (fun q=>?_),P k z⟩
  .rw[e]at q;cases q;omega
  rw[q,h.ob]at e;cases e;omega
 refine⟨⟨?_,(P b d).trans h.ob,?_,fun k q=>?_,?_,fun k q=>?_,fun i X=>?_,fun j Q=>?_,fun k q=>?_⟩,⟨?_,fun k M o B=>?_⟩⟩
 .rw[heap_setCell_same l b 1 _ _ _ K,List.length_append];rfl
 .exact gY h.pr fun k q=>(g k 1 0 (h.po k (iU q)) (.inl rfl) (by decide)).1
 .exact(g k 1 0 (h.po k q) (.inl rfl) (by decide)).2.trans (h.po k q)
 .have z:(hl++[(⟨f,c,a,n,A⟩:HA)]).length=hl.length+1:=by simp
  have C:ng (hl++[(⟨f,c,a,n,A⟩:HA)])=ng hl++[.pointer (some ⟨f,0,none⟩)]:=by simp[ng]
  rw[z,C];exact gY hrow fun k q=>heap_setCell_other l ⟨b,1,none⟩ k _ (fun e=>I ((PN.1 (iU q)).trans e))
 .have e:=PN.1 q;subst e;rw[uk v J,if_pos rfl]
 .exact(h.ps i X).keep fun k M o=>by rcases o with o|o<;>exact g k _ _ o (.inr (by decide)) (by decide)
 .by_cases e:j<hl.length
  .rw[List.getElem_append_left e];exact(h.hs j e).keep (fun k M o=>by rcases o with o|o<;>exact g k _ _ o (.inr (by decide)) (by decide)) h.nw
  have C:j=hl.length:=by rw[List.length_append]at Q;simp at Q;omega
  subst C;rw[List.getElem_append_right (Nat.le_refl _)];simp only[Nat.sub_self,List.getElem_cons_zero];refine⟨(heap_setCell_other l ⟨b,1,none⟩ f _ fun(e:f=b)=>d (e▸t)).trans E,by unfold mo;rw[if_pos rfl],F.keep (fun k q _=>heap_setCell_other l ⟨b,1,none⟩ k _ fun(e:k=b)=>d (e▸(r k q).1)),D,fun k q=>?_⟩;exact RI (r k q).2.1 q
 .have z:l.heap.size≤k:=by simpa using q
  have C:=p.size;rw[uk (by omega) (fun e=>by have:=(r k e).2.2;omega),if_neg (by omega)];exact h.nw k (by omega)
 .refine p.wide ?_ |>.trans (T:=fun k=>k=b) ⟨rfl,rfl,rfl,by simp,fun k _ q=>heap_setCell_other l ⟨b,1,none⟩ k _ q⟩ fun k _ q=>.inl (q▸d)
  intro k _ q;rcases q with q|q|q
  .exact .inr (.inl q)
  .exact .inr (.inr q)
  exact .inl (by rw[h.ho k q];exact fI (by decide))
 rw[uk (fun e=>B (.inl e)) (fun e=>B (.inr e)),if_neg (fun e=>by have:=m (e▸M);rw[←e,o]at this;cases this)];exact o
end
theorem cV.below{i:Nat}{b:List Value}(h:cV w k a n i b)(hb:Below w.heap.size w w'):cV w' k a n i b:=h.keep fun q _ c=>hb.block q c
theorem Cw(h:Below w.heap.size w w')(n:Nat):Below w.heap.size w (w'.drewN n):=h.trans ⟨rfl,rfl,rfl,Nat.le_of_eq (by rw[heap_drewN]),fun _ _=>by rw[heap_drewN]⟩
theorem RJ(h:Below w.heap.size w w')(o:Obj)(n:Nat):Below w.heap.size w ((w'.alloc o).drewN n):=Cw (h.alloc h.size o) n
section
variable {w:World}{hb m:Nat}{ae aa an ab:Option Addr}{ne na nn nb ce ca cn cb:Nat}
theorem ul(z:w.heap[hb]?=some (.cells #[.slice ae ne ce,.slice aa na ca,.slice an nn cn,.slice ab nb cb,.int .i64 (m:Int)] 120 (0,0)))(J:m≤1000000000000000)
 (A:cV w 5 ae ne ne (mE m)) (B:cV w 3 aa na na (mA m)) (C:cV w 1 an nn nn (mN m)) (D:cV w 1 ab nb nb (mB m)):
 Calls Tryz.prog 52 #[.pointer (some ⟨hb,0,none⟩)] w fun e w' =>e=.returned (.bool true)∧Below w.heap.size w w' :=by
 have I:=aB (fun w=>Cs m J w);have k:=aB z;obtain⟨d,f,h⟩:=aM z;have K:=aB A;have L:=aB B;have M:=aB C;have N:=aB D;have R:=A.le;have S:=B.le;have T:=C.le;have X:=D.le;have Y:((-(m:Int)) !=(-(m:Int)))=false:=by simp
 have Z:=underlying63;have ew:IntKind.i64.wrap (-(m:Int))= -(m:Int):=by rw[IntKind.wrap_i64];omega
 have es:(sg m==sg m)=true:=by simp
 clear z A B C D;go_enter func52,ntmps52
 go_wp2_with fail
 refine(aA I _).mono ?_;rintro e w1 ⟨rfl,y⟩;have l:=aB y;clear d f h I y;obtain⟨d,f,h⟩:=aM (((aA l).block _ (cE (aA k))).trans (aA k));go_wp2_with fail
 go_loopg [4] ne (fun g r s=>∃i:Nat,i≤ne∧g=ne - i∧r=.int .i64 i∧Hid (Below w.heap.size w s))
 case atStart=>exact⟨0,Nat.zero_le _,rfl,rfl,l⟩
 case round=>
  obtain⟨i,t,rfl,rfl,a⟩:=hrel;clear d f h l;obtain⟨n,q,p⟩:=aM (((aA a).block _ (cE (aA k))).trans (aA k));by_cases c:i<ne
  .have u:decide ((i:Int)<(ne:Int))=true:=by simp;omega
   have E:(i:Int)<(ne:Int):=by omega
   obtain⟨g,rfl,v,b⟩:=((aA K).below (aA a)).at c;have x:=b 0 (by decide);have F:=b 1 (by decide);have G:=b 2 (by decide);have O:=b 3 (by decide);have P:=b 4 (by decide);simp[mE]at x F G O P;have Q:∀o j,(wr.alloc o).cell? ⟨hb,j,none⟩=#[.slice (some ⟨g,0,none⟩) ne ce,.slice aa na ca,.slice an nn cn,.slice ab nb cb,.int .i64 (m:Int)][j]?:=fun o j=>by rw[←n j];simp only[World.cell?];rw[Below.heap_alloc _ _ _ p]
   clear b;go_wp2_with fail
   go_quiet(fail)
   go_wp2_with fail
   go_roundg (ne - (i+1))
   case measure=>omega
   case rel=>exact⟨i+1,by omega,rfl,by simp,RJ (aA a) _ _⟩
  have u:decide ((i:Int)<(ne:Int))=false:=by simp;omega
  have H:decide (i<ne)=false:=by simp;omega
  have l:=a;clear a c t n q p;obtain⟨d,f,h⟩:=aM (((aA l).block _ (cE (aA k))).trans (aA k));go_wp2_with fail
  go_loopg [6] na (fun g r s=>∃i:Nat,i≤na∧g=na - i∧r=.int .i64 i∧Hid (Below w.heap.size w s))
  case atStart=>exact⟨0,Nat.zero_le _,rfl,rfl,l⟩
  case round=>
   obtain⟨i,t,rfl,rfl,a⟩:=hrel;clear d f h l;obtain⟨n,q,p⟩:=aM (((aA a).block _ (cE (aA k))).trans (aA k));by_cases c:i<na
   .have u:decide ((i:Int)<(na:Int))=true:=by simp;omega
    have E:(i:Int)<(na:Int):=by omega
    obtain⟨g,rfl,v,b⟩:=((aA L).below (aA a)).at c;have x:=b 0 (by decide);have F:=b 1 (by decide);have G:=b 2 (by decide);simp[mA]at x F G;clear b;go_wp2_with fail
    go_roundg (na - (i+1))
    case measure=>omega
    case rel=>exact⟨i+1,by omega,rfl,by simp,aA a⟩
   have u:decide ((i:Int)<(na:Int))=false:=by simp;omega
   have H:decide (i<na)=false:=by simp;omega
   have l:=a;clear a c t n q p;obtain⟨d,f,h⟩:=aM (((aA l).block _ (cE (aA k))).trans (aA k));go_wp2_with fail
   go_loopg [7] nn (fun g r s=>∃i:Nat,i≤nn∧g=nn - i∧r=.int .i64 i∧Hid (Below w.heap.size w s))
   case atStart=>exact⟨0,Nat.zero_le _,rfl,rfl,l⟩
   case round=>
    obtain⟨i,t,rfl,rfl,a⟩:=hrel;clear d f h l;obtain⟨n,q,p⟩:=aM (((aA a).block _ (cE (aA k))).trans (aA k));by_cases c:i<nn
    .have u:decide ((i:Int)<(nn:Int))=true:=by simp;omega
     have E:(i:Int)<(nn:Int):=by omega
     obtain⟨g,rfl,v,b⟩:=((aA M).below (aA a)).at c;have x:=b 0 (by decide);simp[mN]at x;clear b;go_wp2_with fail
     go_roundg (nn - (i+1))
     case measure=>omega
     case rel=>exact⟨i+1,by omega,rfl,by simp,aA a⟩
    have u:decide ((i:Int)<(nn:Int))=false:=by simp;omega
    have H:decide (i<nn)=false:=by simp;omega
    have l:=a;clear a c t n q p;obtain⟨d,f,h⟩:=aM (((aA l).block _ (cE (aA k))).trans (aA k));go_wp2_with fail
    go_loopg [8] nb (fun g r s=>∃i:Nat,i≤nb∧g=nb - i∧r=.int .i64 i∧Hid (Below w.heap.size w s))
    case atStart=>exact⟨0,Nat.zero_le _,rfl,rfl,l⟩
    case round=>
     obtain⟨i,t,rfl,rfl,a⟩:=hrel;clear d f h l;obtain⟨n,q,p⟩:=aM (((aA a).block _ (cE (aA k))).trans (aA k));by_cases c:i<nb
     .have u:decide ((i:Int)<(nb:Int))=true:=by simp;omega
      have E:(i:Int)<(nb:Int):=by omega
      obtain⟨g,rfl,v,b⟩:=((aA N).below (aA a)).at c;have x:=b 0 (by decide);simp[mB]at x;clear b;go_wp2_with fail
      go_quiet(fail)
      go_wp2_with fail
      go_roundg (nb - (i+1))
      case measure=>omega
      case rel=>exact⟨i+1,by omega,rfl,by simp,Cw (aA a) _⟩
     have u:decide ((i:Int)<(nb:Int))=false:=by simp;omega
     have H:decide (i<nb)=false:=by simp;omega
     have l:=a;clear a c t n q p;obtain⟨d,f,h⟩:=aM (((aA l).block _ (cE (aA k))).trans (aA k));go_wp2_with fail
     go_ret;exact⟨rfl,aA l⟩
end
section
variable {w:World}{hb c n cp m:Nat}{a:Option Addr}
theorem gZ{b:Option Addr}:m_ none b:=fun _ h=>absurd h fV
theorem pY{b:Option Addr}:m_ b none:=fun _ _ h=>absurd h fV
theorem four(h:c≤3):c=0∨c=1∨c=2∨c=3:=by omega
theorem RL(g:w.heap[hb]?=some (.cells (jE c (.slice a n cp) (m:Int)) 120 (0,0)))(hc:c≤3)(h:m≤1000000000000000)(i:cV w (jU c) a n 0 (pX c m))(j:¬aT a hb):
 Calls Tryz.prog 90 #[.pointer (some ⟨hb,0,none⟩)] w fun e w' =>e=.returned (.tuple #[])∧Ch (aT a) w w' ∧cV w' (jU c) a n n (pX c m):=by
 have l:∀{o p r s:Option Addr} {w' :World},(o=a∨o=none)→(p=a∨p=none)→(r=a∨r=none)→(s=a∨s=none)→Ch (fun k=>aT o k∨aT p k∨aT r k∨aT s k) w w' →Ch (aT a) w w' :=fun b d f t q=>q.wide fun k _ e=>by
  rcases e with e|e|e|e
  .rcases b with rfl|rfl;exact e;exact absurd e fV
  .rcases d with rfl|rfl;exact e;exact absurd e fV
  .rcases f with rfl|rfl;exact e;exact absurd e fV
  rcases t with rfl|rfl;exact e;exact absurd e fV
 rcases four hc with rfl|rfl|rfl|rfl
 .exact(ug g h i (.nil _ _ _ _) (.nil _ _ _ _) (.nil _ _ _ _) j fV fV fV pY pY pY gZ gZ gZ).mono fun e w' ⟨b,d,f,_⟩=>⟨b,l (.inl rfl) (.inr rfl) (.inr rfl) (.inr rfl) d,f⟩
 .exact(ug g h (.nil _ _ _ _) i (.nil _ _ _ _) (.nil _ _ _ _) fV j fV fV gZ gZ gZ pY pY gZ).mono fun e w' ⟨b,d,_,f,_⟩=>⟨b,l (.inr rfl) (.inl rfl) (.inr rfl) (.inr rfl) d,f⟩
 .exact(ug g h (.nil _ _ _ _) (.nil _ _ _ _) i (.nil _ _ _ _) fV fV j fV gZ gZ gZ gZ gZ pY).mono fun e w' ⟨b,d,_,_,f,_⟩=>⟨b,l (.inr rfl) (.inr rfl) (.inl rfl) (.inr rfl) d,f⟩
 exact(ug g h (.nil _ _ _ _) (.nil _ _ _ _) (.nil _ _ _ _) i fV fV fV j gZ gZ gZ gZ gZ gZ).mono fun e w' ⟨b,d,_,_,_,f⟩=>⟨b,l (.inr rfl) (.inr rfl) (.inr rfl) (.inl rfl) d,f⟩
theorem K_(b:w.heap[hb]?=some (.cells (jE c (.slice a n cp) (m:Int)) 120 (0,0)))(hc:c≤3)(d:m≤1000000000000000)(f:cV w (jU c) a n n (pX c m)):
 Calls Tryz.prog 52 #[.pointer (some ⟨hb,0,none⟩)] w fun e w' =>e=.returned (.bool true)∧Below w.heap.size w w' :=by
 rcases four hc with rfl|rfl|rfl|rfl
 .exact ul b d f (.nil _ _ _ _) (.nil _ _ _ _) (.nil _ _ _ _)
 .exact ul b d (.nil _ _ _ _) f (.nil _ _ _ _) (.nil _ _ _ _)
 .exact ul b d (.nil _ _ _ _) (.nil _ _ _ _) f (.nil _ _ _ _)
 exact ul b d (.nil _ _ _ _) (.nil _ _ _ _) (.nil _ _ _ _) f
theorem ou{d:List Value}(h:w.ownsRow 0 e 1 (.slice a n cap) n d){i:Nat}(f:i<n):∃g,a=some ⟨g,0,none⟩∧g<w.heap.size∧w.cell? ⟨g,i,none⟩=d[i]?:=by
 obtain⟨g,j,b,_,c⟩:=World.ownsRow.form h (by omega);injection b with b _ hc;subst b hc;exact⟨g,rfl,c,World.ownsRow.cellAt h i (by omega)⟩
end
section
variable {w:World}{O:Nat→Nat×Nat}{b:Nat}{pl:List (Pl×PA)}{hl:List HA}{pa ha:Option Addr}{pc hc:Nat}
theorem Cx(h:WI w O b pl hl pa pc ha hc)(A:hl.length≤100000000000000):
 Calls Tryz.prog 31 #[.pointer (some ⟨b,0,none⟩)] w fun e w' =>e=.returned (.bool true)∧Below w.heap.size w w' :=by
 have v:=aB h;obtain⟨l,n,o⟩:=aM h.blk;clear h;go_enter func31,ntmps31
 go_wp2_with fail
 go_loopg [3] hl.length (fun g x y=>∃i:Nat,i≤hl.length∧g=hl.length - i∧x=.int .i64 i∧Hid (Below w.heap.size w y))
 case atStart=>exact⟨0,Nat.zero_le _,rfl,rfl,aB (Below.refl _ _)⟩
 case round=>
  obtain⟨i,B,rfl,rfl,c⟩:=hrel;have d:=(aA v).below (aA c);clear l n o;obtain⟨p,q,r⟩:=aM d.blk;by_cases a:i<hl.length
  .have z:decide ((i:Int)<(hl.length:Int))=true:=by simp;omega
   have C:(i:Int)<(hl.length:Int):=by omega
   obtain⟨g,rfl,s,f⟩:=ou d.hr a;rw[show(ng hl)[i]?=some (.pointer (some ⟨hl[i].hb,0,none⟩)) by simp[ng,a]]at f;have k:=d.hs i a;have u:=aB (K_ (m:=i+1) k.blk k.c4 (by omega) k.md);clear d k;generalize hl[i].hb=hb at *;go_wp2_with fail
   refine(aA u).mono ?_;rintro e w2 ⟨rfl,j⟩;have t:=aB ((aA c).trans (j.mono (aA c).size));clear j u c p q r f s;go_wp2_with fail
   go_roundg (hl.length - (i+1))
   case measure=>omega
   case rel=>exact⟨i+1,by omega,rfl,by simp,t⟩
  have z:decide ((i:Int)<(hl.length:Int))=false:=by simp;omega
  have D:decide (i<hl.length)=false:=by simp;omega
  clear d;go_wp2_with fail
  go_ret;exact⟨rfl,aA c⟩
theorem La:(Tryz.prog.info? 102).map (fun i=>(i.zero,i.size,i.bytes))=some (some (.pointer none),1,8):=by kernel_rfl
theorem Lb(h:WI w O b pl hl pa pc ha hc){hb cp:Nat}{x:Int}(I:w.heap[hb]?=some (.cells (jE c (.slice a n cp) x) 120 (0,0)))(C:c≤3)(m:O hb=fr)(hM:cV w (jU c) a n 0 [])
 (l:∀k,aT a k→O k=fr∧k≠hb∧k<w.heap.size) (hn:hl.length≤17000000000000):
 Calls Tryz.prog 68 #[.pointer (some ⟨b,0,none⟩),.pointer (some ⟨hb,0,none⟩)] w fun e w' =>e=.returned (.tuple #[])∧∃O' ha' hc', WI w' O' b pl (hl++[⟨hb,c,a,n,cp⟩]) pa pc ha' hc' ∧bF (fun k=>k=hb∨aT a k) O O' w w' :=by
 obtain⟨D,E,z⟩:=aM h.blk;obtain⟨t,J,F⟩:=aM I;have K:=aB F;have L:w.cell? ⟨hb,4,none⟩=some (.int .i64 x):=t 4;clear t;have a2:hb≠b:=fun e=>by rw[e,h.ob]at m;cases m
 have u:¬aT a hb:=fun e=>(l hb e).2.1 rfl
 have f:(w.setCell ⟨hb,4,none⟩ (.int .i64 ((hl.length+1:Nat):Int))).heap[hb]?=some (.cells (jE c (.slice a n cp) ((hl.length+1:Nat):Int)) 120 (0,0)):=heap_setCell_same w hb 4 _ _ _ I;have o:cV (w.setCell ⟨hb,4,none⟩ (.int .i64 ((hl.length+1:Nat):Int))) (jU c) a n 0 (pX c (hl.length+1)):=(hM.keep fun q hq _=>heap_setCell_other w ⟨hb,4,none⟩ q _ (l q hq).2.1).zero;have M:=aB (RL f C (by omega) o u);have H:=aB h;have HX:=aB (And.intro m (And.intro l (And.intro f o)));have g:((hl.length+1:Nat):Int)=(hl.length:Int)+1:=by omega
 rw[g]at M;obtain⟨i0,hi,N,P,Q⟩:=info_parts La;clear h I m hM l f o;go_enter func68,ntmps68
 go_wp2_with fail
 refine(aA M).mono ?_;rintro e w2 ⟨rfl,p,i⟩;obtain⟨m,l,f,o⟩:=aA HX;have a3:¬aT a b:=fun e=>by have q:=(l b e).1;rw[(aA H).ob]at q;cases q
 have j:Ch (fun k=>k=hb∨aT a k) w w2:=Ch.trans (S:=fun k=>k=hb∨aT a k) (w1:=w.setCell ⟨hb,4,none⟩ (.int .i64 ((hl.length:Int)+1))) ⟨rfl,rfl,rfl,by simp,fun k _ q=>heap_setCell_other w ⟨hb,4,none⟩ k _ fun e=>q (.inl e)⟩ p fun k _ q=>.inr q
 have R:∀k,O k≠fr→¬(k=hb∨aT a k):=fun k q e=>by
  rcases e with e|e
  .exact q (e▸m)
  exact q (l k e).1
 have X:∀x y:Nat,x<7→(x,y)≠fr:=fun x y h=>fI h
 have d:=(aA H).ch j fun k q=>by
  rcases q with q|q
  .exact q▸m
  exact(l k q).1
 have r:w2.heap[hb]?=some (.cells (jE c (.slice a n cp) ((hl.length+1:Nat):Int)) 120 (0,0)):=by
  rw[g]at f⊢;exact p.cells f u
 have HO:=aB (d.hr.alloc (.cells #[.pointer (some ⟨hb,0,none⟩)] 102));have HB:=aB (show(w2.alloc (.cells #[.pointer (some ⟨hb,0,none⟩)] 102)).heap[w2.heap.size]?=_ from heap_alloc_new w2 _);have Y:=aB (show hl.length+1≤maxLen by unfold maxLen;omega);clear D E z L J F;obtain⟨D,E,z⟩:=aM d.blk;have H3:=aB (fun(w3:World) (q:(w2.alloc (.cells #[.pointer (some ⟨hb,0,none⟩)] 102)).grownBy w3 (Value.slice ha hl.length hc).ownBlock)=>(q.block b (by simp;omega) fun e=>by have B:=d.ho b (iU e.symm);rw[d.ob]at B;cases B).trans ((Below.heap_alloc _ _ _ z).trans d.blk));have HY:=aB (And.intro j (And.intro d (And.intro r i)));clear M p i m l f o j R X d r g;go_wp2_with(at_builtin;refine wpList_append_lies _ rfl _ _ 50 rfl 0 102 i0 _ 1 8 underlying50 hi N P Q rfl (by decide) (.slice ha hl.length hc) hl.length (ng hl) (by simp[Act.eval]) (aA HO) ⟨w2.heap.size,0,none⟩ 1 1 [.pointer (some ⟨hb,0,none⟩)] (by simp[Act.eval]) rfl (World.news_of_block (aA HB)) (by simp[Value.oneCell']) (by decide) (aA Y) (by omega) (Nat.zero_le _) (w2.heap.size+1) (by simp) ?_;intro g2 cap w3 hown hgrow s a1;obtain⟨hc3,a4,a5⟩:=aM (aA H3 w3 hgrow);have HG:=aB (And.intro hown (And.intro hgrow s));clear hown hgrow s)
 go_end0
 obtain⟨j,d,r,i⟩:=aA HY;obtain⟨hown,hgrow,s⟩:=aA HG;obtain⟨m,l,-,-⟩:=aA HX;have s2:=j.size;have A:∀k,k<w2.heap.size→¬aT ha k→w3.heap[k]?=w2.heap[k]?:=fun k Z B=>(hgrow.block k (by simp;omega) fun e=>B (iU e.symm)).trans (Below.heap_alloc _ _ _ Z)
 have G:=cE r;have v:∀k,O k=fr→¬aT ha k:=fun k q e=>by rw[(aA H).ho k e]at q;cases q
 have a0:=hgrow.size;simp only[World.size_alloc]at a0;refine⟨rfl,_,_,_,(aA H).kept C m (aA K) l (j.wide (T:=fun k=>k=hb∨aT a k∨aT ha k) (fun k _ q=>by rcases q with q|q;exact .inl q;exact .inr (.inl q)) |>.trans (T:=aT ha) ⟨hgrow.os,hgrow.tape,hgrow.output,by omega,A⟩ fun k _ q=>.inr (.inr q)) ((A hb G (v hb m)).trans r) (i.keep fun k Z B=>A k B (v k (l k Z).1)) hown ?_⟩;rcases s with q|q
 .exact .inl (iU q)
 exact .inr (by omega)
end
end Go.Proofs.YtmgfijllcdadgaaGreatDoor.U
