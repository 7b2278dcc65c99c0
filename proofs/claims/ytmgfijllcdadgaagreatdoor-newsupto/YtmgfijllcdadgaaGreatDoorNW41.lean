import Derived.Test.YtmgfijllcdadgaaGreatDoorNW40
import Derived.Test.YtmgfijllcdadgaaGreatDoorNW13
import Derived.Lib.AppendStr
import Derived.Test.YtmgfijllcdadgaaGreatDoorNW01
import Derived.Test.YtmgfijllcdadgaaGreatDoorNW06
import Derived.Test.YtmgfijllcdadgaaGreatDoorNW02
set_option linter.unusedVariables false
set_option linter.unusedSimpArgs false
set_option maxHeartbeats 2000000
set_option maxRecDepth 100000
namespace Go.Proofs.YtmgfijllcdadgaaGreatDoor
open Go.RowKit
open Mk (St Bs Ev aD)
open Go.Proofs.Tryz
open Mk (jm)
variable {w:World}{b:Nat}{t:Bs}{f:List Nat}
theorem Ni(l:Bs):Lib.strCells ⟨l.toArray⟩=l.map bv:=by unfold Lib.strCells bv;simp
theorem jQ{P:Program}{w' :World}{base:Nat}{t u m e:TypeId}{i:TypeInfo}(x:P.underlying t=some (.slice e))(y:P.underlying u=some .string)(z:P.info? e=some i)(F:i.zero=some (.int .u8 0))(a:i.size=1)(f:i.bytes=1)
 {v o:Value} {n:Nat} {p:List Value} (hown:w.ownsRow base e 1 v n p) (s:ByteArray) (A:n+s.size≤maxLen) (q:n+s.size≤140737488355328)
 (B:(Builtin.append_ #[t,u] m #[v,.string s]).run P w=.ok o w') (h:o=.slice none 0 0↔v=.slice none 0 0∧s.size=0):o.ownBlock=v.ownBlock∨o.ownBlock=some w.heap.size:=by
 have r:n+s.size≤9223372036854775807:=by simp only[maxLen]at A;omega
 have C:p.length=n:=by simpa using hown.1
 have hrow:=hown;rcases hown.2 with⟨rfl,rfl⟩|⟨g,cap,k,rfl,H,I,J,K,D,E⟩
 .by_cases L:s.size=0
  .rw[h.2 ⟨rfl,L⟩];exact .inl rfl
  have b:=run_append_nil_string (P:=P) w t u m e i (.int .u8 0) x y z F s (by omega) (by omega) (by rw[f];omega);rw[B]at b;injection b with l _;rw[l];exact .inr rfl
 by_cases c:n+s.size≤cap
 .have G:k.size=cap:=by simpa using D
  have b:=Lib.run_append_room_string (P:=P) w t u m e i x y z a g n cap k I s c (by omega);rw[B]at b;injection b with l _;rw[l];exact .inl rfl
 have d:∀j u,p[j]?=some u→w.cell? ((⟨g,0,none⟩:Addr).add j)=some u:=hrow.cells (g:=g) rfl;have b:=Lib.run_append_grow_string (P:=P) w t u m e i (.int .u8 0) x y z F ⟨g,0,none⟩ n cap p (by rw[a];simpa using C) d s (by omega) (by omega) (by rw[f];exact growslice_fits (by omega) (by omega));rw[B]at b;injection b with l _;rw[l];exact .inr rfl
theorem Nj{P:Program}{g:Array Oper}{rest:List Oper}{o:Oper}{a:Act}{Q:Exit→Act→World→Prop}(l:o.guard=none)(p x:Operand)(t u:TypeId)
 (B:o.op=.call {callee:=.builtin .append,args:=#[p,x],argTypes:=#[t,u]})
 (base:Nat) (e:TypeId) (i:TypeInfo) (q:P.underlying t=some (.slice e)) (r:P.underlying u=some .string) (y:P.info? e=some i) (z:i.zero=some (.int .u8 0))
 (c:i.size=1) (j:i.bytes=1)
 (v:Value) (n:Nat) (m:List Value) (C:a.eval p=v) (hown:w.ownsRow base e 1 v n m) (s:ByteArray) (D:a.eval x=.string s)
 (k:n+s.size≤maxLen) (b:n+s.size≤140737488355328) (d:base≤w.heap.size)
 (h:∀f w', w'.ownsRow base e 1 f (n+s.size) (m++Lib.strCells s)→w.grownBy w' v.ownBlock→(f.ownBlock=v.ownBlock∨f.ownBlock=some w.heap.size)→wpList P g Q rest (a.put o.dst f) w'):wpList P g Q (o::rest) a w:=by
 refine wpList_plain l fun K E=>?_
 obtain⟨f,w', A,F,G,H⟩:=Lib.run_append_own_string (P:=P) w base t u o.type e i q r y z c j v n m hown s k b d;have I:=jQ q r y z c j hown s k b A H;unfold Oper.wp execOp;simp only[B,resolve,invoke,builtin,Sem.run_bind,Sem.run_pure,Result.andThen_ok,List.map_toArray,List.map_cons,List.map_nil,C,D,A];exact E _ _ (h f w' F G I)
structure WT(w:World)(b:Nat)(t:Bs)(a:Option Addr)(c:Nat):Prop where
 blk:w.heap[b]?=some (.cells #[.slice a t.length c] 150 (0,0))
 row:w.ownsRow (b+1) 5 1 (.slice a t.length c) t.length (t.map bv)
def bV(w:World)(b:Nat)(t:Bs)(f:List Nat):Prop:=∃a c,WT w b t a c∧f=(Value.slice a t.length c).ownBlock.toList
section
variable {w w' :World}{b:Nat}{t:Bs}{a:Option Addr}{c:Nat}{f:List Nat}
theorem WT.lt(h:WT w b t a c):b<w.heap.size:=(Array.getElem?_eq_some_iff.1 h.blk).1
theorem WT.cell(h:WT w b t a c):w.cell? ⟨b,0,none⟩=some (.slice a t.length c):=by simp[World.cell?,h.blk]
theorem WT.keep(h:WT w b t a c)(d:Below w.heap.size w w'):WT w' b t a c:=
 ⟨(d.block b h.lt).trans h.blk,fP (r:=⟨5,1,_,_,_⟩) h.row fun k e=>d.block k (World.ownsRow.lt h.row k e).2⟩
theorem oI(h:bV w b t f):b<w.heap.size∧∀k∈f,b<k∧k<w.heap.size:=by
 obtain⟨c,d,a,rfl⟩:=h;refine⟨a.lt,fun k e=>?_⟩;have g:(Value.slice c t.length d).ownBlock=some k:=by simpa using e
 have i:=World.ownsRow.lt a.row k g;omega
theorem uJ(h:bV w b t f)(a:Below w.heap.size w w'):bV w' b t f:=by
 obtain⟨c,d,e,rfl⟩:=h;exact⟨c,d,e.keep a,rfl⟩
theorem Qe(h:bV w b t f)(o:Obj):bV (w.alloc o) b t f∧Fr w (w.alloc o) b f f:=⟨uJ h ((Below.refl _ _).alloc (Nat.le_refl _) _),Fr.alloc _ _ _ _⟩
theorem WT.grow(h:WT w b t a c){m:Bs}{v:Value}(l:w'.ownsRow (b+1) 5 1 v (t.length+m.length) (t.map bv++m.map bv))(g:w.grownBy w' (Value.slice a t.length c).ownBlock)(n:v.ownBlock=(Value.slice a t.length c).ownBlock∨v.ownBlock=some w.heap.size):
 (∃x,bV (w'.setCell ⟨b,0,none⟩ v) b (t++m) x∧Fr w (w'.setCell ⟨b,0,none⟩ v) b (Value.slice a t.length c).ownBlock.toList x)∧w'.cell? ⟨b,0,none⟩=some (.slice a t.length c)∧w'.frozen? ⟨b,0,none⟩=false∧b<w'.heap.size:=by
 have o:some b≠(Value.slice a t.length c).ownBlock:=fun e=>by
  have:=(World.ownsRow.lt h.row b e.symm).1;omega
 have d:w'.heap[b]?=some (.cells #[.slice a t.length c] 150 (0,0)):=(g.block b h.lt o).trans h.blk;have p:b<w'.heap.size:=(Array.getElem?_eq_some_iff.1 d).1;obtain⟨i,j,y⟩:=slice_form l;subst y;refine⟨⟨(Value.slice i (t.length+m.length) j).ownBlock.toList,⟨i,j,⟨?_,?_⟩,by simp⟩,?_⟩,by simp[World.cell?,d],by simp[World.frozen?,d],p⟩
 .simp[World.setCell,Array.getElem?_modify,d]
 .have:(w'.setCell ⟨b,0,none⟩ (.slice i (t.length+m.length) j)).ownsRow (b+1) 5 1 (.slice i (t.length+m.length) j) (t.length+m.length) (t.map bv++m.map bv):=fP (r:=⟨5,1,_,_,_⟩) l fun k f=>Below.heap_setCell _ _ _ _ (by
   have:=(World.ownsRow.lt l k f).1
   show k≠b
   omega)
  simpa using this
 refine⟨g.os,g.tape,g.output,by simpa using g.size,fun k f s u=>?_,fun k f=>?_⟩
 .rw[Below.heap_setCell _ _ _ _ (show k≠b from s)];refine g.block k f fun e=>u ?_
  rw[←e];simp
 have f:(Value.slice i (t.length+m.length) j).ownBlock=some k:=by simpa using f
 rcases n with q|q
 .left;rw[←q,f];simp
 right;rw[f]at q;cases q;exact Nat.le_refl _
end
theorem kX(h:bV w b t f)(s:Bs)(z:t.length+s.length≤1000000000):
 Calls Tryz.prog 168 #[.pointer (some ⟨b,0,none⟩),.string ⟨s.toArray⟩] w fun e w' =>e=.returned (.tuple #[])∧∃n,bV w' b (t++s) n∧Fr w w' b f n:=by
 obtain⟨a,c,h,rfl⟩:=h;have A:=h.cell;have q:=h.lt;obtain⟨r,u,j,k,l⟩:=info_parts oU;have o:=aB h;clear h;go_enter func168,ntmps168
 go_wp2_with(at_builtin;refine Nj rfl _ _ _ _ rfl (b+1) 5 r underlying74 underlying9 u j k l (.slice a t.length c) t.length (t.map bv) rfl (aA o).row ⟨s.toArray⟩ rfl (by show t.length+s.length≤_;unfold maxLen;omega) (by show t.length+s.length≤_;omega) (by omega) ?_;intro B w3 d i g;rw[Ni]at d;obtain⟨C,D,rfl⟩:=slice_form d;obtain⟨p,hc3,v,x⟩:=(aA o).grow (m:=s) d i g;have y:=aB p;clear p d i g)
 go_end0
 exact⟨rfl,aA y⟩
theorem Dn(x:UInt8)(w:World):Calls Tryz.prog 211 #[.int .u8 (x.toNat:Int)] w fun e w' =>e=.returned (.string ⟨(jI x).toArray⟩)∧w' =w:=by
 have c:∀k:UInt8,x=k↔(x.toNat:Int)=(k.toNat:Int):=fun k=>⟨fun e=>by rw[e],fun e=>UInt8.toNat_inj.1 (by omega)⟩
 obtain⟨a,b⟩:∃F,F=jI x:=⟨_,rfl⟩;rw[←b];by_cases d:(x.toNat:Int)=60
 .have h:((x.toNat:Int)==60)=true:=by simpa using d
  have:a=[38,108,116,59]:=by rw[b,(c 60).2 d];rfl
  subst this;clear b;go_enter func211,ntmps211
  go_wp2
  go_ret;exact⟨rfl,rfl⟩
 by_cases f:(x.toNat:Int)=62
 .have h:((x.toNat:Int)==60)=false:=by simpa using d
  have j:((x.toNat:Int)==62)=true:=by simpa using f
  have:a=[38,103,116,59]:=by rw[b,(c 62).2 f];rfl
  subst this;clear b;go_enter func211,ntmps211
  go_wp2
  go_ret;exact⟨rfl,rfl⟩
 by_cases g:(x.toNat:Int)=38
 .have h:((x.toNat:Int)==60)=false:=by simpa using d
  have j:((x.toNat:Int)==62)=false:=by simpa using f
  have l:((x.toNat:Int)==38)=true:=by simpa using g
  have:a=[38,97,109,112,59]:=by rw[b,(c 38).2 g];rfl
  subst this;clear b;go_enter func211,ntmps211
  go_wp2
  go_ret;exact⟨rfl,rfl⟩
 by_cases i:(x.toNat:Int)=13
 .have h:((x.toNat:Int)==60)=false:=by simpa using d
  have j:((x.toNat:Int)==62)=false:=by simpa using f
  have l:((x.toNat:Int)==38)=false:=by simpa using g
  have m:((x.toNat:Int)==13)=true:=by simpa using i
  have:a=[38,35,49,51,59]:=by rw[b,(c 13).2 i];rfl
  subst this;clear b;go_enter func211,ntmps211
  go_wp2
  go_ret;exact⟨rfl,rfl⟩
 have h:((x.toNat:Int)==60)=false:=by simpa using d
 have j:((x.toNat:Int)==62)=false:=by simpa using f
 have l:((x.toNat:Int)==38)=false:=by simpa using g
 have m:((x.toNat:Int)==13)=false:=by simpa using i
 have:a=[]:=by
  rw[b];unfold jI;rw[if_neg (fun k=>d ((c 60).1 k)),if_neg (fun k=>f ((c 62).1 k)),if_neg (fun k=>g ((c 38).1 k)),if_neg (fun k=>i ((c 13).1 k))]
 subst this;clear b;go_enter func211,ntmps211
 go_wp2
 go_ret;exact⟨rfl,rfl⟩
theorem Nk(x:UInt8)(w:World):Calls Tryz.prog 229 #[.int .u8 (x.toNat:Int)] w fun e w' =>e=.returned (.string ⟨(kz x).toArray⟩)∧w' =w:=by
 have c:∀k:UInt8,x=k↔(x.toNat:Int)=(k.toNat:Int):=fun k=>⟨fun e=>by rw[e],fun e=>UInt8.toNat_inj.1 (by omega)⟩
 obtain⟨a,b⟩:∃F,F=kz x:=⟨_,rfl⟩;rw[←b];by_cases d:(x.toNat:Int)=34
 .have h:((x.toNat:Int)==34)=true:=by simpa using d
  have:a=[38,113,117,111,116,59]:=by rw[b,(c 34).2 d];rfl
  subst this;clear b;go_enter func229,ntmps229
  go_wp2
  go_ret;exact⟨rfl,rfl⟩
 by_cases f:(x.toNat:Int)=9
 .have h:((x.toNat:Int)==34)=false:=by simpa using d
  have i:((x.toNat:Int)==9)=true:=by simpa using f
  have:a=[38,35,57,59]:=by rw[b,(c 9).2 f];rfl
  subst this;clear b;go_enter func229,ntmps229
  go_wp2
  go_ret;exact⟨rfl,rfl⟩
 by_cases g:(x.toNat:Int)=10
 .have h:((x.toNat:Int)==34)=false:=by simpa using d
  have i:((x.toNat:Int)==9)=false:=by simpa using f
  have j:((x.toNat:Int)==10)=true:=by simpa using g
  have:a=[38,35,49,48,59]:=by rw[b,(c 10).2 g];rfl
  subst this;clear b;go_enter func229,ntmps229
  go_wp2
  go_ret;exact⟨rfl,rfl⟩
 have h:((x.toNat:Int)==34)=false:=by simpa using d
 have i:((x.toNat:Int)==9)=false:=by simpa using f
 have j:((x.toNat:Int)==10)=false:=by simpa using g
 have:a=jI x:=by
  rw[b];unfold kz;rw[if_neg (fun k=>d ((c 34).1 k)),if_neg (fun k=>f ((c 9).1 k)),if_neg (fun k=>g ((c 10).1 k))]
 subst this;clear b;go_enter func229,ntmps229
 go_wp2_with fail
 refine(Dn x _).mono ?_;rintro e w1 ⟨rfl,rfl⟩;go_wp2
 go_ret;exact⟨rfl,rfl⟩
theorem Dp(h:bV w b t f)(x:UInt8)(r:Bs)(N:t.length+r.length+1≤1000000000):
 Calls Tryz.prog 212 #[.pointer (some ⟨b,0,none⟩),.int .u8 (x.toNat:Int),.string ⟨r.toArray⟩] w fun e w' =>e=.returned (.tuple #[])∧∃k,bV w' b (t++either x r) k∧Fr w w' b f k:=by
 cases r with
 |cons y r=>
  have e0:((y::r)==([]:Bs))=false:=rfl;have E:=aB (kX h (y::r) (by omega));have g:either x (y::r)=y::r:=by unfold either;rw[if_neg (by simp)]
  rw[g];generalize(y::r)=z at *;clear g h;go_enter func212,ntmps212
  go_wp2_with fail
  refine(aA E).mono ?_;rintro e w1 ⟨rfl,s⟩;have l:=aB s;clear s;go_wp2
  go_end0
  exact⟨rfl,aA l⟩
 |nil=>
  obtain⟨a,c,h,rfl⟩:=h;obtain⟨F,G,n,o,p⟩:=info_parts oU;have O:=h.cell;have H:=h.lt;have v:=h.keep ((Below.refl w.heap.size w).alloc (Nat.le_refl _) (.cells #[.int .u8 (x.toNat:Int)] 5));have HA:=aB v;have I:=aB (show(w.alloc (.cells #[.int .u8 (x.toNat:Int)] 5)).heap[w.heap.size]?=_ from heap_alloc_new w _);have g:either x []=[x]:=rfl;rw[g];clear h v g;go_enter func212,ntmps212
  go_wp2_with(at_builtin;refine wpList_append_lies _ rfl _ _ 74 rfl (b+1) 5 F _ 1 1 underlying74 G n o p rfl (by decide) (.slice a t.length c) t.length (t.map bv) (by simp[Act.eval]) (aA HA).row ⟨w.heap.size,0,none⟩ 1 1 [.int .u8 (x.toNat:Int)] (by simp[Act.eval]) rfl (World.news_of_block (aA I)) (by intro u A;simp at A;subst A;rfl) (by decide) (by unfold maxLen;omega) (by omega) (by simp;omega) (w.heap.size+1) (by simp) ?_;intro P B w3 i j d C;obtain⟨D,hc3,J,K⟩:=(aA HA).grow (m:=[x]) i j (by rcases d with q|q;exact .inl q.symm;exact .inr (by rw[q];simp[Value.ownBlock]));have l:=aB D;clear D i j d)
  refine bodyPost_ret (results_none rfl _ _ _) rfl ?_;obtain⟨k,L,M⟩:=aA l;exact⟨rfl,k,L,(Fr.alloc _ _ _ _).trans M⟩
theorem Nl(s:Bs)(i:Nat)(y:UInt8)(a:s[i]?=some y):iI (s.take (i+1))=iI (s.take i)++either y (jI y):=by
 rw[List.take_add_one,a,Ng];congr 1
 unfold iI;simp
theorem Nn(s:Bs)(i:Nat)(y:UInt8)(a:s[i]?=some y):iJ (s.take (i+1))=iJ (s.take i)++either y (kz y):=by
 rw[List.take_add_one,a,Nh];congr 1
 unfold iJ;simp
theorem Qf(y:UInt8):(jI y).length≤6∧(kz y).length≤6:=by
 unfold kz jI;constructor<;>(repeat' split)<;>simp
theorem uK:∀(s:Bs),(iI s).length≤6*s.length∧(iJ s).length≤6*s.length
 |[]=>⟨Nat.le_refl _,Nat.le_refl _⟩
 |x::r=>by
  have e:iI (x::r)=either x (jI x)++iI r:=rfl;have b:iJ (x::r)=either x (kz x)++iJ r:=rfl;have h:=uK r;have a:=Qf x;have k:∀z:Bs,z.length≤6→(either x z).length≤6:=fun z c=>by
   unfold either;split
   .simp
   exact c
  rw[e,b,List.length_append,List.length_append,List.length_cons];have:=k _ a.1;have:=k _ a.2;omega
theorem Np(h:bV w b t f)(s:Bs)(C:t.length+6*s.length+10≤1000000000):
 Calls Tryz.prog 171 #[.pointer (some ⟨b,0,none⟩),.string ⟨s.toArray⟩] w fun e w' =>e=.returned (.tuple #[])∧∃a,bV w' b (t++iI s) a∧Fr w w' b f a:=by
 have n:=aB h;have d:=aB (Nl s);clear h;go_enter func171,ntmps171
 go_wp2_with fail
 go_loopg [4] s.length (fun g q o=>∃i:Nat,i≤s.length∧g=s.length - i∧q=.int .i64 (i:Int)∧Hid (∃a,bV o b (t++iI (s.take i)) a∧Fr w o b f a))
 case atStart=>exact⟨0,by omega,rfl,rfl,⟨f,by show bV w b (t++iI []) f;simpa[iI]using aA n,Fr.refl _ _ _⟩⟩
 case round=>
  obtain⟨i,D,rfl,rfl,r,c⟩:=hrel;clear n;by_cases u:i<s.length
  .have v:decide ((i:Int)<(s.length:Int))=true:=by simp;omega
   have x:(i:Int)<(s.length:Int):=by omega
   obtain⟨y,j⟩:∃y,s[i]?=some y:=⟨s[i],by simp[u]⟩;have z:∀h,(ByteArray.mk s.toArray)[i]'h=y:=fun h=>(List.getElem?_eq_some_iff.1 j).2
   have k:=aB (Dp c.1 y (jI y) (by have A:=(uK (s.take i)).1;have:=(Qf y).1;rw[List.length_take]at A;rw[List.length_append];omega));rw[List.append_assoc,←aA d i y j]at k;clear j d;go_wp2_with fail
   refine(Dn y _).mono ?_;rintro e w1 ⟨rfl,rfl⟩;go_wp2_with fail
   refine(aA k).mono ?_;rintro e w2 ⟨rfl,B,p,g2⟩;have l:=aB (And.intro p (c.2.trans g2));clear p g2 k c;go_wp2
   go_roundg (s.length - (i+1))
   case measure=>omega
   case rel=>exact⟨i+1,by omega,rfl,by simp,B,aA l⟩
  have v:decide ((i:Int)<(s.length:Int))=false:=by simp;omega
  have m:i=s.length:=by omega
  have l:Hid (∃a,bV wr b (t++iI s) a∧Fr w wr b f a):=by
   have:=c;rw[m,List.take_length]at this;exact⟨r,this⟩
  clear c d;go_wp2
  go_end0
  exact⟨rfl,aA l⟩
theorem Nq(h:bV w b t f)(s:Bs)(C:t.length+6*s.length+10≤1000000000):
 Calls Tryz.prog 210 #[.pointer (some ⟨b,0,none⟩),.string ⟨s.toArray⟩] w fun e w' =>e=.returned (.tuple #[])∧∃a,bV w' b (t++iJ s) a∧Fr w w' b f a:=by
 have n:=aB h;have d:=aB (Nn s);clear h;go_enter func210,ntmps210
 go_wp2_with fail
 go_loopg [4] s.length (fun g q o=>∃i:Nat,i≤s.length∧g=s.length - i∧q=.int .i64 (i:Int)∧Hid (∃a,bV o b (t++iJ (s.take i)) a∧Fr w o b f a))
 case atStart=>exact⟨0,by omega,rfl,rfl,⟨f,by show bV w b (t++iJ []) f;simpa[iJ]using aA n,Fr.refl _ _ _⟩⟩
 case round=>
  obtain⟨i,D,rfl,rfl,r,c⟩:=hrel;clear n;by_cases u:i<s.length
  .have v:decide ((i:Int)<(s.length:Int))=true:=by simp;omega
   have x:(i:Int)<(s.length:Int):=by omega
   obtain⟨y,j⟩:∃y,s[i]?=some y:=⟨s[i],by simp[u]⟩;have z:∀h,(ByteArray.mk s.toArray)[i]'h=y:=fun h=>(List.getElem?_eq_some_iff.1 j).2
   have k:=aB (Dp c.1 y (kz y) (by have A:=(uK (s.take i)).2;have:=(Qf y).2;rw[List.length_take]at A;rw[List.length_append];omega));rw[List.append_assoc,←aA d i y j]at k;clear j d;go_wp2_with fail
   refine(Nk y _).mono ?_;rintro e w1 ⟨rfl,rfl⟩;go_wp2_with fail
   refine(aA k).mono ?_;rintro e w2 ⟨rfl,B,p,g2⟩;have l:=aB (And.intro p (c.2.trans g2));clear p g2 k c;go_wp2
   go_roundg (s.length - (i+1))
   case measure=>omega
   case rel=>exact⟨i+1,by omega,rfl,by simp,B,aA l⟩
  have v:decide ((i:Int)<(s.length:Int))=false:=by simp;omega
  have m:i=s.length:=by omega
  have l:Hid (∃a,bV wr b (t++iJ s) a∧Fr w wr b f a):=by
   have:=c;rw[m,List.take_length]at this;exact⟨r,this⟩
  clear c d;go_wp2
  go_end0
  exact⟨rfl,aA l⟩
theorem Dq(h:bV w b t f)(n v:Bs)(u:t.length+n.length+6*v.length+20≤1000000000):
 Calls Tryz.prog 170 #[.pointer (some ⟨b,0,none⟩),.string ⟨n.toArray⟩,.string ⟨v.toArray⟩] w fun e w' =>e=.returned (.tuple #[])∧∃g,bV w' b (t++gh n v) g∧Fr w w' b f g:=by
 have i:=aB (kX h (32::(n++[61,34])) (by simp;omega));clear h;go_enter func170,ntmps170
 go_wp2_with fail
 refine(aA i).mono ?_;rintro e w1 ⟨rfl,x,j,k⟩;have l:=aB (Nq j v (by simp;omega));have a:=aB k;clear j k i;go_wp2_with fail
 refine(aA l).mono ?_;rintro e w2 ⟨rfl,y,m,o⟩;have p:=aB (kX m [34] (by have:=(uK v).2;simp;omega));have c:=aB ((aA a).trans o);clear m o l a;go_wp2_with fail
 refine(aA p).mono ?_;rintro e w3 ⟨rfl,d,q,r⟩;have s:Hid (bV w3 b (t++gh n v) d∧Fr w w3 b f d):=by
  refine⟨?_,(aA c).trans r⟩;have e:t++32::(n++[61,34])++iJ v++[34]=t++gh n v:=by unfold gh;simp
  rw[←e];exact q
 clear q r p c;go_wp2
 go_end0
 exact⟨rfl,d,aA s⟩
theorem Nr(p:Bs)(b:p.length≤1000000000)(w:World):Calls Tryz.prog 169 #[.string ⟨p.toArray⟩] w fun e w' =>e=.returned (.string ⟨(iZ p).toArray⟩)∧w' =w:=by
 cases p with
 |nil=>
  have e0:(([]:Bs)==[])=true:=rfl;show Calls _ _ _ _ fun e w' =>e=.returned (.string ⟨#[120,109,108,110,115]⟩)∧w' =w
  go_enter func169,ntmps169
  go_wp2
  go_ret;exact⟨rfl,rfl⟩
 |cons y r=>
  have e0:((y::r)==([]:Bs))=false:=rfl;have a:iZ (y::r)=120::109::108::110::115::58::(y::r):=by unfold iZ;rw[if_neg (by simp)];rfl
  rw[a];generalize(y::r)=z at *;have c:¬9223372036854775807<6+z.length:=by omega
  clear a;go_enter func169,ntmps169
  go_wp2
  refine bodyPost_ret (results_tmp rfl _ _ _) rfl ⟨?_,rfl⟩;show Ending.returned (.string (_++_))=_;congr 2
structure Bq(w:World)(E b:Nat)(f:List Nat)(o:Obj):Prop where
 blk:w.heap[E]?=some o
 nb:E≠b
 nf:E∉f
theorem Bq.fr{w1:World}{E:Nat}{c:List Nat}{o:Obj}(h:Bq w E b f o)(d:Fr w w1 b f c):Bq w1 E b c o:=by
 have a:=(Array.getElem?_eq_some_iff.1 h.blk).1;refine⟨(d.block E a h.nb h.nf).trans h.blk,h.nb,fun e=>?_⟩;rcases d.aJ E e with q|q
 .exact h.nf q
 omega
theorem Bq.cell{w:World}{E b:Nat}{f:List Nat}{a:Array Value}{c:TypeId}(h:Bq w E b f (.cells a c (0,0)))(j:Nat):w.cell? ⟨E,j,none⟩=a[j]?:=by simp[World.cell?,h.blk]
theorem Dr(h:bV w b t f)(o:Obj):Bq (w.alloc o) w.heap.size b f o:=by
 have a:=oI h;exact⟨heap_alloc_new w o,by omega,fun c=>by have:=(a.2 _ c).2;omega⟩
def nA(n x:Bs):Bs:=[60,63]++n++(if x=[]then[]else 32::x)++[63,62]
theorem Ns(h:bV w b t f)(k:Int)(n s x:Bs)(v:Value)(J:t.length+n.length+x.length+20≤1000000000):
 Calls Tryz.prog 172 #[.pointer (some ⟨b,0,none⟩),.agg #[.int .i64 k,.string ⟨n.toArray⟩,.string ⟨s.toArray⟩,.string ⟨x.toArray⟩,v]] w fun r w' =>r=.returned (.tuple #[])∧∃C,bV w' b (t++nA n x) C∧Fr w w' b f C:=by
 obtain⟨D,i⟩:=Qe h (.cells #[.int .i64 k,.string ⟨n.toArray⟩,.string ⟨s.toArray⟩,.string ⟨x.toArray⟩,v] 65);have K:=(oI h).1;have E:=Dr h (.cells #[.int .i64 k,.string ⟨n.toArray⟩,.string ⟨s.toArray⟩,.string ⟨x.toArray⟩,v] 65);have q:=aB (kX D (60::63::n) (by simp;omega));have a:=aB (And.intro i E);clear D i h E;cases x with
 |nil=>
  have e0:(([]:Bs)==[])=true:=rfl;have L:(([]:Bs) !=[])=false:=rfl;go_enter func172,ntmps172
  go_wp2_with fail
  refine(aA q).mono ?_;rintro e w1 ⟨rfl,M,j,g⟩;have c:=(aA a).2.fr g;have N:=c.cell 3;have l:=aB (kX j [63,62] (by simp at J⊢;omega));have d:=aB ((aA a).1.trans g);clear j g c q a;go_wp2_with fail
  refine(aA l).mono ?_;rintro e w2 ⟨rfl,u,m,o⟩;have A:Hid (bV w2 b (t++nA n []) u∧Fr w w2 b f u):=⟨by have e:t++nA n []=t++(60::63::n)++[63,62]:=(by simp[nA]);rw[e];exact m,(aA d).trans o⟩;clear m o l d;go_wp2
  go_end0
  exact⟨rfl,u,aA A⟩
 |cons y x=>
  have e0:((y::x)==([]:Bs))=false:=rfl;have L:((y::x) !=([]:Bs))=true:=rfl;have F:nA n (y::x)=[60,63]++n++(32::(y::x))++[63,62]:=by unfold nA;rw[if_neg (by simp)]
  rw[F];clear F;generalize(y::x)=z at *;go_enter func172,ntmps172
  go_wp2_with fail
  refine(aA q).mono ?_;rintro e w1 ⟨rfl,M,j,g⟩;have c:=(aA a).2.fr g;have N:=c.cell 3;have l:=aB (kX j (32::z) (by simp;omega));have d:=aB ((aA a).1.trans g);clear j g c q a;go_wp2_with fail
  refine(aA l).mono ?_;rintro e w2 ⟨rfl,u,m,o⟩;have G:=aB (kX m [63,62] (by simp;omega));have p:=aB ((aA d).trans o);clear m o l d;go_wp2_with fail
  refine(aA G).mono ?_;rintro e w3 ⟨rfl,B,H,I⟩;have A:Hid (bV w3 b (t++([60,63]++n++32::z++[63,62])) B∧Fr w w3 b f B):=⟨by have e:t++([60,63]++n++32::z++[63,62])=t++(60::63::n)++(32::z)++[63,62]:=(by simp);rw[e];exact H,(aA p).trans I⟩;clear H I G p;go_wp2
  go_end0
  exact⟨rfl,B,aA A⟩
theorem Dt(h:bV w b t f)(e:Ev)(v:Value)(B:t.length+e.name.length+6*e.val.length+30≤1000000000):
 Calls Tryz.prog 118 #[.pointer (some ⟨b,0,none⟩),.agg #[.int .i64 e.kind,.string ⟨e.name.toArray⟩,.string ⟨e.space.toArray⟩,.string ⟨e.val.toArray⟩,v]] w fun r w' =>r=.returned (.tuple #[])∧∃z,bV w' b (t++iK e) z∧Fr w w' b f z:=by
 obtain⟨k,n,s,x,d⟩:=e;dsimp only at B⊢;obtain⟨A,o⟩:=Qe h (.cells #[.int .i64 k,.string ⟨n.toArray⟩,.string ⟨s.toArray⟩,.string ⟨x.toArray⟩,v] 65);have C:=(oI h).1;have a:=aB o;have HA:=aB A;clear A o h;by_cases p:k=2
 .subst p;have D:((2:Int)==2)=true:=rfl;have g:=aB (kX (aA HA) (60::47::(n++[62])) (by simp;omega));have c:iK ⟨2,n,s,x,d⟩=60::47::(n++[62]):=by unfold iK;simp
  rw[c];clear c HA;go_enter func118,ntmps118
  go_wp2_with fail
  refine(aA g).mono ?_;rintro e w1 ⟨rfl,l,i,j⟩;have m:=aB (And.intro i ((aA a).trans j));clear i j g a;go_wp2
  go_end0
  exact⟨rfl,l,aA m⟩
 by_cases q:k=3
 .subst q;have g:=aB (Np (aA HA) x (by omega));have c:iK ⟨3,n,s,x,d⟩=iI x:=by unfold iK;simp
  rw[c];clear c HA;go_enter func118,ntmps118
  go_wp2_with fail
  refine(aA g).mono ?_;rintro e w1 ⟨rfl,l,i,j⟩;have m:=aB (And.intro i ((aA a).trans j));clear i j g a;go_wp2
  go_end0
  exact⟨rfl,l,aA m⟩
 by_cases u:k=4
 .subst u;have g:=aB (kX (aA HA) (60::33::45::45::(x++[45,45,62])) (by simp;omega));have c:iK ⟨4,n,s,x,d⟩=60::33::45::45::(x++[45,45,62]):=by unfold iK;simp
  rw[c];clear c HA;go_enter func118,ntmps118
  go_wp2_with fail
  refine(aA g).mono ?_;rintro e w1 ⟨rfl,l,i,j⟩;have m:=aB (And.intro i ((aA a).trans j));clear i j g a;go_wp2
  go_end0
  exact⟨rfl,l,aA m⟩
 by_cases y:k=5
 .subst y;have g:=aB (Ns (aA HA) 5 n s x v (by omega));have c:iK ⟨5,n,s,x,d⟩=nA n x:=by unfold iK nA;simp
  rw[c];clear c HA;go_enter func118,ntmps118
  go_wp2_with fail
  refine(aA g).mono ?_;rintro e w1 ⟨rfl,l,i,j⟩;have m:=aB (And.intro i ((aA a).trans j));clear i j g a;go_wp2
  go_end0
  exact⟨rfl,l,aA m⟩
 have E:(k==2)=false:=by simpa using p
 have F:(k==3)=false:=by simpa using q
 have G:(k==4)=false:=by simpa using u
 have H:(k==5)=false:=by simpa using y
 have c:iK ⟨k,n,s,x,d⟩=[]:=by unfold iK;simp[p,q,u,y]
 rw[c];clear c;go_enter func118,ntmps118
 go_wp2
 go_end0
 exact⟨rfl,f,by rw[List.append_nil];exact aA HA,aA a⟩
def rH(w:World)(aa:Option Addr)(l:List aD):Prop:=
 ∀k (hk:k<l.length),∃g,aa=some ⟨g,0,none⟩∧g<w.heap.size∧w.cell? ⟨g,k*3,none⟩=some (.string ⟨l[k].name.toArray⟩)∧w.cell? ⟨g,k*3+2,none⟩=some (.string ⟨l[k].val.toArray⟩)
theorem rH.of{l:List aD}{a:Option Addr}{c:Nat}(h:w.ownsRow 0 69 3 (.slice a l.length c) l.length (aV l)):rH w a l:=fun k d=>by
 obtain⟨g,e,f,b⟩:=mI (m:=3) (l:=l) bZ (fun _=>rfl) (by decide) h k d;exact⟨g,e,f,b 0 (by decide),b 2 (by decide)⟩
def Du(w:World)(ba:Option Addr)(l:List Ev):Prop:=
 ∀k (hk:k<l.length),∃g o,ba=some ⟨g,o,none⟩∧g<w.heap.size∧w.cell? ⟨g,o+k*5+1,none⟩=some (.string ⟨l[k].name.toArray⟩)∧w.cell? ⟨g,o+k*5+3,none⟩=some (.string ⟨l[k].val.toArray⟩)
theorem Dv{a:Type}(f:a→Bs)(l:List a)(i:Nat)(b:i<l.length):(l.take (i+1)).flatMap f=(l.take i).flatMap f++f l[i]:=by
 rw[List.take_add_one,List.flatMap_append];simp[List.getElem?_eq_getElem b]
theorem Qg{a:Type}(f:a→Bs)(l:List a)(i:Nat):((l.take i).flatMap f).length≤(l.flatMap f).length:=by
 conv=>rhs;rw[←List.take_append_drop i l,List.flatMap_append,List.length_append]
 omega
def jJ(l:List Ev):Bs:=l.flatMap fun x=>gh (iZ x.name) x.val
def jY(l:List aD):Bs:=l.flatMap fun x=>gh x.name x.val
theorem Nt(p:Bs):(iZ p).length≤p.length+6:=by
 unfold iZ;split
 .simp[jm]
 simp[jm]
theorem Nu{w0:World}(h:bV w w0.heap.size t f)(hW:Below w0.heap.size w0 w)(e:Ev)(A ba:Option Addr)(B bc:Nat)(b:List Ev)(hA:rH w0 A e.aC)(hB:Du w0 ba b)
 (hn:e.name.length≤7000000) (C:∀y∈e.aC,y.name.length≤7000000∧y.val.length≤7000000) (J:∀y∈b,y.name.length≤7000000∧y.val.length≤7000000) (a0:e.aC.length≤7000000) (a7:b.length≤20000000)
 (hl:t.length+(jX e b).length≤900000000):
 Calls Tryz.prog 117 #[.pointer (some ⟨w0.heap.size,0,none⟩),.agg #[.int .i64 e.kind,.string ⟨e.name.toArray⟩,.string ⟨e.space.toArray⟩,.string ⟨e.val.toArray⟩,.slice A e.aC.length B],.slice ba b.length bc] w fun r w' =>r=.returned (.tuple #[])∧∃p,bV w' w0.heap.size (t++jX e b) p∧Fr w w' w0.heap.size f p:=by
 obtain⟨k,n,s,x,a⟩:=e;dsimp only at hA hn C a0 hl⊢;have hE:jX ⟨k,n,s,x,a⟩ b=60::n++jJ b++jY a++[62]:=rfl;rw[hE]at hl⊢;simp only[List.length_append,List.length_cons,List.length_nil]at hl;clear hE;obtain⟨K,L⟩:=Qe h (.cells #[.int .i64 k,.string ⟨n.toArray⟩,.string ⟨s.toArray⟩,.string ⟨x.toArray⟩,.slice A a.length B] 65);have a8:=(oI h).1;have hk:=Dr h (.cells #[.int .i64 k,.string ⟨n.toArray⟩,.string ⟨s.toArray⟩,.string ⟨x.toArray⟩,.slice A a.length B] 65);have H1:=aB (kX K (60::n) (by simp;omega));have HK:=aB (And.intro L hk);have M:=aB hW;have a1:=aB hA;have N:=aB hB;have a2:=aB C;have D:=aB J;have O:Hid (∀w' p,Fr w w' w0.heap.size f p→Below w0.heap.size w0 w'):=fun w' p P=>(aA M).trans ⟨P.os,P.tape,P.output,P.size,fun k hk=>P.block k (by omega) (by omega) fun hm=>by have:=((oI h).2 k hm).1;omega⟩
 clear K L hk hW hA hB C J h M;go_enter func117,ntmps117
 go_wp2_with fail
 refine(aA H1).mono ?_;rintro e w1 ⟨rfl,Q,h1,b1⟩;have HP:Hid (bV w1 w0.heap.size (t++(60::n)++jJ (b.take 0)) Q∧Fr w w1 w0.heap.size f Q∧Bq w1 w.heap.size w0.heap.size Q (.cells #[.int .i64 k,.string ⟨n.toArray⟩,.string ⟨s.toArray⟩,.string ⟨x.toArray⟩,.slice A a.length B] 65 (0,0))):=⟨by show bV w1 w0.heap.size (t++(60::n)++[]) Q;rw[List.append_nil];exact h1,(aA HK).1.trans b1,(aA HK).2.fr b1⟩;clear h1 b1 H1 HK;go_wp2_with fail
 go_loopg [6] b.length (fun g s6 E=>∃(i:Nat) (p:List Nat),i≤b.length∧g=b.length - i∧s6=.int .i64 (i:Int)∧Hid (bV E w0.heap.size (t++(60::n)++jJ (b.take i)) p∧Fr w E w0.heap.size f p∧Bq E w.heap.size w0.heap.size p (.cells #[.int .i64 k,.string ⟨n.toArray⟩,.string ⟨s.toArray⟩,.string ⟨x.toArray⟩,.slice A a.length B] 65 (0,0))))
 case atStart=>exact⟨0,Q,by omega,rfl,rfl,aA HP⟩
 case round=>
  obtain⟨i,R,hi,rfl,rfl,l⟩:=hrel;clear HP;by_cases X:i<b.length
  .have e1:decide ((i:Int)<(b.length:Int))=true:=by simp;omega
   have a9:(i:Int)<(b.length:Int):=by omega
   obtain⟨g,o,a3,F,c1,c3⟩:=aA N i X;subst a3;have c:=aA O _ _ (aA l).2.1;have u:∀j,wr.cell? ⟨g,j,none⟩=w0.cell? ⟨g,j,none⟩:=fun j=>by simp only[World.cell?];rw[c.block _ F]
   have S:g<wr.heap.size:=by have:=c.size;omega
   rw[←u]at c1 c3;have HD:=aB (Nr b[i].name (by have:=(aA D b[i] (List.getElem_mem X)).1;omega));have d:=Dv (fun x:Ev=>gh (iZ x.name) x.val) b i X;have m:=Qg (fun x:Ev=>gh (iZ x.name) x.val) b i
   have G:=aB (Dq (aA l).1 (iZ b[i].name) b[i].val (by
    have q:=aA D b[i] (List.getElem_mem X)
    have q1:=Nt b[i].name
    have m:(jJ (b.take i)).length≤(jJ b).length:=m
    rw[List.length_append,List.length_append,List.length_cons]
    omega))
   have d:jJ (b.take (i+1))=jJ (b.take i)++gh (iZ b[i].name) b[i].val:=d;rw[List.append_assoc,←d]at G;clear d m u c;generalize b[i]=y at *;go_wp2_with fail
   refine(aA HD _).mono ?_;rintro e w2 ⟨rfl,rfl⟩;go_wp2_with fail
   refine(aA G).mono ?_;rintro e w3 ⟨rfl,Y,v,z⟩;have HN:=aB (And.intro v (And.intro ((aA l).2.1.trans z) ((aA l).2.2.fr z)));clear v z G l HD c1 c3;go_wp2
   go_roundg (b.length - (i+1))
   case measure=>omega
   case rel=>exact⟨i+1,Y,by omega,rfl,by simp,aA HN⟩
  have e1:decide ((i:Int)<(b.length:Int))=false:=by simp;omega
  have a4:i=b.length:=by omega
  subst a4;have H:Hid (bV wr w0.heap.size (t++(60::n)++jJ b++jY (a.take 0)) R∧Fr w wr w0.heap.size f R∧Bq wr w.heap.size w0.heap.size R (.cells #[.int .i64 k,.string ⟨n.toArray⟩,.string ⟨s.toArray⟩,.string ⟨x.toArray⟩,.slice A a.length B] 65 (0,0))):=by
   have q:=aA l;rw[List.take_length]at q;exact⟨by show bV wr w0.heap.size (t++(60::n)++jJ b++[]) R;rw[List.append_nil];exact q.1,q.2⟩
  have Z:=(aA H).2.2.cell 4;clear l N D;go_wp2_with fail
  go_loopg [8] a.length (fun g s8 E=>∃(j:Nat) (p:List Nat),j≤a.length∧g=a.length - j∧s8=.int .i64 (j:Int)∧Hid (bV E w0.heap.size (t++(60::n)++jJ b++jY (a.take j)) p∧Fr w E w0.heap.size f p∧Bq E w.heap.size w0.heap.size p (.cells #[.int .i64 k,.string ⟨n.toArray⟩,.string ⟨s.toArray⟩,.string ⟨x.toArray⟩,.slice A a.length B] 65 (0,0))))
  case atStart=>exact⟨0,R,by omega,rfl,rfl,aA H⟩
  case round=>
   obtain⟨j,Y,hj,rfl,rfl,l⟩:=hrel;clear H Z;have Z:=(aA l).2.2.cell 4;have ab:w.heap.size<wr.heap.size:=(Array.getElem?_eq_some_iff.1 (aA l).2.2.blk).1;by_cases h4:j<a.length
   .have e2:decide ((j:Int)<(a.length:Int))=true:=by simp;omega
    have ad:(j:Int)<(a.length:Int):=by omega
    obtain⟨g,a5,F,c0,c2⟩:=aA a1 j h4;subst a5;have c:=aA O _ _ (aA l).2.1;have u:∀q,wr.cell? ⟨g,q,none⟩=w0.cell? ⟨g,q,none⟩:=fun q=>by simp only[World.cell?];rw[c.block _ F]
    have S:g<wr.heap.size:=by have:=c.size;omega
    rw[←u]at c0 c2;have d:=Dv (fun x:aD=>gh x.name x.val) a j h4;have m:=Qg (fun x:aD=>gh x.name x.val) a j;have T:bV wr.drew w0.heap.size (t++(60::n)++jJ b++jY (a.take j)) Y:=uJ (aA l).1 ⟨rfl,rfl,rfl,Nat.le_refl _,fun _ _=>rfl⟩
    have G:=aB (Dq T a[j].name a[j].val (by
     have q:=aA a2 a[j] (List.getElem_mem h4)
     have m:(jY (a.take j)).length≤(jY a).length:=m
     rw[List.length_append,List.length_append,List.length_append,List.length_cons]
     omega))
    have d:jY (a.take (j+1))=jY (a.take j)++gh a[j].name a[j].val:=d;rw[List.append_assoc,←d]at G;clear d m u c;generalize a[j]=y at *;clear T;go_wp2_with fail
    go_region_with (go_at_call 170;refine(aA G).mono ?_;rintro e w3 ⟨rfl,f4,v,z⟩;have I:Fr wr w3 w0.heap.size Y f4:=⟨z.os,z.tape,z.output,z.size,z.block,z.aJ⟩;have HN:=aB (And.intro v (And.intro ((aA l).2.1.trans I) ((aA l).2.2.fr I)));clear v z I G l c0 c2 Z)
    all_goals
     go_wp2
     go_roundg (a.length - (j+1))
     case measure=>omega
     case rel=>exact⟨j+1,f4,by omega,rfl,by simp,aA HN⟩
   have e2:decide ((j:Int)<(a.length:Int))=false:=by simp;omega
   have a6:j=a.length:=by omega
   have H5:=aB (kX (aA l).1 [62] (by
    have m:(jY (a.take j)).length≤(jY a).length:=Qg (fun x:aD=>gh x.name x.val) a j
    simp only[List.length_append,List.length_cons,List.length_nil]
    omega))
   go_wp2_with fail
   refine(aA H5).mono ?_;rintro e w4 ⟨rfl,f5,h5,b5⟩;have HF:Hid (bV w4 w0.heap.size (t++(60::n++jJ b++jY a++[62])) f5∧Fr w w4 w0.heap.size f f5):=by
    refine⟨?_,(aA l).2.1.trans b5⟩;rw[a6,List.take_length]at h5;have e:t++(60::n++jJ b++jY a++[62])=t++(60::n)++jJ b++jY a++[62]:=by simp
    rw[e];exact h5
   clear h5 b5 H5 l Z;go_wp2
   go_end0
   exact⟨rfl,f5,aA HF⟩
structure rI where
 pa:Option Addr
 pc:Nat
 va:Option Addr
 vc:Nat
 ma:Option Addr
 mc:Nat
end Go.Proofs.YtmgfijllcdadgaaGreatDoor
