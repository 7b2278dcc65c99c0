import Derived.Test.YtmgfijllcdadgaaGreatDoorNW41
import Derived.Test.YtmgfijllcdadgaaGreatDoorNW05
import Derived.Test.YtmgfijllcdadgaaGreatDoorNW13
import Derived.Deep.DeepCutAuto
import Derived.Test.YtmgfijllcdadgaaGreatDoorNW40
import Derived.Test.YtmgfijllcdadgaaGreatDoorNW32
import Derived.Test.YtmgfijllcdadgaaGreatDoorNW35
set_option linter.unusedVariables false
set_option linter.unusedSimpArgs false
set_option maxHeartbeats 2000000
set_option maxRecDepth 100000
namespace Go.Proofs.YtmgfijllcdadgaaGreatDoor
open Go.RowKit
open Mk (St Bs Ev aD)
open Go.Proofs.Tryz
variable {fp:List Nat}
theorem mQ.cap{w:World}{a:Option Addr}{c:Nat}{l:List Ev}{fp:List Nat}(d:mQ w (.slice a l.length c) l fp):l.length≤c:=by
 obtain⟨h,i,e,j,_,_⟩:=d.ex;rcases e.2 with⟨b,k⟩|⟨g,cap,f,b,_,_,m,_⟩
 .omega
 injection b with _ _ n;omega
theorem mQ.xZ{w:World}{v:Value}{l:List Ev}(y:mQ w v l fp)(k:Nat)(C:k<l.length):
 ∃g c b e,v=.slice (some ⟨g,0,none⟩) l.length c∧g<w.heap.size∧w.cell? ⟨g,k*5,none⟩=some (.int .i64 l[k].kind)∧w.cell? ⟨g,k*5+1,none⟩=some (.string ⟨l[k].name.toArray⟩)∧w.cell? ⟨g,k*5+2,none⟩=some (.string ⟨l[k].space.toArray⟩)∧w.cell? ⟨g,k*5+3,none⟩=some (.string ⟨l[k].val.toArray⟩)∧w.cell? ⟨g,k*5+4,none⟩=some (.slice b l[k].aC.length e)∧rH w b l[k].aC∧(aN (l[k],.slice b l[k].aC.length e)).owned w 0:=by
 obtain⟨a,j,z,A,_,_⟩:=y.ex;have B:a.length=l.length:=by rw[←j];simp
 have m:k<a.length:=by omega
 obtain⟨g,d,f1,h,q⟩:=Io (l:=a) (fun p=>bP p.1 p.2) (fun _=>rfl) (by decide) z B.symm k m;have n:a[k].1=l[k]:=by simp only[←j,List.getElem_map]
 have o:=A _ (List.getElem_mem m);obtain⟨b,e,f⟩:=slice_form o;have i:w.ownsRow 0 69 3 a[k].2 a[k].1.aC.length (aV a[k].1.aC):=o;have f:a[k].2=.slice b a[k].1.aC.length e:=f;rw[f,n]at i;have r:=q 0 (by decide);have s:=q 1 (by decide);have t:=q 2 (by decide);have u:=q 3 (by decide);have x:=q 4 (by decide);rw[f,n]at r s t u x;exact⟨g,d,b,e,f1,h,r,s,t,u,x,rH.of i,i⟩
theorem Nv(a:List Ev)(e:Ev)(r:List Ev):jk a (e::r)=if e.kind=6 then jk (a++[e]) r else if e.kind=1 then jX e a++jk [] r else iK e++jk [] r:=rfl
structure rJ(l:List Ev):Prop where
 n:l.length≤20000000
 e:∀x∈l,x.name.length≤7000000∧x.val.length≤100000000∧(x.kind=6→x.val.length≤7000000)∧x.aC.length≤7000000∧∀y∈x.aC,y.name.length≤7000000∧y.val.length≤7000000
theorem Nw{w:World}{v:Value}{l:List Ev}(hg:mQ w v l fp)(hs:rJ l)(hl:(fo l).length≤300000000):
 Calls Tryz.prog 86 #[v] w fun e w' =>∃a c,e=.returned (.slice a (fo l).length c)∧w'.ownsRow (w.heap.size+1) 5 1 (.slice a (fo l).length c) (fo l).length ((fo l).map bv)∧Below w.heap.size w w' :=by
 obtain⟨va,vc,hv⟩:=hg.slice;subst hv;have a9:=hs.n;have a5:=hg.cap;have HG:=aB hg;have HS:=aB hs;have HL:Hid ((fo l).length≤300000000):=hl;have H0:Hid (bV (w.alloc (.cells #[.slice none 0 0] 150)) w.heap.size [] []∧Below w.heap.size w (w.alloc (.cells #[.slice none 0 0] 150))):=⟨⟨none,0,⟨heap_alloc_new w _,World.ownsRow_nil _ _ _ _⟩,rfl⟩,(Below.refl _ _).alloc (Nat.le_refl _) _⟩;clear hg hs hl;go_enter func86,ntmps86
 go_wp2_with fail
 go_loopg [4,5] l.length (fun g s4 s5 wx=>∃(i b:Nat) (T:Bs) (f:List Nat),i≤l.length∧b≤i∧g=l.length - i∧s4=.int .i64 (b:Int)∧s5=.int .i64 (i:Int)∧Hid (bV wx w.heap.size T f∧Below w.heap.size w wx)∧Hid ((fo l=T++jk ((l.take i).drop b) (l.drop i))∧∀y∈(l.take i).drop b,y.kind=6))
 case atStart=>exact⟨0,0,[],[],by omega,by omega,rfl,rfl,rfl,aA H0,⟨by show fo l=[]++jk [] l;rfl,fun y u=>by cases u⟩⟩
 case round=>
  obtain⟨i,b,T,f,hi,ab,rfl,rfl,rfl,r,M⟩:=hrel;clear H0;by_cases h3:i<l.length
  .have e1:decide ((i:Int)<(l.length:Int))=true:=by simp;omega
   have ad:(i:Int)<(l.length:Int):=by omega
   obtain⟨g,c,aa,ac,N,R,c0,c1,c2,c3,c4,m,hev⟩:=(aA HG).xZ i h3;injection N with N _ a2;subst N a2;have o:=(aA r).2;have H:∀j,wr.cell? ⟨g,j,none⟩=w.cell? ⟨g,j,none⟩:=fun j=>by simp only[World.cell?];rw[o.block _ R]
   have a6:g<wr.heap.size:=by have:=o.size;omega
   rw[←H]at c0 c1 c2 c3 c4;have s:=(aA M).1;have p:=(aA M).2;rw[List.drop_eq_getElem_cons h3,Nv]at s;have B:(l.take (i+1)).drop b=(l.take i).drop b++[l[i]]:=by
    rw[List.take_add_one,List.getElem?_eq_getElem h3];rw[List.drop_append_of_le_length (by rw[List.length_take];omega)];rfl
   have d:=aA HS |>.e l[i] (List.getElem_mem h3);have I:∀y∈(l.take i).drop b,y∈l:=fun y u=>List.mem_of_mem_take (List.mem_of_mem_drop u)
   by_cases z:l[i].kind=6
   .have t6:(l[i].kind==6)=true:=by simpa using z
    rw[if_pos z,←B]at s;have K:∀y∈(l.take (i+1)).drop b,y.kind=6:=fun y u=>by
     rw[B]at u;rcases List.mem_append.1 u with q|q
     .exact p y q
     rw[List.mem_singleton.1 q];exact z
    have C:=aB (And.intro s K);clear s B M H o m hev d I K p;generalize l[i]=x at *;go_wp2
    go_roundg (l.length - (i+1))
    case measure=>omega
    case rel=>exact⟨i+1,b,T,f,by omega,by omega,rfl,rfl,by simp,aA r,aA C⟩
   have t6:(l[i].kind==6)=false:=by simpa using z
   by_cases t:l[i].kind=1
   .have t1:(l[i].kind==1)=true:=by simpa using t
    rw[if_neg z,if_pos t,←List.append_assoc]at s;have h:((l.take i).drop b).length=i - b:=by rw[List.length_drop,List.length_take];omega
    have k1:(b:Int)≤(i:Int):=by omega
    have k2:(i:Int)≤(vc:Int):=by omega
    have k3:¬(vc:Int)<(i:Int):=by omega
    have k4:¬(i:Int)<(b:Int):=by omega
    have k5:¬(b:Int)<0:=by omega
    have k6:¬vc=b:=by omega
    have hB:Du w (some ⟨g,b*5,none⟩) ((l.take i).drop b):=fun k hk=>by
     rw[h]at hk;obtain⟨g', c', ae,af,D,a7,_,d1,_,d3,_⟩:=(aA HG).xZ (b+k) (by omega);injection D with D _ _;cases D;have eg:((l.take i).drop b)[k]'(by rw[h];exact hk)=l[b+k]'(by omega):=by simp
     refine⟨g,b*5,rfl,R,?_,?_⟩
     .rw[eg,←d1,show b*5+k*5+1=(b+k)*5+1 by omega]
     rw[eg,←d3,show b*5+k*5+3=(b+k)*5+3 by omega]
    have E:bV wr.drew w.heap.size T f:=uJ (aA r).1 ⟨rfl,rfl,rfl,Nat.le_refl _,fun _ _=>rfl⟩;have S:Below w.heap.size w wr.drew:=(aA r).2.trans ⟨rfl,rfl,rfl,Nat.le_refl _,fun _ _=>rfl⟩;have O:T.length+(jX l[i] ((l.take i).drop b)).length≤300000000:=by
     have:=aA HL;rw[s]at this;simp only[List.length_append]at this;omega
    have a3:=aB (And.intro m (And.intro d.1 (And.intro d.2.2.2.2 d.2.2.2.1)));have L:∀y∈(l.take i).drop b,y.name.length≤7000000∧y.val.length≤7000000:=fun y u=>by
     have q:=(aA HS).e y (I y u);exact⟨q.1,q.2.2.1 (p y u)⟩
    have Q:=aB (Nu E S ⟨1,l[i].name,l[i].space,l[i].val,l[i].aC⟩ aa (some ⟨g,b*5,none⟩) ac (vc - b) ((l.take i).drop b) m hB d.1 d.2.2.2.2 L d.2.2.2.1 (by rw[h];omega) (by show T.length+(jX l[i] ((l.take i).drop b)).length≤900000000;omega));rw[h]at Q;have P:(l.take (i+1)).drop (i+1)=[]:=List.drop_eq_nil_of_le (by rw[List.length_take];omega);have C:Hid ((fo l=(T++jX l[i] ((l.take i).drop b))++jk ((l.take (i+1)).drop (i+1)) (l.drop (i+1)))∧∀y∈(l.take (i+1)).drop (i+1),y.kind=6):=by
     refine⟨?_,?_⟩
     .rw[P];exact s
     rw[P];intro y u;cases u
    have ew:jX ⟨1,l[i].name,l[i].space,l[i].val,l[i].aC⟩ ((l.take i).drop b)=jX l[i] ((l.take i).drop b):=rfl;rw[ew]at Q;clear P p ew s B M H o m hev d I hB E S O a3 L h;generalize jX l[i] ((l.take i).drop b)=X at *;generalize l[i]=x at *;go_wp2_with fail
    go_region_with (go_at_call 117;refine(aA Q).mono ?_;rintro e w3 ⟨rfl,f4,F,A⟩;have G:Below w.heap.size w w3:=(aA r).2.trans ⟨A.os,A.tape,A.output,A.size,(fun k hk=>A.block k (by have:=(aA r).2.size;show k<wr.heap.size;omega) (by omega) (fun hm=>by have:=((oI (aA r).1).2 k hm).1;omega))⟩;have HN:=aB (And.intro F G);clear F A G Q r c0 c1 c2 c3 c4)
    all_goals
     go_wp2
     go_roundg (l.length - (i+1))
     case measure=>omega
     case rel=>exact⟨i+1,i+1,T++X,f4,by omega,by omega,rfl,by simp,by simp,aA HN,aA C⟩
   have t1:(l[i].kind==1)=false:=by simpa using t
   rw[if_neg z,if_neg t,←List.append_assoc]at s;have E:bV wr.drew w.heap.size T f:=uJ (aA r).1 ⟨rfl,rfl,rfl,Nat.le_refl _,fun _ _=>rfl⟩;have O:T.length≤300000000:=by
    have:=aA HL;rw[s]at this;simp only[List.length_append]at this;omega
   have Q:=aB (Dt E l[i] (.slice aa l[i].aC.length ac) (by have:=d.1;have:=d.2.1;omega));have HW0:=aB (Dt (aA r).1 l[i] (.slice aa l[i].aC.length ac) (by have:=d.1;have:=d.2.1;omega));have P:(l.take (i+1)).drop (i+1)=[]:=List.drop_eq_nil_of_le (by rw[List.length_take];omega);have C:Hid ((fo l=(T++iK l[i])++jk ((l.take (i+1)).drop (i+1)) (l.drop (i+1)))∧∀y∈(l.take (i+1)).drop (i+1),y.kind=6):=by
    refine⟨?_,?_⟩
    .rw[P];exact s
    rw[P];intro y u;cases u
   clear P p s B M H o m hev d I E O Q;generalize iK l[i]=X at *;generalize l[i]=x at *;go_wp2_with fail
   refine(aA HW0).mono ?_;rintro e w3 ⟨rfl,f4,F,A⟩;have G:Below w.heap.size w w3:=(aA r).2.trans ⟨A.os,A.tape,A.output,A.size,(fun k hk=>A.block k (by have:=(aA r).2.size;omega) (by omega) (fun hm=>by have:=((oI (aA r).1).2 k hm).1;omega))⟩;have HN:=aB (And.intro F G);clear F A G HW0 r c0 c1 c2 c3 c4;go_wp2
   go_roundg (l.length - (i+1))
   case measure=>omega
   case rel=>exact⟨i+1,i+1,T++X,f4,by omega,by omega,rfl,by simp,by simp,aA HN,aA C⟩
  have e1:decide ((i:Int)<(l.length:Int))=false:=by simp;omega
  have Y:i=l.length:=by omega
  have s:fo l=T:=by
   have Z:=(aA M).1;rw[Y,List.drop_length]at Z;rw[Z];show T++[]=T;simp
  have a0:=aA r;rw[←s]at a0;obtain⟨⟨a,c,J,hf⟩,a1⟩:=a0;have a4:=J.cell;have a8:=J.lt;have HF:=aB (And.intro J.row a1);clear s Y M r J a1;go_wp2
  go_ret;exact⟨a,c,rfl,aA HF⟩
end Go.Proofs.YtmgfijllcdadgaaGreatDoor
namespace Go.Proofs.YtmgfijllcdadgaaGreatDoor.U
open Go.RowKit
open Mk (Bs Ev aD)
open V
open Go.Proofs.Tryz
open Mk (bC)
variable {w w' :World}{fp:List Nat}
theorem rK{v:Value}{l:List Ev}(h:iR w v l fp):bN 0 w.heap.size w v l:=by
 obtain⟨e,c,b,f⟩:=h.ex;subst c;have a:=b.head;unfold Row.owned at a;simp only[List.length_map]at a;exact bN.of a fun p d=>cJ.of (b.own _ (List.mem_cons_of_mem _ (List.mem_map_of_mem d)))
theorem Fr.Dw{W:World}{b:Nat}{f d:List Nat}(h:Fr w w' b f d)(a:Below W.heap.size W w)(i:W.heap.size≤b)(e:∀k∈f,W.heap.size≤k):Below W.heap.size W w' :=
 ⟨h.os.trans a.os,h.tape.trans a.tape,h.output.trans a.output,Nat.le_trans a.size h.size,fun k c=>(h.block k (Nat.lt_of_lt_of_le c a.size) (by omega) fun g=>by have:=e k g;omega).trans (a.block k c)⟩
def gv(d a t:Int)(nm:Bool)(D:Bs)(l:List Ev):Bool:=
 decide ((Mk.feed (bC d a t nm) D).2.2=0)&&(decide ((Mk.close (Mk.feed (bC d a t nm) D).1).2=0)&&Rf.same (Mk.feed (bC d a t nm) D).2.1 l)
def wr(d a t:Int)(nm:Bool)(l:List Ev):Bs×Int:=if Rf.allowed d a t then(if gv d a t nm (fo l) l then(fo l,0)else([],11))else([],1)
section
variable {W w:World}{b:Nat}{d a t:Int}{nm:Bool}{D:Bs}{l:List Ev}{v:Value}{ad:Option Addr}{c lo hi:Nat}
theorem Ny(h:aK w b (bC d a t nm) (L0 b))(a2:a≤32)(hD:D.length≤7000000)(hG:Gl w)(T:2+1<b)
 (hp:∀j (hj:j<D.length),∃g,ad=some ⟨g,0,none⟩∧g<w.heap.size∧g≠b∧g∉aJ (bC d a t nm) (L0 b)∧w.cell? ⟨g,j,none⟩=some (.int .u8 (D[j].toNat:Int))) (X:bN lo hi W v l) (hW:Below W.heap.size W w) (a1:W.heap.size<b):
 Calls Tryz.prog 87 #[.pointer (some ⟨b,0,none⟩),.slice ad D.length c,v] w fun e w' =>e=.returned (.bool (gv d a t nm D l))∧Below W.heap.size W w' ∧∀k,k<w.heap.size→k≠b→k≠b - 1→w'.heap[k]?=w.heap[k]?:=by
 have R:=aB (Ai h (Aj d a t nm a2) D (by omega) hG T (Int.le_refl 0) (by show(0:Int)≤1000000000;decide) ad c hp);have I:∀k∈aJ (bC d a t nm) (L0 b),W.heap.size≤k:=fun k G=>by rw[qE]at G;have:=List.mem_singleton.1 G;omega
 have J:∀k,k≠b - 1→k∉aJ (bC d a t nm) (L0 b):=fun k G hm=>by rw[qE]at hm;exact G (List.mem_singleton.1 hm)
 obtain⟨y,f⟩:∃x,x=gv d a t nm D l:=⟨_,rfl⟩;rw[←f];unfold gv at f;have s:=aB (And.intro X (And.intro hW (And.intro I J)));obtain⟨va,vc,hv,-⟩:=X.form;subst hv;clear h hG hp X hW I J;generalize aJ (bC d a t nm) (L0 b)=F at *;generalize(Mk.feed (bC d a t nm) D).1=Y at *;generalize(Mk.feed (bC d a t nm) D).2.1=l1 at *;generalize(Mk.feed (bC d a t nm) D).2.2=en at *;by_cases S:en=0
 .subst S;have e0:((0:Int) !=0)=false:=rfl;rw[show decide ((0:Int)=0)=true from rfl,Bool.true_and]at f;go_enter func87,ntmps87
  go_wp2_with fail
  refine(aA R).mono ?_;rintro e w1 ⟨v1,Z,L1,rfl,o,⟨sa,sn,sc,z⟩,i,p⟩;have HC:=aB (Ae i.rd);subst z;have n:=aB i;have A:=aB (And.intro o p);clear i o p R;go_wp2_with fail
  refine(aA HC).mono ?_;rintro e w2 ⟨rfl,L2,B⟩;have r:=(aA n).fr.trans B.fr;have C:=Fr.Dw r (aA s).2.1 (by omega) (aA s).2.2.1;have u:∀k,k<w.heap.size→k≠b→k≠b - 1→w2.heap[k]?=w.heap[k]?:=fun k K L M=>r.block k K L ((aA s).2.2.2 k M)
  have N:=(aA s).1.below C
  have O:=rK ((aA A).1.keep fun k G=>by
   have q:=(aA A).2 k G
   exact B.fr.block k q.2.1 q.1.2 q.2.2.1)
  have HS:=aB (Na O N);have m:=aB (And.intro C (And.intro u r.size));clear B HC n A r C u N O s;by_cases H:(Mk.close Y).2=0
  .have e1:((Mk.close Y).2==0)=true:=by simpa using H
   have a0:=aB (show y=Rf.same l1 l by rw[f];simp[H]);clear f H;go_wp2_with fail
   refine(aA HS).mono ?_;rintro e w3 ⟨rfl,P⟩;have Q:=aB P;rw[←aA a0];clear P HS;go_wp2
   go_ret;exact⟨rfl,(aA m).1.trans ((aA Q).mono (aA m).1.size),fun k K L M=>((aA Q).block k (by have:=(aA m).2.2;omega)).trans ((aA m).2.1 k K L M)⟩
  have e1:((Mk.close Y).2==0)=false:=by simpa using H
  have E:y=false:=by rw[f];simp[H]
  subst E;clear f H HS;go_wp2
  go_ret;exact⟨rfl,(aA m).1,(aA m).2.1⟩
 have e0:(en !=0)=true:=by simpa using S
 have E:y=false:=by rw[f];simp[S]
 subst E;clear f S;go_enter func87,ntmps87
 go_wp2_with fail
 refine(aA R).mono ?_;rintro e w1 ⟨v1,Z,L1,rfl,o,⟨sa,sn,sc,z⟩,i,p⟩;subst z;have n:=aB i;clear i o p R;go_wp2
 go_ret;exact⟨rfl,Fr.Dw (aA n).fr (aA s).2.1 (by omega) (aA s).2.2.1,fun k K L M=>(aA n).fr.block k K L ((aA s).2.2.2 k M)⟩
theorem Nz(N:iR w v l fp)(n:∀k∈fp,k<w.heap.size)(Q:rJ l)(hD:(fo l).length≤7000000)(R:Gl w)(hn:2<w.heap.size):
 Calls Tryz.prog 65 #[.agg #[.int .i64 d,.int .i64 a,.int .i64 t,.bool nm],v] w fun e w' =>∃x y,e=.returned (.tuple #[.slice x (wr d a t nm l).1.length y,.int .i64 (wr d a t nm l).2])∧w'.ownsRow w.heap.size 5 1 (.slice x (wr d a t nm l).1.length y) (wr d a t nm l).1.length ((wr d a t nm l).1.map bv)∧Below w.heap.size w w' :=by
 obtain⟨va,vc,rfl⟩:=N.got.slice;cases f:Rf.allowed d a t with
 |false=>
  have z:wr d a t nm l=([],1):=by unfold wr;rw[f];rfl
  rw[z];have A:=aB (xK d a t nm f);have e0:((1:Int) !=0)=true:=rfl;clear z N n Q R f;go_enter func65,ntmps65
  go_wp2_with fail
  refine(aA A _).mono ?_;rintro e w1 ⟨rfl,B⟩;have HB:=aB (nk B).2;clear B A;go_wp2
  go_ret2;exact⟨none,0,rfl,World.ownsRow_nil _ _ _ _,aA HB⟩
 |true=>
  obtain⟨d1,d2,a1,a2,t1,t2⟩:=PY f;have z:wr d a t nm l=if gv d a t nm (fo l) l then(fo l,0)else([],11):=by unfold wr;rw[f];rfl
  obtain⟨Z,O⟩:∃Z,Z=wr d a t nm l:=⟨_,rfl⟩;rw[←O];rw[z]at O;have P:=aB O;have A:=aB (fun W=>vQ d a t nm d1 d2 a1 a2 t1 t2 W);have u:=aB (And.intro N (And.intro n (And.intro R Q)));have e0:((0:Int) !=0)=false:=rfl;clear N n R Q z f d1 d2 a1 t1 t2 O;go_enter func65,ntmps65
  go_wp2_with fail
  refine(aA A _).mono ?_;rintro e w1 ⟨b,rfl,C,i,hr⟩;have hb:w.heap.size<b:=by simp at C;omega
  have o:Below w.heap.size w w1:=Below.trans ((Below.refl _ _).alloc (Nat.le_refl _) _) (i.mono (by simp));clear C i;have D:=((aA u).1.keep fun k p=>o.block k ((aA u).2.1 k p)).got;have HT:=aB (Nw D (aA u).2.2.2 (by omega));have s:=aB (And.intro o hr);clear D o hr A;go_wp2_with fail
  refine(aA HT).mono ?_;rintro e w2 ⟨x,y,rfl,hrow,h⟩;have S:=(aA s).2.lt;have s1:=(aA s).1.size;have s2:=h.size;have E:=(aA u).2.2.1.below hn (aA s).1;have F:=E.below (by omega) h;have H:aK w2 b (bC d a t nm) (L0 b):=(aA s).2.keep fun k p=>h.block k (by rcases p with rfl|p;exact S;exact((aA s).2.dF k p).2)
  have I:∀j (hj:j<(fo l).length),∃g,x=some ⟨g,0,none⟩∧g<w2.heap.size∧g≠b∧g∉aJ (bC d a t nm) (L0 b)∧w2.cell? ⟨g,j,none⟩=some (.int .u8 ((fo l)[j].toNat:Int)):=fun j hj=>by
   obtain⟨g,c', T,a0,J⟩:=World.ownsRow.form hrow (by omega);injection T with T _ hc;subst T hc;have a3:=(World.ownsRow.lt hrow g rfl).1;refine⟨g,rfl,J,by omega,by rw[qE];simp;omega,?_⟩;rw[qx hrow j (by omega)];simp[bv,hj]
  have K:=aB (Ny (c:=y) H a2 hD F (by omega) I (rK (aA u).1) ((aA s).1.trans (h.mono s1)) hb);have m:=aB hrow;clear hrow h E F H I HT s u s1;generalize X:gv d a t nm (fo l) l=G at *;go_wp2_with fail
  refine(aA K).mono ?_;rintro e w3 ⟨rfl,L,M⟩;have Y:=aB (And.intro L M);clear L M K X;cases G
  .have hz:Z=([],11):=aA P;subst hz;clear P;go_wp2
   go_ret2;exact⟨none,0,rfl,World.ownsRow_nil _ _ _ _,(aA Y).1⟩
  have hz:Z=(fo l,0):=aA P;subst hz;clear P;go_wp2
  go_ret2;refine⟨x,y,rfl,?_,(aA Y).1⟩;refine nM (fP (r:=⟨5,1,_,_,_⟩) (aA m) fun k p=>?_) (by omega);have q:=World.ownsRow.lt (aA m) k p;exact(aA Y).2 k q.2 (by omega) (by omega)
end
def jl(p:Pl)(s:Bs):Pl×Bool:=
 if p.said=0 then({p with s:=(Mk.feed p.s s).1,said:=(Rf.aS p.od p.oa p.ot p.on p.aS s).err,aS:=(p.aS++s).take (Rf.aS p.od p.oa p.ot p.on p.aS s).at_},Rf.same (Mk.feed p.s s).2.1 (Rf.aS p.od p.oa p.ot p.on p.aS s).events&&(Mk.feed p.s s).2.2==(Rf.aS p.od p.oa p.ot p.on p.aS s).err)
 else({p with s:=(Mk.feed p.s s).1},Rf.same (Mk.feed p.s s).2.1 []&&(Mk.feed p.s s).2.2==p.said)
section
variable {w:World}{O:Nat→Nat×Nat}{b:Nat}{pl:List (Pl×PA)}{hl:List HA}{pa ha:Option Addr}{pc hc:Nat}
theorem bF.NA{X Y:Nat→Prop}{O' c:Nat→Nat×Nat}{d:World}(h:bF X O O' w w')(k:bF Y O' c w' d)(g:∀q,q<w.heap.size→O q=fr→Y q→X q):bF X O c w d:=
 ⟨h.ch.trans k.ch fun q a e=>by
  by_cases b:O q=fr
  .by_cases f:X q
   .exact .inr f
   rcases e with e|e
   .exact absurd (h.tag q a b f) e
   exact .inr (g q a b e)
  exact .inl b,
  fun q a b f=>k.tag q (Nat.lt_of_lt_of_le a h.ch.size) (h.tag q a b f) fun i=>f (g q a b i)⟩
theorem NB(h:WI w O b pl hl pa pc ha hc){i:Nat}(o:i<pl.length){w1 w2 w3 W:World}{p' :Pl}{L' :Lay}(d:Below w.heap.size w w1)(c:Mv w1 pl[i].2.pb (aJ pl[i].1.s pl[i].2.L) w2 p'.s L')(a:Below w2.heap.size w2 w3)
 (p:W.heap[pl[i].2.xb]?=some (.cells (dL p' pl[i].2.pb) 57 (0,0))) (f:∀k,k≠pl[i].2.xb→W.heap[k]?=w3.heap[k]?) (C:W.heap.size=w3.heap.size) (j:W.os=w3.os∧W.tape=w3.tape∧W.output=w3.output)
 (r:∀k∈fp,(pl[i].2.pb≤k+1∧k≠pl[i].2.pb)∧k<w2.heap.size∧k∉aJ p'.s L' ∧(k∈aJ pl[i].1.s pl[i].2.L∨w1.heap.size≤k)):
 ∃O' A,WI W O' b (pl.set i (p', A)) hl pa pc ha hc∧bF (fun _=>False) O O' w W∧(∀k∈fp,O' k=fr∧k<W.heap.size∧W.heap[k]?=w2.heap[k]?)∧A.xb=pl[i].2.xb∧∀k,w.heap.size≤k→k<w1.heap.size→O' k=fr∧k<W.heap.size∧W.heap[k]?=w1.heap[k]?:=by
 have t:=h.ps i o;have u:=h.rE o;have D:=cE t.blk;have K:=d.size;have M:=c.fr.size;have N:=a.size;have v:∀k∈aJ pl[i].1.s pl[i].2.L,k<w.heap.size:=fun k q=>(t.rd.dF k q).2
 have E:=t.rd.lt;have x:∀k,k=pl[i].2.pb∨k∈aJ p'.s L' →k≠pl[i].2.xb:=fun k q e=>by
  subst e;rcases q with q|q
  .exact u.1 q
  rcases c.fr.aJ _ q with q|q
  .exact u.2 q
  omega
 have F:aK W pl[i].2.pb p'.s L' :=c.rd.keep fun k q=>(f k (x k q)).trans (a.block k (by rcases q with q|q;exact q▸c.rd.lt;exact(c.rd.dF k q).2))
 have G:∀k∈aJ p'.s L', k∈aJ pl[i].1.s pl[i].2.L∨w.heap.size≤k:=fun k q=>by
  rcases c.fr.aJ k q with q|q
  .exact .inl q
  exact .inr (by omega)
 have y:Ch (fun k=>k=pl[i].2.xb∨k=pl[i].2.pb∨k∈aJ pl[i].1.s pl[i].2.L) w W:=⟨j.1.trans (a.os.trans (c.fr.os.trans d.os)),j.2.1.trans (a.tape.trans (c.fr.tape.trans d.tape)),j.2.2.trans (a.output.trans (c.fr.output.trans d.output)),by omega,fun k m l=>by
  rw[f k (fun e=>l (.inl e)),a.block k (by omega),c.fr.block k (by omega) (fun e=>l (.inr (.inl e))) (fun e=>l (.inr (.inr e)))]
  exact d.block k m⟩
 obtain⟨H,I,B⟩:=h.upd o y p F G;refine⟨_,_,H,I,fun k q=>?_,rfl,fun k m l=>?_⟩
 .obtain⟨⟨_,m⟩,l,J,g⟩:=r k q;refine⟨B k J m (by rcases g with g|g;exact .inl g;exact .inr (by omega)),by omega,?_⟩;have z:k≠pl[i].2.xb:=fun e=>by
   subst e;rcases g with g|g
   .exact u.2 g
   omega
  rw[f k z,a.block k l]
 have n:k∉aJ pl[i].1.s pl[i].2.L:=fun e=>by have:=v k e;omega
 refine⟨B k (fun e=>?_) (by omega) (.inr m),by omega,?_⟩
 .rcases c.fr.aJ k e with e|e
  .exact n e
  omega
 rw[f k (by omega),a.block k (by omega),c.fr.block k l (by omega) n]
end
def rL(w:World)(O:Nat→Nat×Nat)(b:Nat)(pl:List (Pl×PA))(n:Nat)(pa:Option Addr)(pc i xb:Nat)(p' :Pl)(w' :World):Prop:=∃O' A hl' ha' hc', WI w' O' b (pl.set i (p', A)) hl' pa pc ha' hc' ∧hl'.length=n∧bF (fun _=>False) O O' w w' ∧A.xb=xb
structure Md(w:World)(O:Nat→Nat×Nat)(b:Nat)(pl:List (Pl×PA))(n:Nat)(pa:Option Addr)(pc i xb:Nat)(p' :Pl)(v:Value)(evs:List Ev)(fp:List Nat)(W:World)(O' :Nat→Nat×Nat)(A:PA)(hl:List HA)(ha:Option Addr)(hc:Nat):Prop where
 wi:WI W O' b (pl.set i (p', A)) hl pa pc ha hc
 len:hl.length=n
 gA:bF (fun _=>False) O O' w W
 got:iR W v evs fp
 free:∀k∈fp,O' k=fr∧k<W.heap.size
 own:∀k∈fp,k<w.heap.size→O k≠fr
 ax:A.xb=xb
section
variable {w:World}{O:Nat→Nat×Nat}{b:Nat}{pl:List (Pl×PA)}{pa:Option Addr}{pc i n xb:Nat}{p' :Pl}{v:Value}{evs:List Ev}{fp:List Nat}{W:World}{O' :Nat→Nat×Nat}{A:PA}{hl:List HA}{ha:Option Addr}{hc:Nat}
theorem Md.below{c:World}(h:Md w O b pl n pa pc i xb p' v evs fp W O' A hl ha hc)(a:Below W.heap.size W c):Md w O b pl n pa pc i xb p' v evs fp c O' A hl ha hc:=
 ⟨h.wi.below a,h.len,h.gA.trans (bF.of_below (fun _=>False) a) fun _ _ q=>q,h.got.keep fun k q=>a.block k (h.free k q).2,fun k q=>⟨(h.free k q).1,Nat.lt_of_lt_of_le (h.free k q).2 a.size⟩,h.own,h.ax⟩
theorem Md.keep(h:Md w O b pl n pa pc i xb p' v evs fp W O' A hl ha hc){c:Nat}(l:c≤3){base m o:Nat}{e:TypeId}{a:Option Addr}{s:List Value}(t:W.ownsRow base e (jU c) (.slice a m o) m s)(g:∀k,aT a k→O' k=fr∧k∉fp∧w.heap.size≤k)(z:n≤17000000000000):
 Calls Tryz.prog 68 #[.pointer (some ⟨b,0,none⟩),.pointer (some ⟨W.heap.size,0,none⟩)] (W.alloc (.cells (jE c (.slice a o o) 0) 120)) fun e w' =>e=.returned (.tuple #[])∧∃p r d f,Md w O b pl (n+1) pa pc i xb p' v evs fp w' p A r d f:=by
 refine(ow h.wi l t (fun k q=>(g k q).1) (by have:=h.len;omega)).mono fun e w' ⟨u,p,d,f,x,j⟩=>⟨u,p,_,d,f,x,by rw[List.length_append,h.len];rfl,h.gA.trans j fun k B y=>by have:=(g k y).2.2;omega,h.got.keep fun k q=>?_,fun k q=>?_,h.own,h.ax⟩
 .exact j.ch.block k (h.free k q).2 fun e=>by
   rcases e with e|e
   .exact e (h.free k q).1
   exact(g k e).2.1 q
 exact⟨j.tag k (h.free k q).2 (h.free k q).1 fun e=>(g k e).2.1 q,Nat.lt_of_lt_of_le (h.free k q).2 j.ch.size⟩
theorem Md.events(h:Md w O b pl n pa pc i xb p' v evs fp W O' A hl ha hc)(s:n+evs.length+1≤17000000000000)(a:evs.length≤1000000000):
 Calls Tryz.prog 69 #[.pointer (some ⟨b,0,none⟩),v] W fun e w' =>e=.returned (.tuple #[])∧rL w O b pl (n+evs.length+1) pa pc i xb p' w' :=by
 refine(CF h.wi h.got h.free (by have:=h.len;omega) a).mono fun e w' ⟨g,j,c,d,f,l,m,o⟩=>⟨g,j,A,c,d,f,l,by rw[m,h.len],bF.NA h.gA o fun k p q r=>absurd q (h.own k r p),h.ax⟩
theorem rL.cells{w' :World}(h:rL w O b pl n pa pc i xb p' w')(c:i<pl.length):∃pb,w'.heap[xb]?=some (.cells (dL p' pb) 57 (0,0)):=by
 obtain⟨O', A,hl', ha', hc', d,f,g,e⟩:=h;have a:=(d.ps i (by rw[List.length_set];exact c)).blk;rw[List.getElem_set_self]at a;rw[←e];exact⟨_,a⟩
end
theorem Dx{g:Nat}{l:Bs}(h:w.heap[g]?=some (.cells (l.map bv).toArray 5 (0,0)))(hl:l.length≤1000000000):w.ownsRow 0 5 1 (.slice (some ⟨g,0,none⟩) l.length l.length) l.length (l.map bv):=
 ⟨by simp,.inr ⟨g,l.length,_,rfl,Nat.zero_le _,h,Nat.le_refl _,by unfold maxLen;omega,by simp,by rw[Nat.mul_one];exact List.take_of_length_le (by simp)⟩⟩
theorem NC(l:Bs)(n:Nat):(ByteArray.extract ⟨l.toArray⟩ 0 n)=⟨(l.take n).toArray⟩:=by
 apply ByteArray.ext;simp[ByteArray.data_extract]
end Go.Proofs.YtmgfijllcdadgaaGreatDoor.U
