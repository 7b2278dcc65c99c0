import Derived.Test.YtmgfijllcdadgaaGreatDoorNW31
import Derived.Test.YtmgfijllcdadgaaGreatDoorNW32
import Derived.Test.YtmgfijllcdadgaaGreatDoorNW34
set_option linter.unusedVariables false
set_option linter.unusedSimpArgs false
set_option maxHeartbeats 8000000
set_option maxRecDepth 100000
namespace Go.Proofs.YtmgfijllcdadgaaGreatDoor.V
open Go.RowKit
open Mk (Bs Ev aD)
open Rf (R)
open Go.Proofs.Tryz
open Rf (qM ko iD tj mW)
variable {w:World}{lo up:Nat}
def mD(v:Bool)(b:UInt8):Bs:=if v then qM b else Rf.esc b
theorem Lm(v:Bool)(b:UInt8):(mD v b).length≤6:=by
 have a:(Rf.esc b).length≤6:=by
  unfold Rf.esc;repeat' split
  all_goals simp
 unfold mD qM;repeat' split
 all_goals first|exact a|simp
theorem Lp(s:Bs)(v:Bool)(k:Nat)(a:k<s.length):Rf.plain (s.take (k+1)) v=Rf.plain (s.take k) v++mD v s[k]:=by
 rw[List.take_add_one,List.getElem?_eq_getElem a];unfold Rf.plain;rw[List.flatMap_append];simp[mD]
theorem ni(v:Bool):∀s:Bs,(Rf.plain s v).length≤6*s.length
 |[]=>by simp[Rf.plain]
 |x::l=>by
  have b:=ni v l;have c:=Lm v x;have a:Rf.plain (x::l) v=mD v x++Rf.plain l v:=by simp[Rf.plain,mD]
  rw[a,List.length_append,List.length_cons];omega
theorem Lr(y:UInt8):y=60∨y=62∨y=38∨y=13∨y=34∨y=9∨y=10∨(¬y=60∧¬y=62∧¬y=38∧¬y=13∧¬y=34∧¬y=9∧¬y=10):=by
 by_cases a:y=60
 .exact .inl a
 by_cases b:y=62
 .exact .inr (.inl b)
 by_cases c:y=38
 .exact .inr (.inr (.inl c))
 by_cases d:y=13
 .exact .inr (.inr (.inr (.inl d)))
 by_cases e:y=34
 .exact .inr (.inr (.inr (.inr (.inl e))))
 by_cases f:y=9
 .exact .inr (.inr (.inr (.inr (.inr (.inl f)))))
 by_cases g:y=10
 .exact .inr (.inr (.inr (.inr (.inr (.inr (.inl g))))))
 exact .inr (.inr (.inr (.inr (.inr (.inr (.inr ⟨a,b,c,d,e,f,g⟩))))))
theorem Ls{y:UInt8}(h:¬y=60∧¬y=62∧¬y=38∧¬y=13∧¬y=34∧¬y=9∧¬y=10)(v:Bool):mD v y=[y]:=by
 obtain⟨a,b,c,d,f,g,i⟩:=h;have e:Rf.esc y=[y]:=by unfold Rf.esc;rw[if_neg a,if_neg b,if_neg c,if_neg d]
 unfold mD qM;rw[e];simp[f,g,i]
theorem CJ(s:Bs)(v:Bool)(M:s.length≤1000000000000)(w:World):Calls Tryz.prog 121 #[.string ⟨s.toArray⟩,.bool v] w fun e w' =>e=.returned (.string ⟨(Rf.plain s v).toArray⟩)∧w' =w:=by
 obtain⟨f,a⟩:∃f,f=Rf.plain s v:=⟨_,rfl⟩;rw[←a];have m:=aB a;clear a;go_enter func121,ntmps121
 go_wp2_with fail
 go_loopg [5,6] s.length (fun g r t u=>∃k:Nat,k≤s.length∧g=s.length - k∧t=.int .i64 k∧r=.string ⟨(Rf.plain (s.take k) v).toArray⟩∧u=w)
 case atStart=>exact⟨0,Nat.zero_le _,rfl,rfl,rfl,rfl⟩
 case round=>
  obtain⟨k,N,rfl,rfl,rfl,rfl⟩:=hrel;by_cases h:k<s.length
  .have x:decide ((k:Int)<(s.length:Int))=true:=by simp;omega
   have z:(k:Int)<(s.length:Int):=by omega
   have o:(k:Int)+1≤(s.length:Int):=by omega
   have i:=aB (Lp s v k h);have j:=ni v (s.take k);rw[List.length_take]at j;obtain⟨y,n⟩:∃y,s[k]?=some y:=⟨s[k],by simp[h]⟩;have l:s[k]=y:=(List.getElem?_eq_some_iff.1 n).2;rw[l]at i;have A:ByteArray.extract ⟨s.toArray⟩ k (k+1)=⟨#[y]⟩:=by
    rw[iS s k 1,drop_at n];rfl
   have p:(Rf.plain (s.take k) v).length≤6000000000000:=by omega
   clear n l j m;generalize Rf.plain (s.take k) v=out at *;have B:¬9223372036854775807<out.length+1:=by omega
   have C:¬9223372036854775807<out.length+4:=by omega
   have D:¬9223372036854775807<out.length+5:=by omega
   have E:¬9223372036854775807<out.length+6:=by omega
   rcases Lr y with rfl|rfl|rfl|rfl|rfl|rfl|rfl|b;case inr.inr.inr.inr.inr.inr.inr=>
    have c:=aA i;rw[Ls b]at c;have d:=aB c;obtain⟨F,G,H,I,J,K,L⟩:=b;have O:(y==60)=false:=by simpa using F
    have P:(y==62)=false:=by simpa using G
    have Q:(y==38)=false:=by simpa using H
    have R:(y==13)=false:=by simpa using I
    have S:(y==34)=false:=by simpa using J
    have T:(y==9)=false:=by simpa using K
    have X:(y==10)=false:=by simpa using L
    clear c i;cases v;all_goals
     go_wp2_with fail
     go_roundg (s.length - (k+1))
     case measure=>omega
     case rel=>exact⟨k+1,by omega,rfl,by simp,by rw[aA d];exact congrArg Value.string (eu out _),rfl⟩
   all_goals
    cases v;all_goals
     have c:=aA i;simp[mD,Rf.esc,qM]at c;have d:=aB c;clear c i;go_wp2_with fail
     go_roundg (s.length - (k+1))
     case measure=>omega
     case rel=>exact⟨k+1,by omega,rfl,by simp,by rw[aA d];exact congrArg Value.string (eu out _),rfl⟩
  have x:decide ((k:Int)<(s.length:Int))=false:=by simp;omega
  have q:=aA m;rw[List.take_of_length_le (by omega),←q];clear m q;go_wp2_with fail
  go_ret;exact⟨rfl,rfl⟩
def g_:List aD→Nat
 |[]=>0
 |a::l=>a.name.length+6*a.val.length+4+g_ l
theorem Lt(a:aD):(ko a).length≤a.name.length+6*a.val.length+4:=by
 have:=ni true a.val;simp only[ko,List.length_append,List.length_cons,List.length_nil];omega
theorem xM:∀l:List aD,(l.flatMap ko).length≤g_ l
 |[]=>Nat.le_refl _
 |a::l=>by
  rw[List.flatMap_cons,List.length_append];have b:=xM l;have c:=Lt a;unfold g_;omega
theorem Lu(l:List aD)(k:Nat)(a:k<l.length):(l.take (k+1)).flatMap ko=(l.take k).flatMap ko++([32]++l[k].name++[61,34]++Rf.plain l[k].val true++[34]):=by
 rw[List.take_add_one,List.getElem?_eq_getElem a,List.flatMap_append];simp[ko]
theorem CK:∀(l:List aD) (k:Nat) (b:k<l.length),g_ (l.take k)+(l[k].name.length+6*l[k].val.length+4)≤g_ l
 |[],k,b=>by cases b
 |a::l,0,b=>by simp[g_]
 |a::l,k+1,b=>by
  have h:=CK l k (by simpa using b);simp only[List.take_succ_cons,g_,List.getElem_cons_succ];omega
theorem PX:∀(l:List aD) (k:Nat),g_ (l.take k)≤g_ l
 |[],k=>by simp[g_]
 |a::l,0=>by simp[g_]
 |a::l,k+1=>by
  have:=PX l k;simp only[List.take_succ_cons,g_];omega
theorem xN(a b c d e f:Bs):(⟨a.toArray⟩:ByteArray)++⟨b.toArray⟩++⟨c.toArray⟩++⟨d.toArray⟩++⟨e.toArray⟩++⟨f.toArray⟩=⟨(a++(b++c++d++e++f)).toArray⟩:=by
 rw[eu,eu,eu,eu,eu];simp[List.append_assoc]
theorem uo(a b c:Bs):(⟨a.toArray⟩:ByteArray)++⟨b.toArray⟩++⟨c.toArray⟩=⟨(a++b++c).toArray⟩:=by rw[eu,eu]
theorem Lv{D E:Nat}(a:Bs)(e:Ev)(v:Value)(h:cJ D E w v e.aC)(hs:a.length+e.name.length+g_ e.aC≤1000000000000):
 Calls Tryz.prog 120 #[.string ⟨a.toArray⟩,.agg #[.int .i64 e.kind,.string ⟨e.name.toArray⟩,.string ⟨e.space.toArray⟩,.string ⟨e.val.toArray⟩,v]] w fun x w' =>x=.returned (.string ⟨(Rf.tag a e).toArray⟩)∧Below w.heap.size w w' :=by
 have y:=aB h;obtain⟨o,p,F,-⟩:=h.form;subst F;have hl:=h.len;clear h;have G:¬9223372036854775807<1+e.name.length:=by omega
 have A:¬9223372036854775807<1+e.name.length+a.length:=by omega
 obtain⟨d,b⟩:∃d,d=Rf.tag a e:=⟨_,rfl⟩;rw[←b];have q:=aB (show d=[60]++e.name++a++(e.aC.take e.aC.length).flatMap ko++[62] by rw[b,List.take_length];rfl);clear b;have l:(w.alloc (.cells #[.int .i64 e.kind,.string ⟨e.name.toArray⟩,.string ⟨e.space.toArray⟩,.string ⟨e.val.toArray⟩,.slice o e.aC.length p] 65)).heap[w.heap.size]?=_:=heap_alloc_new w _;have B:=aB (cZ w (.cells #[.int .i64 e.kind,.string ⟨e.name.toArray⟩,.string ⟨e.space.toArray⟩,.string ⟨e.val.toArray⟩,.slice o e.aC.length p] 65));have r:=aB ((aA y).below (aA B));go_enter func120,ntmps120
 go_wp2_with fail
 generalize(w.alloc (.cells #[.int .i64 e.kind,.string ⟨e.name.toArray⟩,.string ⟨e.space.toArray⟩,.string ⟨e.val.toArray⟩,.slice o e.aC.length p] 65))=w1 at *;obtain⟨H,I,J⟩:=aM l;clear l y;go_loopg [5,6] e.aC.length (fun g K L M=>∃k:Nat,k≤e.aC.length∧g=e.aC.length - k∧L=.int .i64 k∧K=.string ⟨([60]++e.name++a++(e.aC.take k).flatMap ko).toArray⟩∧M=w1)
 case atStart=>exact⟨0,Nat.zero_le _,rfl,rfl,by rw[uo];simp,rfl⟩
 case round=>
  obtain⟨k,hk,rfl,rfl,rfl,rfl⟩:=hrel;have N:([60]++e.name++a++(e.aC.take k).flatMap ko).length≤1+e.name.length+a.length+g_ (e.aC.take k):=by
   have:=xM (e.aC.take k);simp only[List.length_append,List.length_cons,List.length_nil];omega
  by_cases f:k<e.aC.length
  .have O:decide ((k:Int)<(e.aC.length:Int))=true:=by simp;omega
   have P:(k:Int)<(e.aC.length:Int):=by omega
   obtain⟨a1,c1,i,m⟩:=(aA r).form;injection i with i _ j;subst i j;obtain⟨g1,o1,Q,⟨_,_,R⟩,s⟩:=m k f;subst Q;have S:=s 0 (by decide);have T:=s 2 (by decide);simp[bZ]at S T;have X:=CK e.aC k f;have Y:=aB (Lu e.aC k f);have Z:=ni true e.aC[k].val;have HP:=aB (CJ e.aC[k].val true (by omega));clear s m q;generalize e.aC[k]=x at *;generalize c:([60]++e.name++a)++(e.aC.take k).flatMap ko=out at *;have n:=aB c;clear c;generalize Rf.plain x.val true=pv at *;have j:¬9223372036854775807<out.length+1:=by omega
   have a0:¬9223372036854775807<out.length+1+x.name.length:=by omega
   have a2:¬9223372036854775807<out.length+1+x.name.length+2:=by omega
   have a3:¬9223372036854775807<out.length+1+x.name.length+2+pv.length:=by omega
   have a4:¬9223372036854775807<out.length+1+x.name.length+2+pv.length+1:=by omega
   go_wp2_with(go_at_call 121;refine(aA HP _).mono ?_;rintro e' w' ⟨rfl,hw⟩;obtain rfl:=hw.symm)
   go_roundg (e.aC.length - (k+1))
   case measure=>omega
   case rel=>
    refine⟨k+1,by omega,rfl,by simp,?_,rfl⟩;rw[aA Y,←List.append_assoc,aA n];exact congrArg Value.string (xN out [32] x.name [61,34] pv [34])
  have O:decide ((k:Int)<(e.aC.length:Int))=false:=by simp;omega
  have t:k=e.aC.length:=by omega
  subst t;have ha:=PX e.aC e.aC.length;have C:=aA q;generalize([60]++e.name++a)++(e.aC.take e.aC.length).flatMap ko=out at *;have j:¬9223372036854775807<out.length+1:=by omega
  have u:=aB C;clear q C;go_wp2_with fail
  go_ret;exact⟨by rw[aA u];exact congrArg (fun z=>Ending.returned (Value.string z)) (eu out [62]),aA B⟩
def kT(e:Ev):Nat:=e.name.length+6*e.val.length+g_ e.aC+20
def fW:List Ev→Nat
 |[]=>0
 |e::l=>kT e+fW l
theorem CL:∀(l:List Ev) (k:Nat) (b:k<l.length),fW (l.take (k+1))=fW (l.take k)+kT l[k]
 |[],k,b=>by cases b
 |a::l,0,b=>by simp[fW]
 |a::l,k+1,b=>by
  have h:=CL l k (by simpa using b);simp only[List.take_succ_cons,fW,List.getElem_cons_succ]at h⊢;omega
theorem xO:∀(l:List Ev) (k:Nat),fW (l.take k)≤fW l
 |[],k=>by simp[fW]
 |a::l,0=>by simp[fW]
 |a::l,k+1=>by
  have:=xO l k;simp only[List.take_succ_cons,fW];omega
theorem Lx(e:Ev):(iD e).length≤kT e:=by
 have:=ni true e.val;unfold iD tj kT;split<;>simp only[List.length_append,List.length_cons,List.length_nil]<;>omega
theorem CM(a:Bs)(e:Ev):(Rf.one a e).length+(if e.kind=6 then a++iD e else[]).length≤a.length+kT e:=by
 have c:=ni false e.val;have d:=xM e.aC;have f:=Lx e;by_cases b:e.kind=6
 .rw[if_pos b];unfold Rf.one;rw[if_neg (by omega),if_neg (by omega),if_neg (by omega),if_neg (by omega),if_neg (by omega),List.length_append];simp only[List.length_nil];omega
 rw[if_neg b];unfold Rf.one Rf.tag kT;repeat' split
 all_goals simp only[List.length_append,List.length_cons,List.length_nil]
 all_goals omega
theorem Ly(a b c d e:Bs):(⟨a.toArray⟩:ByteArray)++⟨b.toArray⟩++⟨c.toArray⟩++⟨d.toArray⟩++⟨e.toArray⟩=⟨(a++b++c++d++e).toArray⟩:=by
 rw[eu,eu,eu,eu]
theorem CN(e:Ev)(l:List Ev)(b o:Bs):mW (e::l) b o=mW l (if e.kind=6 then b++iD e else[]) (o++Rf.one b e):=rfl
theorem kinds(k:Int):k=1∨k=2∨k=3∨k=4∨k=5∨k=6∨((k==1)=false∧(k==2)=false∧(k==3)=false∧(k==4)=false∧(k==5)=false∧(k==6)=false):=by
 by_cases a:k=1
 .exact .inl a
 by_cases b:k=2
 .exact .inr (.inl b)
 by_cases c:k=3
 .exact .inr (.inr (.inl c))
 by_cases d:k=4
 .exact .inr (.inr (.inr (.inl d)))
 by_cases e:k=5
 .exact .inr (.inr (.inr (.inr (.inl e))))
 by_cases f:k=6
 .exact .inr (.inr (.inr (.inr (.inr (.inl f)))))
 exact .inr (.inr (.inr (.inr (.inr (.inr ⟨by simpa using a,by simpa using b,by simpa using c,by simpa using d,by simpa using e,by simpa using f⟩)))))
theorem LA{v:Value}{l:List Ev}(h:bN lo up w v l)(hs:fW l≤100000000000):
 Calls Tryz.prog 88 #[v] w fun e w' =>e=.returned (.string ⟨(Rf.writes l).toArray⟩)∧Below w.heap.size w w' :=by
 have HR:=aB h;have a6:=h.len;obtain⟨a1,c1,y,-⟩:=h.form;subst y;obtain⟨z,A⟩:∃z,z=Rf.writes l:=⟨_,rfl⟩;rw[←A];have HF:=aB (show z=mW (l.drop 0) [] []from A);clear h A;go_enter func88,ntmps88
 go_wp2_with fail
 go_loopg [3,4,5] l.length (fun g s3 s4 s5 wx=>∃(k:Nat) (out a:Bs),k≤l.length∧g=l.length - k∧s5=.int .i64 k∧s3=.string ⟨out.toArray⟩∧s4=.string ⟨a.toArray⟩∧out.length+a.length≤fW (l.take k)∧Hid (z=mW (l.drop k) a out)∧Hid (Below w.heap.size w wx))
 case atStart=>exact⟨0,[],[],Nat.zero_le _,rfl,rfl,rfl,rfl,Nat.zero_le _,HF,aB (Below.refl _ _)⟩
 case round=>
  obtain⟨k,out,a,hk,rfl,rfl,rfl,rfl,a7,F,m⟩:=hrel;have q:=(aA m).size;have a8:=xO l k;clear HF;by_cases K:k<l.length
  .have e1:decide ((k:Int)<(l.length:Int))=true:=by simp;omega
   have a9:(k:Int)<(l.length:Int):=by omega
   have hfin:=aA F;rw[List.drop_eq_getElem_cons K,CN]at hfin;have L:=CL l k K;have a4:=xO l (k+1);obtain⟨b1,d1,y,Q⟩:=((aA HR).below (aA m)).form;injection y with y _ n;subst y n;obtain⟨g1,o1,ab,f1,ad,P,M⟩:=Q k K;subst f1;obtain⟨aa,ac,rfl,_⟩:=M.form;have p0:=P 0 (by decide);have p1:=P 1 (by decide);have p2:=P 2 (by decide);have p3:=P 3 (by decide);have p4:=P 4 (by decide);simp[bP]at p0 p1 p2 p3 p4;have B:=CM a l[k];have N:kT l[k]≤100000000000:=by omega
   have R:=aB (fun(W:World) (hb:Below wr.heap.size wr W)=>Lv a l[k] _ (M.below hb) (by unfold kT at N;omega));have u:=aB (fun v=>CJ l[k].val v (by unfold kT at N;omega));have Z:=ni true l[k].val;have a0:=ni false l[k].val;clear P Q M F;generalize l[k]=x at *;obtain⟨Y,b,o,d,p⟩:=x;simp only[kT]at p0 p1 p2 p3 p4 R u B N L hfin Z a0;have G:=aB L;have r:=aB B;have ae:b.length≤100000000000:=by omega
   have af:d.length≤100000000000:=by omega
   have ag:out.length≤100000000000:=by omega
   have ah:a.length≤100000000000:=by omega
   clear L B;rcases kinds Y with rfl|rfl|rfl|rfl|rfl|rfl|⟨e2,e3,e4,e5,e6,e7⟩
   .have i:Rf.one a ⟨1,b,o,d,p⟩=Rf.tag a ⟨1,b,o,d,p⟩:=rfl;have j:(if(1:Int)=6 then a++iD ⟨1,b,o,d,p⟩else[])=[]:=rfl;have c:=aA r;rw[i,j]at hfin c;generalize Rf.tag a ⟨1,b,o,d,p⟩=tg at *;have n:¬9223372036854775807<out.length+tg.length:=by simp only[List.length_nil]at c;omega
    have f:=aB hfin;have s:=aB c;clear hfin c i j r;go_wp2_with(go_at_call 120;refine(aA R _ (cZ _ _)).mono ?_;rintro e' w3 ⟨rfl,H⟩;rw[mg]at H;obtain⟨ai,aj,ak⟩:=aM ((H.block wr.heap.size (by omega)).trans (heap_alloc_new wr _));have a2:=aB ((aA m).trans (((cZ wr _).trans (H.mono (by omega))).mono q));clear H)
    go_roundg (l.length - (k+1))
    case measure=>omega
    case rel=>
     refine⟨k+1,out++tg,[],by omega,rfl,by simp,congrArg Value.string (eu out tg),rfl,?_,f,aB (aA a2)⟩;have c:=aA s;rw[aA G,List.length_append];omega
   .have i:Rf.one a ⟨2,b,o,d,p⟩=([60,47]++b++[62]):=rfl;have j:(if(2:Int)=6 then a++iD ⟨2,b,o,d,p⟩else[])=[]:=rfl;have c:=aA r;rw[i,j]at hfin c;have n:¬9223372036854775807<2+b.length:=by omega
    have C:¬9223372036854775807<2+b.length+1:=by omega
    have D:¬9223372036854775807<out.length+(2+b.length+1):=by omega
    have f:=aB hfin;have s:=aB c;clear hfin c i j r;go_wp2_with fail
    go_roundg (l.length - (k+1))
    case measure=>omega
    case rel=>
     refine⟨k+1,out++([60,47]++b++[62]),[],by omega,rfl,by simp,by rw[uo];exact congrArg Value.string (eu out _),rfl,?_,f,aB ((aA m).trans ((cZ _ _).mono q))⟩;have c:=aA s;rw[aA G,List.length_append];omega
   .have i:Rf.one a ⟨3,b,o,d,p⟩=Rf.plain d false:=rfl;have j:(if(3:Int)=6 then a++iD ⟨3,b,o,d,p⟩else[])=[]:=rfl;have c:=aA r;rw[i,j]at hfin c;have t:=aA u false;generalize Rf.plain d false=pv at *;have E:=aB t;have n:¬9223372036854775807<out.length+pv.length:=by omega
    clear t u;have f:=aB hfin;have s:=aB c;clear hfin c i j r;go_wp2_with(go_at_call 121;refine(aA E _).mono ?_;rintro e' w3 ⟨rfl,S⟩;obtain rfl:=S.symm)
    go_roundg (l.length - (k+1))
    case measure=>omega
    case rel=>
     refine⟨k+1,out++pv,[],by omega,rfl,by simp,congrArg Value.string (eu out pv),rfl,?_,f,aB ((aA m).trans ((cZ _ _).mono q))⟩;have c:=aA s;rw[aA G,List.length_append];omega
   .have i:Rf.one a ⟨4,b,o,d,p⟩=([60,33,45,45]++d++[45,45,62]):=rfl;have j:(if(4:Int)=6 then a++iD ⟨4,b,o,d,p⟩else[])=[]:=rfl;have c:=aA r;rw[i,j]at hfin c;have n:¬9223372036854775807<4+d.length:=by omega
    have C:¬9223372036854775807<4+d.length+3:=by omega
    have D:¬9223372036854775807<out.length+(4+d.length+3):=by omega
    have f:=aB hfin;have s:=aB c;clear hfin c i j r;go_wp2_with fail
    go_roundg (l.length - (k+1))
    case measure=>omega
    case rel=>
     refine⟨k+1,out++([60,33,45,45]++d++[45,45,62]),[],by omega,rfl,by simp,by rw[uo];exact congrArg Value.string (eu out _),rfl,?_,f,aB ((aA m).trans ((cZ _ _).mono q))⟩;have c:=aA s;rw[aA G,List.length_append];omega
   .by_cases I:d=[]
    .subst I;have i:Rf.one a ⟨5,b,o,[],p⟩=([60,63]++b++[63,62]):=by simp[Rf.one]
     have j:(if(5:Int)=6 then a++iD ⟨5,b,o,[],p⟩else[])=[]:=rfl;have c:=aA r;rw[i,j]at hfin c;have n:¬9223372036854775807<2+b.length:=by omega
     have C:¬9223372036854775807<2+b.length+2:=by omega
     have D:¬9223372036854775807<out.length+(2+b.length+2):=by omega
     have f:=aB hfin;have s:=aB c;clear hfin c i j r;go_wp2_with fail
     go_roundg (l.length - (k+1))
     case measure=>omega
     case rel=>
      refine⟨k+1,out++([60,63]++b++[63,62]),[],by omega,rfl,by simp,by rw[uo];exact congrArg Value.string (eu out _),rfl,?_,f,aB ((aA m).trans ((cZ _ _).mono q))⟩;have c:=aA s;rw[aA G,List.length_append];omega
    have i:Rf.one a ⟨5,b,o,d,p⟩=([60,63]++b++[32]++d++[63,62]):=by simp[Rf.one,I]
    have j:(if(5:Int)=6 then a++iD ⟨5,b,o,d,p⟩else[])=[]:=rfl;have c:=aA r;rw[i,j]at hfin c;have al:(d==[])=false:=by simpa using I
    have am:0<d.length:=List.length_pos_iff.2 I;have n:¬9223372036854775807<2+b.length:=by omega
    have C:¬9223372036854775807<2+b.length+1:=by omega
    have D:¬9223372036854775807<2+b.length+1+d.length:=by omega
    have T:¬9223372036854775807<2+b.length+1+d.length+2:=by omega
    have X:¬9223372036854775807<out.length+(2+b.length+1+d.length+2):=by omega
    have f:=aB hfin;have s:=aB c;clear hfin c i j r;go_wp2_with fail
    go_roundg (l.length - (k+1))
    case measure=>omega
    case rel=>
     refine⟨k+1,out++([60,63]++b++[32]++d++[63,62]),[],by omega,rfl,by simp,by rw[Ly];exact congrArg Value.string (eu out _),rfl,?_,f,aB ((aA m).trans ((cZ _ _).mono q))⟩;have c:=aA s;rw[aA G,List.length_append];omega
   .by_cases J:b=[]
    .subst J;have i:Rf.one a ⟨6,[],o,d,p⟩=[]:=rfl;have j:(if(6:Int)=6 then a++iD ⟨6,[],o,d,p⟩else[])=(a++([32]++[120,109,108,110,115]++[61,34]++Rf.plain d true++[34])):=by simp[iD,tj]
     have c:=aA r;rw[i,j]at hfin c;have t:=aA u true;generalize O:Rf.plain d true=pv at *;have E:=aB t;clear t u O;have a3:¬9223372036854775807<out.length:=by omega
     have n:¬9223372036854775807<a.length+1:=by omega
     have C:¬9223372036854775807<a.length+1+5:=by omega
     have D:¬9223372036854775807<a.length+1+5+2:=by omega
     have T:¬9223372036854775807<a.length+1+5+2+pv.length:=by omega
     have X:¬9223372036854775807<a.length+1+5+2+pv.length+1:=by omega
     have f:=aB hfin;have s:=aB c;clear hfin c i j r;go_wp2_with(go_at_call 121;refine(aA E _).mono ?_;rintro e' w3 ⟨rfl,S⟩;obtain rfl:=S.symm)
     go_roundg (l.length - (k+1))
     case measure=>omega
     case rel=>
      refine⟨k+1,out++[],(a++([32]++[120,109,108,110,115]++[61,34]++pv++[34])),by omega,rfl,by simp,congrArg Value.string (eu out []),congrArg Value.string (xN a [32] [120,109,108,110,115] [61,34] pv [34]),?_,f,aB ((aA m).trans ((cZ _ _).mono q))⟩;have c:=aA s;rw[aA G,List.length_append];omega
    have i:Rf.one a ⟨6,b,o,d,p⟩=[]:=rfl;have j:(if(6:Int)=6 then a++iD ⟨6,b,o,d,p⟩else[])=(a++([32]++([120,109,108,110,115,58]++b)++[61,34]++Rf.plain d true++[34])):=by simp[iD,tj,J]
    have c:=aA r;rw[i,j]at hfin c;have t:=aA u true;generalize O:Rf.plain d true=pv at *;have E:=aB t;clear t u O;have an:(b==[])=false:=by simpa using J
    have ao:0<b.length:=List.length_pos_iff.2 J;have a3:¬9223372036854775807<out.length:=by omega
    have a5:¬9223372036854775807<6+b.length:=by omega
    have n:¬9223372036854775807<a.length+1:=by omega
    have C:¬9223372036854775807<a.length+1+(6+b.length):=by omega
    have D:¬9223372036854775807<a.length+1+(6+b.length)+2:=by omega
    have T:¬9223372036854775807<a.length+1+(6+b.length)+2+pv.length:=by omega
    have X:¬9223372036854775807<a.length+1+(6+b.length)+2+pv.length+1:=by omega
    have f:=aB hfin;have s:=aB c;clear hfin c i j r;go_wp2_with(go_at_call 121;refine(aA E _).mono ?_;rintro e' w3 ⟨rfl,S⟩;obtain rfl:=S.symm)
    go_roundg (l.length - (k+1))
    case measure=>omega
    case rel=>
     refine⟨k+1,out++[],(a++([32]++([120,109,108,110,115,58]++b)++[61,34]++pv++[34])),by omega,rfl,by simp,congrArg Value.string (eu out []),by rw[eu [120,109,108,110,115,58] b];exact congrArg Value.string (xN a [32] ([120,109,108,110,115,58]++b) [61,34] pv [34]),?_,f,aB ((aA m).trans ((cZ _ _).mono q))⟩;have c:=aA s;rw[aA G,List.length_append];omega
   have i:Rf.one a ⟨Y,b,o,d,p⟩=[]:=by simp[Rf.one,beq_eq_false_iff_ne.1 e2,beq_eq_false_iff_ne.1 e3,beq_eq_false_iff_ne.1 e4,beq_eq_false_iff_ne.1 e5,beq_eq_false_iff_ne.1 e6]
   have j:(if(Y:Int)=6 then a++iD ⟨Y,b,o,d,p⟩else[])=[]:=if_neg (beq_eq_false_iff_ne.1 e7);have c:=aA r;rw[i,j]at hfin c;have n:¬9223372036854775807<out.length:=by omega
   have f:=aB hfin;have s:=aB c;clear hfin c i j r;go_wp2_with fail
   go_roundg (l.length - (k+1))
   case measure=>omega
   case rel=>
    refine⟨k+1,out++[],[],by omega,rfl,by simp,congrArg Value.string (eu out []),rfl,?_,f,aB ((aA m).trans ((cZ _ _).mono q))⟩;have c:=aA s;rw[aA G,List.length_append];omega
  have e1:decide ((k:Int)<(l.length:Int))=false:=by simp;omega
  have hfin:=aA F;rw[List.drop_of_length_le (by omega)]at hfin;have hF:z=out:=hfin;clear hfin F HR;subst hF;go_wp2_with fail
  go_ret;exact⟨rfl,aA m⟩
theorem CO:∀(l:List Ev) (b o:Bs),(mW l b o).length≤o.length+b.length+fW l
 |[],b,o=>by simp only[mW,fW];omega
 |e::l,b,o=>by
  rw[CN];have a:=CO l (if e.kind=6 then b++iD e else[]) (o++Rf.one b e);have c:=CM b e;rw[List.length_append]at a;unfold fW;omega
theorem LB(l:List Ev):(Rf.writes l).length≤fW l:=by
 have:=CO l [] [];simp only[List.length_nil]at this;unfold Rf.writes;omega
theorem PY{od oa ot:Int}(h:Rf.allowed od oa ot=true):1≤od∧od≤64∧0≤oa∧oa≤32∧8≤ot∧ot≤1024:=by
 unfold Rf.allowed at h;split at h
 .cases h
 rename_i a;simp at h a;omega
theorem nk{w1:World}{a:Obj}(b:Below (w.alloc a).heap.size (w.alloc a) w1):w1.heap[w.heap.size]?=some a∧Below w.heap.size w w1:=by
 rw[mg]at b;exact⟨(b.block _ (by omega)).trans (heap_alloc_new w a),(cZ w a).trans (b.mono (by omega))⟩
section
variable {od oa ot:Int}{on:Bool}{l:List Ev}
theorem LC{v:Value}(h:bN lo up w v l)(hs:fW l≤100000000)(K:bG w):
 Calls Tryz.prog 67 #[.agg #[.int .i64 od,.int .i64 oa,.int .i64 ot,.bool on],v] w fun e w' =>e=.returned (.tuple #[.string ⟨(Rf.write od oa ot on l).1.toArray⟩,.int .i64 (Rf.write od oa ot on l).2])∧Below w.heap.size w w' :=by
 have HA:=aB (xJ od oa ot on);obtain⟨b,a⟩:∃b,b=Rf.write od oa ot on l:=⟨_,rfl⟩;rw[←a];unfold Rf.write at a;cases c:Rf.allowed od oa ot with
 |false=>
  rw[c,if_neg (by decide)]at a;rw[c]at HA;subst a;obtain⟨X,c1,k,-⟩:=h.form;subst k;clear h K;go_enter func67,ntmps67
  go_wp2_with(go_at_call 44;refine(aA HA _).mono ?_;rintro e w1 ⟨rfl,f⟩)
  go_ret2;exact⟨rfl,(nk f).2⟩
 |true=>
  rw[c,if_pos rfl]at a;rw[c]at HA;obtain⟨d1,d2,X,a2,Y,t2⟩:=PY c;have a3:=LB l;have Z:=aB (fun(W:World) (z:Below w.heap.size w W)=>LA (h.below z) (by omega));have B:=aB (fun(W:World) (z:Below w.heap.size w W)=>lu (on:=on) d1 d2 X a2 Y t2 (show(Rf.writes l).length≤100000000 by omega) W (K.below z));have g:=xH (od:=od) (oa:=oa) (on:=on) (s:=Rf.writes l) Y (by omega);have HR:=aB h;obtain⟨la,lc,k,-⟩:=h.form;subst k;generalize Rf.writes l=tx at *;generalize Rf.read od oa ot on tx=A at *;have HF:=aB a;clear h K a;go_enter func67,ntmps67
  go_wp2_with fail
  refine(aA HA _).mono ?_;rintro e w1 ⟨rfl,f⟩;obtain⟨m,C⟩:=nk f;have n:=aB C;have D:=(aM m).2.2;have E:=aB m;clear f m C;go_wp2_with fail
  refine(aA Z _ (aA n)).mono ?_;rintro e w2 ⟨rfl,o⟩;have q:=aB ((aA n).trans (o.mono (aA n).size));obtain⟨L,M,N⟩:=aM ((o.block _ D).trans (aA E));clear o Z;go_wp2_with fail
  refine(aA B _ (aA q)).mono ?_;rintro e w3 ⟨v3,rfl,O,F⟩;obtain⟨ve,vo,es,rfl,k1,P,k3,k4⟩:=O;obtain⟨ea,ec,rfl⟩:=b_ P;obtain⟨oo,oc,rfl⟩:=b_ k4;have Q:=bN.of P k3;rw[k1]at Q;have G:=aB ((aA q).trans (F.mono (aA q).size));have h3:A.events.length*200000000≤400000000*200000000:=Nat.mul_le_mul_right _ g.1;have R:=xG A.events 200000000 g.2;have HJ:=aB (fun(W:World) (z:Below w3.heap.size w3 W)=>BU (Q.below z) (by have:=g.1;omega) (by omega));clear F k1 P k3 k4 B Q g h3 R L M N E D;go_wp2_with fail
  refine(aA HJ _ (cZ _ _)).mono ?_;rintro e w4 ⟨v4,a5,rfl,j1,r⟩;have t:=(aA G).trans (((cZ w3 _).trans (r.aU.mono (by rw[mg];omega))).mono (aA G).size);have u:=bN.of r.row (fun p hp=>(r.jT p hp).below r.aU);rw[j1]at u;have hS:=P_ u ((aA HR).below t);obtain⟨S,a6,H⟩:=aM ((r.aU.block w3.heap.size (by rw[mg];omega)).trans (heap_alloc_new w3 _));obtain⟨a4,c4,rfl⟩:=b_ r.row;have I:=aB t;have HS:=aB hS;clear HJ j1 r t u hS;have y:=aA HF;generalize Rf.same (Rf.joined A.events) l=sm at *;clear HF;go_wp2_with fail
  refine(aA HS).mono ?_;rintro e w5 ⟨rfl,j⟩;have x:=aB ((aA I).trans (j.mono (aA I).size));have J:∀i,w5.cell? ⟨w3.heap.size,i,none⟩=w4.cell? ⟨w3.heap.size,i,none⟩:=fun i=>fU (j.block _ H)
  simp only[S]at J;have a0:w3.heap.size<w5.heap.size:=Nat.lt_of_lt_of_le H j.size;clear j HS;generalize w3.heap.size=u3 at *;generalize T:A.whole=wh at *;clear T;cases wh with
  |false=>
   have d:b=([],11):=by rw[y];rfl
   clear y;subst d;go_wp2_with fail
   go_ret2;exact⟨rfl,aA x⟩
  |true=>
   cases sm with
   |false=>
    have d:b=([],11):=by rw[y];rfl
    clear y;subst d;go_wp2_with fail
    go_ret2;exact⟨rfl,aA x⟩
   |true=>
    have d:b=(tx,0):=by rw[y];rfl
    clear y;subst d;go_wp2_with fail
    go_ret2;exact⟨rfl,aA x⟩
end
end Go.Proofs.YtmgfijllcdadgaaGreatDoor.V
namespace Go.Proofs.YtmgfijllcdadgaaGreatDoor.U
open Go.RowKit
open Mk (Bs Ev aD)
open V
open Go.Proofs.Tryz
open Mk (bC)
def gB(od oa ot:Int)(on:Bool):Pl:=⟨od,oa,ot,on,bC od oa ot on,[],0⟩
theorem LD:(Tryz.prog.info? 54).map (fun i=>(i.zero,i.size,i.bytes))=some (some (.pointer none),1,8):=by kernel_rfl
def xP(w:World)(O:Nat→Nat×Nat)(b:Nat)(pl:List (Pl×PA))(hl:List HA)(ha:Option Addr)(hc:Nat)(ps:List Pl)(w' :World):Prop:=∃O' q_ pa' pc', WI w' O' b q_ hl pa' pc' ha hc∧bF (fun _=>False) O O' w w' ∧q_.map (·.1)=pl.map (·.1)++ps
section
variable {w:World}{O:Nat→Nat×Nat}{b:Nat}{pl:List (Pl×PA)}{hl:List HA}{pa ha:Option Addr}{pc hc:Nat}
theorem LF(h:WI w O b pl hl pa pc ha hc){w2 X w3:World}{pb g2 cap:Nat}{od oa ot:Int}{on:Bool}(d:X.grownBy w3 (Value.slice pa pl.length pc).ownBlock)(a:Below w.heap.size w w2)(f:aK w2 pb (bC od oa ot on) (L0 pb))(s:w.heap.size<pb)(t:2<w.heap.size)(g:Below w2.heap.size w2 X)(u:X.heap[w2.heap.size]?=some (.cells (dL (gB od oa ot on) pb) 57 (0,0)))(v:X.heap.size=w2.heap.size+1+1)
 (hown:w3.ownsRow 0 54 1 (.slice (some ⟨g2,0,none⟩) (pl.length+1) cap) (pl.length+1) (jF pl++[.pointer (some ⟨w2.heap.size,0,none⟩)])) (j:(Value.slice pa pl.length pc).ownBlock=some g2∨g2=w2.heap.size+1+1):
 xP w O b pl hl ha hc [gB od oa ot on] (w3.setCell ⟨b,0,none⟩ (.slice (some ⟨g2,0,none⟩) (pl.length+1) cap)):=by
 have x:=a.size;have A:=d.size;have y:=f.lt;have i:∀k,aT pa k→k<w.heap.size:=fun k q=>h.old (by rw[h.po k q];exact fI (by decide))
 have l:∀k,k<X.heap.size→¬aT pa k→w3.heap[k]?=X.heap[k]?:=fun k m n=>d.block k m fun e=>n (iU e.symm)
 have c:∀k∈aJ (bC od oa ot on) (L0 pb),k=pb - 1:=fun k q=>by rw[qE]at q;exact List.mem_singleton.1 q
 have o:aK w3 pb (bC od oa ot on) (L0 pb):=f.keep fun k q=>by
  have z:k<w2.heap.size∧w.heap.size≤k:=by
   rcases q with q|q
   .omega
   have:=c k q;omega
  exact(l k (by omega) fun e=>by have:=i k e;omega).trans (g.block k z.1)
 have r:=h.more (W:=w3) (xb:=w2.heap.size) (pb:=pb) (g2:=g2) (cap:=cap) (p:=gB od oa ot on) (L:=L0 pb) ⟨d.os.trans (g.os.trans a.os),d.tape.trans (g.tape.trans a.tape),d.output.trans (g.output.trans a.output),by omega,fun k m n=>(l k (by omega) n).trans ((g.block k (by omega)).trans (a.block k m))⟩
  ((l _ (by omega) fun e=>by have:=i _ e;omega).trans u) x o (by omega) (fun k q=>by have:=c k q;omega) (by omega) (fun q=>by have:=c _ q;omega) (by
   rcases j with q|q
   .exact .inl (iU q)
   exact .inr ⟨by omega,by omega,by omega,fun e=>by have:=c _ e;omega⟩) hown (by omega)
 exact⟨_,_,_,_,r.1,r.2,by simp⟩
theorem CP(h:WI w O b pl hl pa pc ha hc)(od oa ot:Int)(on:Bool)(H:2<w.heap.size)(hn:pl.length≤1000000000000):
 Calls Tryz.prog 24 #[.pointer (some ⟨b,0,none⟩),.agg #[.int .i64 od,.int .i64 oa,.int .i64 ot,.bool on]] w fun e w' =>e=.returned (.bool true)∧xP w O b pl hl ha hc (if Rf.allowed od oa ot then[gB od oa ot on]else[]) w' :=by
 have HA:=aB (xJ od oa ot on);have u:=aB h;obtain⟨r,s,m⟩:=aM h.blk;cases n:Rf.allowed od oa ot with
 |false=>
  rw[n]at HA;have F:=aB (xK od oa ot on n);clear h r s m;go_enter func24,ntmps24
  go_wp2_with fail
  refine(aA F _).mono ?_;rintro e w1 ⟨rfl,g⟩;obtain⟨d,i⟩:=nk g;obtain⟨o,p,j⟩:=aM d;have a:=aB i;clear g i d;go_wp2_with fail
  refine(aA HA _).mono ?_;rintro e w2 ⟨rfl,c⟩;have f:=aB ((aA a).trans (c.mono (aA a).size));clear c a o p j;go_wp2_with fail
  go_ret;exact⟨rfl,O,pl,pa,pc,(aA u).below (aA f),bF.of_below _ (aA f),by simp⟩
 |true=>
  obtain⟨P,Q,R,S,T,Y⟩:=PY n;rw[n]at HA;have F:=aB (vQ od oa ot on P Q R S T Y);obtain⟨i0,hi,I,J,K⟩:=info_parts LD;clear h r s m P Q R S T Y;go_enter func24,ntmps24
  go_wp2_with fail
  refine(aA F _).mono ?_;rintro e w1 ⟨pb,rfl,v,g,x⟩;obtain⟨d,i⟩:=nk g;obtain⟨o,p,j⟩:=aM d;have y:w.heap.size<pb:=by simp at v;omega
  have a:=aB (And.intro i x);clear g i x v F;go_wp2_with fail
  refine(aA HA _).mono ?_;rintro e w2 ⟨rfl,c⟩;have l:=(aA a).1.trans (c.mono (aA a).1.size);have z:aK w2 pb (bC od oa ot on) (L0 pb):=(aA a).2.keep fun k q=>c.block k (by rcases q with rfl|q;exact(aA a).2.lt;exact((aA a).2.dF k q).2)
  have A:=(c.block _ j).trans (show _ from d);clear o p j;obtain⟨o,p,j⟩:=aM A;obtain⟨r,s,m⟩:=aM ((aA u).below l).blk;have f:=aB (And.intro l z);have B:=((aA u).below l).pr;have L:=aB ((B.alloc (.cells (dL (gB od oa ot on) pb) 57)).alloc (.cells #[.pointer (some ⟨w2.heap.size,0,none⟩)] 54))
  have t:=aB (show((w2.alloc (.cells (dL (gB od oa ot on) pb) 57)).alloc (.cells #[.pointer (some ⟨w2.heap.size,0,none⟩)] 54)).heap[w2.heap.size+1]?=some (.cells #[.pointer (some ⟨w2.heap.size,0,none⟩)] 54 (0,0))from by
   have q:=heap_alloc_new (w2.alloc (.cells (dL (gB od oa ot on) pb) 57)) (.cells #[.pointer (some ⟨w2.heap.size,0,none⟩)] 54)
   rw[show(w2.alloc (.cells (dL (gB od oa ot on) pb) 57)).heap.size=w2.heap.size+1 by simp]at q
   exact q)
  have C:=aB (show((w2.alloc (.cells (dL (gB od oa ot on) pb) 57)).alloc (.cells #[.pointer (some ⟨w2.heap.size,0,none⟩)] 54)).heap[w2.heap.size]?=some (.cells (dL (gB od oa ot on) pb) 57 (0,0))from(Below.heap_alloc _ _ _ (by simp)).trans (heap_alloc_new w2 _));have M:=aB (show pl.length+1≤maxLen by unfold maxLen;omega);have D:=(aA u).below l;have N:=aB (fun(X w3:World) (Z:X.heap=((w2.alloc (.cells (dL (gB od oa ot on) pb) 57)).alloc (.cells #[.pointer (some ⟨w2.heap.size,0,none⟩)] 54)).heap) (q:X.grownBy w3 (Value.slice pa pl.length pc).ownBlock)=>(q.block b (by rw[Z];simp;omega) fun e=>by have q2:=D.po b (iU e.symm);rw[D.ob]at q2;cases q2).trans ((congrArg (·[b]?) Z).trans ((Below.heap_alloc _ _ _ (by simp;omega)).trans ((Below.heap_alloc _ _ _ m).trans D.blk))));have HW:=aB D;clear D;unfold dL gB at L t N;clear c l z d A a HA B;go_wp2_with fail
  go_region_law (refine step_append_lies _ rfl _ _ 49 rfl 0 54 i0 _ 1 8 underlying49 hi I J K rfl (by decide) (.slice pa pl.length pc) pl.length (jF pl) (by simp[Act.eval]) (aA L) ⟨w2.heap.size+1,0,none⟩ 1 1 [.pointer (some ⟨w2.heap.size,0,none⟩)] (by simp[Act.eval]) rfl (World.news_of_block (aA t)) (by simp[Value.oneCell']) (by decide) (aA M) (by omega) (Nat.zero_le _) (w2.heap.size+1+1) (by simp) ?_;intro g2 cap w3 hown hgrow E a0;obtain⟨hc3,a3,a4⟩:=aM (aA N _ w3 (by rfl) hgrow);have G:=aB (And.intro hown (And.intro hgrow E));clear hown hgrow E)
  all_goals
   have hf:=LF (aA u) (aA G).2.1 (aA f).1 (aA f).2 y H (by have q:=jD w2 (.cells (dL (gB od oa ot on) pb) 57) (.cells #[.pointer (some ⟨w2.heap.size,0,none⟩)] 54);exact⟨q.os,q.tape,q.output,q.size,q.block⟩) (aA C) (by simp) (aA G).1 (aA G).2.2;have HF:=aB hf;clear hf G f t L N HW C;go_wp2_with fail
   go_ret;exact⟨rfl,aA HF⟩
end
end Go.Proofs.YtmgfijllcdadgaaGreatDoor.U
