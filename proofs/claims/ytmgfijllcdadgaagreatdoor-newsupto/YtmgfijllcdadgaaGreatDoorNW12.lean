import Derived.Test.YtmgfijllcdadgaaGreatDoorNW10
import Derived.Test.YtmgfijllcdadgaaGreatDoorNW11
import Derived.Orders
import Derived.RegionTactic
import Derived.WalkKit
import Derived.Laws.Tables
import Derived.Laws.CopyOwn
import Derived.Deep.WholeRow
set_option linter.unusedVariables false
set_option linter.unusedSimpArgs false
set_option maxHeartbeats 1000000
set_option maxRecDepth 100000
namespace Go.Proofs.YtmgfijllcdadgaaGreatDoor
open Go.RowKit
open Mk (St Bs Ev aD)
open Tryz
open Mk (bO jc jv bC rU)
variable {w:World}{b:Nat}{s:St}{L:Lay}{P:Program}{Q:Exit→Act→World→Prop}{o:Oper}
theorem Mv.pq{w0:World}{c:List Nat}(m:Mv w0 b c w s L)(d:Gl w0)(l:2+1<b)(f:2<w0.heap.size)(e:∀k∈c,b≤k+1):Gl w:=by
 have g:w.heap[1]?=w0.heap[1]?:=m.fr.block 1 (by omega) (by omega) (fun h=>by have:=e 1 h;omega);have j:w.heap[2]?=w0.heap[2]?:=m.fr.block 2 f (by omega) (fun h=>by have:=e 2 h;omega);exact⟨fun i=>by rw[←d.names i];exact World.cell?_of_block (a:=⟨1,i,none⟩) g,fun i=>by rw[←d.named i];exact World.cell?_of_block (a:=⟨2,i,none⟩) j⟩
theorem z_(h:aK w b s L)(d:Bd s)(x:Int)(n:0≤x)(u:x≤255)(A:Sl s)(B:(Mk.innermost s).length≤100000000)(o:Gl w)(C:2<b):
 Calls Tryz.prog 78 #[.pointer (some ⟨b,0,none⟩),.int .u8 x] w (Does w b s L (bO s x)):=by
 have F:=h.cell;have G:=h.lt;unfold cellsOf at F;have i:=h.start.alloc (.cells #[.int .i64 s.rp,.string ⟨s.rn.toArray⟩,.int .i64 s.rc] 89);have g:Gl (w.alloc (.cells #[.int .i64 s.rp,.string ⟨s.rn.toArray⟩,.int .i64 s.rc] 89)):=o.below (by omega) ((Below.refl _ _).alloc (Nat.le_refl _) _);have q:=aB i;have l:=aB (fun w=>uV s.rp s.rn s.rc w);by_cases pl:0<s.pl
 .have j:=aB (EW h x n u d.pt pl (Nat.le_trans d.hx (by decide)) (Nat.le_trans d.ht (by decide)) d.c0 (Int.le_trans d.c1 (by decide)));have f:bO s x=Mk.ja s x:=by simp[bO,pl]
  rw[f];clear f h d i o g l q;go_enter func78,ntmps78
  go_wp2_with(go_at_call 93;refine(aA j).mono ?_;rintro e w1 ⟨rfl,k,a⟩;have c:=aB a;clear a)
  go_ret;exact⟨rfl,k,aA c⟩
 have H:decide (0<s.pl)=false:=by simpa using pl
 by_cases t:Mk.isOpen s.rp=true
 .have m:Mk.isOpen s.rp=true:=t;clear t;have j:=aB (EX i.rd x n u g C (Nat.le_trans d.rn (by decide)) d.r0 d.r1 (Nat.le_trans d.hx (by decide)) (Nat.le_trans d.ht (by decide)) d.c0 (Int.le_trans d.c1 (by decide)) (fun r f=>⟨(vK n d.r0 f).1,(vK n d.r0 f).2.1⟩));have f:bO s x=Mk.iy s x:=by simp[bO,pl,m]
  rw[f];rw[m]at l;clear f h d i o g pl;go_enter func78,ntmps78
  go_wp2_with(first|(go_at_call 94;refine(aA l _).mono ?_;rintro e w2 ⟨rfl,rfl⟩)|(go_at_call 95;refine(aA j).mono ?_;rintro e w1 ⟨rfl,k,a⟩;have c:=aB a;clear a))
  go_ret;exact⟨rfl,k,(aA q).call (aA c)⟩
 have m:Mk.isOpen s.rp=false:=by simpa using t
 clear t;rw[m]at l;by_cases p:s.state=0
 ·
  have j:=aB (Fp i.rd x);have f:bO s x=Mk.iP s x:=by simp[bO,pl,m,p]
  rw[f];clear f h d i o g pl;go_enter func78,ntmps78
  go_wp2_with(first|(go_at_call 94;refine(aA l _).mono ?_;rintro e w2 ⟨rfl,rfl⟩)|(go_at_call 96;refine(aA j).mono ?_;rintro e w1 ⟨rfl,k,a⟩;have c:=aB a;clear a))
  go_ret;exact⟨rfl,k,(aA q).call (aA c)⟩
 have e0:(s.state==0)=false:=by rw[beq_eq_false_iff_ne];exact p
 clear p;by_cases p:s.state=1
 ·
  have j:=aB (Fq i.rd d x n u);have f:bO s x=Mk.fw s x:=by simp[bO,pl,m,e0,p]
  rw[f];clear f h d i o g pl;go_enter func78,ntmps78
  go_wp2_with(first|(go_at_call 94;refine(aA l _).mono ?_;rintro e w2 ⟨rfl,rfl⟩)|(go_at_call 97;refine(aA j).mono ?_;rintro e w1 ⟨rfl,k,a⟩;have c:=aB a;clear a))
  go_ret;exact⟨rfl,k,(aA q).call (aA c)⟩
 have v:(s.state==1)=false:=by rw[beq_eq_false_iff_ne];exact p
 clear p;by_cases p:s.state=2
 ·
  have j:=aB (Fs i.rd d x n u);have f:bO s x=Mk.gq s x:=by simp[bO,pl,m,e0,v,p]
  rw[f];clear f h d i o g pl;go_enter func78,ntmps78
  go_wp2_with(first|(go_at_call 94;refine(aA l _).mono ?_;rintro e w2 ⟨rfl,rfl⟩)|(go_at_call 98;refine(aA j).mono ?_;rintro e w1 ⟨rfl,k,a⟩;have c:=aB a;clear a))
  go_ret;exact⟨rfl,k,(aA q).call (aA c)⟩
 have z:(s.state==2)=false:=by rw[beq_eq_false_iff_ne];exact p
 clear p;by_cases p:s.state=7
 ·
  have j:=aB (QG i.rd d x n u);have f:bO s x=Mk.gN s x:=by simp[bO,pl,m,e0,v,z,p]
  rw[f];clear f h d i o g pl;go_enter func78,ntmps78
  go_wp2_with(first|(go_at_call 94;refine(aA l _).mono ?_;rintro e w2 ⟨rfl,rfl⟩)|(go_at_call 99;refine(aA j).mono ?_;rintro e w1 ⟨rfl,k,a⟩;have c:=aB a;clear a))
  go_ret;exact⟨rfl,k,(aA q).call (aA c)⟩
 have D:(s.state==7)=false:=by rw[beq_eq_false_iff_ne];exact p
 clear p;by_cases p:s.state=11
 ·
  have j:=aB (zw i.rd d x n u);have f:bO s x=Mk.fu s x:=by simp[bO,pl,m,e0,v,z,D,p]
  rw[f];clear f h d i o g pl;go_enter func78,ntmps78
  go_wp2_with(first|(go_at_call 94;refine(aA l _).mono ?_;rintro e w2 ⟨rfl,rfl⟩)|(go_at_call 100;refine(aA j).mono ?_;rintro e w1 ⟨rfl,k,a⟩;have c:=aB a;clear a))
  go_ret;exact⟨rfl,k,(aA q).call (aA c)⟩
 have y:(s.state==11)=false:=by rw[beq_eq_false_iff_ne];exact p
 clear p;by_cases p:s.state=17
 ·
  have j:=aB (FM i.rd d x n u);have f:bO s x=Mk.fC s x:=by simp[bO,pl,m,e0,v,z,D,y,p]
  rw[f];clear f h d i o g pl;go_enter func78,ntmps78
  go_wp2_with(first|(go_at_call 94;refine(aA l _).mono ?_;rintro e w2 ⟨rfl,rfl⟩)|(go_at_call 101;refine(aA j).mono ?_;rintro e w1 ⟨rfl,k,a⟩;have c:=aB a;clear a))
  go_ret;exact⟨rfl,k,(aA q).call (aA c)⟩
 have E:(s.state==17)=false:=by rw[beq_eq_false_iff_ne];exact p
 clear p;have j:=aB (QN i.rd d x n u A B);have f:bO s x=Mk.dP s x:=by simp[bO,pl,m,e0,v,z,D,y,E]
 rw[f];clear f h d i o g pl;go_enter func78,ntmps78
 go_wp2_with(first|(go_at_call 94;refine(aA l _).mono ?_;rintro e w2 ⟨rfl,rfl⟩)|(go_at_call 102;refine(aA j).mono ?_;rintro e w1 ⟨rfl,k,a⟩;have c:=aB a;clear a))
 go_ret;exact⟨rfl,k,(aA q).call (aA c)⟩
theorem Aa(h:aK w b s L)(x:Int)(j:0≤s.line)(k:s.line≤1000000000)(l:0≤s.column)(m:s.column≤1000000000):
 Calls Tryz.prog 79 #[.pointer (some ⟨b,0,none⟩),.int .u8 x] w fun e w' =>e=.returned (.tuple #[])∧Mv w b (aJ s L) w' (jc s x) L:=by
 have g:=h.cell;have n:=h.frozen;have i:=h.lt;have c:=aB h;unfold cellsOf at g;clear h;cases d:(x==10)
 .cases f:(s.pl==0)
  .have a:jc s x=s:=by simp[jc,d,f]
   rw[a];clear a;go_enter func79,ntmps79
   go_wp2
   go_end0
   exact⟨rfl,(aA c).start⟩
  have a:jc s x={s with column:=s.column+1}:=by simp[jc,d,f]
  rw[a];clear a;go_enter func79,ntmps79
  go_wp2
  go_end0
  exact⟨rfl,(aA c).start.store 25 _ _ rfl rfl rfl⟩
 have a:jc s x={s with line:=s.line+1,column:=1}:=by simp[jc,d]
 rw[a];clear a;go_enter func79,ntmps79
 go_wp2
 go_end0
 exact⟨rfl,((aA c).start.store 24 _ {s with line:=s.line+1} rfl rfl rfl).store 25 _ _ rfl rfl rfl⟩
theorem lu{k:Nat}(h:aK w b s L)(j:Inv k s)(K:k≤90000000)(x:Int)(Q:0≤x)(R:x≤255)(M:Gl w)(D:2+1<b):
 Calls Tryz.prog 55 #[.pointer (some ⟨b,0,none⟩),.int .u8 x] w (Does w b s L (Mk.read s x)):=by
 have X:=h.cell;have hf:=h.frozen;have Y:=h.lt;have A:=h.dF;have r:=h.start.store 23 (.bool true) {s with ret:=true} rfl rfl rfl;have t:=h.start.store 23 (.bool false) {s with ret:=false} rfl rfl rfl;have E:=r.pq M D (by omega) (fun k K=>(A k K).1);have F:=t.pq M D (by omega) (fun k K=>(A k K).1);have Z:=j.hl;have N:=zX j;have G:=aB (z_ r.rd (Inv.bd (s:={s with ret:=true}) (k:=k) {j with} (by omega)) 10 (by decide) (by decide) ⟨by show s.list.length+500≤_;omega,by show s.aG.length+40≤_;have:=j.hb;omega,by show s.cnt.length+1≤_;have:=j.hc;omega⟩ (by show(Mk.innermost s).length≤_;omega) E (by omega));have C:=aB (z_ t.rd (Inv.bd (s:={s with ret:=false}) (k:=k) {j with} (by omega)) x Q R ⟨by show s.list.length+500≤_;omega,by show s.aG.length+40≤_;have:=j.hb;omega,by show s.cnt.length+1≤_;have:=j.hc;omega⟩ (by show(Mk.innermost s).length≤_;omega) F (by omega));have H:=vM (k:=k) (s:={s with ret:=true}) {j with} 10 (by decide) (by decide);have l:=vM (k:=k) (s:={s with ret:=false}) {j with} x Q R;have u:=aB (fun(W:World) (L' :Lay) (O:aK W b (bO {s with ret:=true} 10).1 L')=>Aa O 10 H.l0 (by have:=H.l1;omega) H.mM (by have:=H.mO;omega));have v:=aB (fun(W:World) (L' :Lay) (O:aK W b (bO {s with ret:=false} x).1 L')=>Aa O x l.l0 (by have:=l.l1;omega) l.mM (by have:=l.mO;omega));have I:=aB r;have m:=aB t;have n:jv {s with ret:=true} 10=if(bO {s with ret:=true} 10).2=0 then(jc (bO {s with ret:=true} 10).1 10,0)else bO {s with ret:=true} 10:=rfl
 have g:jv {s with ret:=false} x=if(bO {s with ret:=false} x).2=0 then(jc (bO {s with ret:=false} x).1 x,0)else bO {s with ret:=false} x:=rfl
 unfold cellsOf at X;clear h j M r t E F A Z N H l;generalize bO {s with ret:=true} 10=rt at *;generalize bO {s with ret:=false} x=rf at *;obtain⟨a0,B⟩:=rt;obtain⟨a1,i⟩:=rf;cases S:(x==10)
 .have y:x≠10:=by simpa using S
  cases P:(x==13)
  .have J:x≠13:=by simpa using P
   have o:Mk.read s x=jv {s with ret:=false} x:=by simp[Mk.read,y,J]
   rw[o,g];clear o y J G u n g;cases z:(i==0)
   .have d:i≠0:=by simpa using z
    rw[if_neg d];clear d;go_enter func55,ntmps55
    go_wp2_with(go_at_call 78;refine(aA C).mono ?_;rintro e w1 ⟨rfl,p,a⟩;have c:=aB a;clear a)
    go_ret;exact⟨rfl,p,(aA m).call (aA c)⟩
   have d:i=0:=by simpa using z
   rw[if_pos d];subst d;go_enter func55,ntmps55
   go_wp2_with(first
    |(go_at_call 78;refine(aA C).mono ?_;rintro e w1 ⟨rfl,p,a⟩;have c:=aB a;clear a)
    |(go_at_call 79;refine(aA v _ _ (aA c).rd).mono ?_;rintro e w2 ⟨rfl,f⟩;have q:=aB f;clear f))
   go_ret;exact⟨rfl,p,((aA m).call (aA c)).call (aA q)⟩
  have J:x=13:=by simpa using P
  have o:Mk.read s x=jv {s with ret:=true} 10:=by simp[Mk.read,J]
  rw[o,n];clear o y J C v n g;cases z:(B==0)
  .have d:B≠0:=by simpa using z
   rw[if_neg d];clear d;go_enter func55,ntmps55
   go_wp2_with(go_at_call 78;refine(aA G).mono ?_;rintro e w1 ⟨rfl,p,a⟩;have c:=aB a;clear a)
   go_ret;exact⟨rfl,p,(aA I).call (aA c)⟩
  have d:B=0:=by simpa using z
  rw[if_pos d];subst d;go_enter func55,ntmps55
  go_wp2_with(first
   |(go_at_call 78;refine(aA G).mono ?_;rintro e w1 ⟨rfl,p,a⟩;have c:=aB a;clear a)
   |(go_at_call 79;refine(aA u _ _ (aA c).rd).mono ?_;rintro e w2 ⟨rfl,f⟩;have q:=aB f;clear f))
  go_ret;exact⟨rfl,p,((aA I).call (aA c)).call (aA q)⟩
 have y:x=10:=by simpa using S
 have P:(x==13)=false:=by simp[y]
 cases T:s.ret
 .have o:Mk.read s x=jv {s with ret:=false} x:=by simp[Mk.read,y,T]
  rw[o,g];clear o y G u n g;cases z:(i==0)
  .have d:i≠0:=by simpa using z
   rw[if_neg d];clear d;go_enter func55,ntmps55
   go_wp2_with(go_at_call 78;refine(aA C).mono ?_;rintro e w1 ⟨rfl,p,a⟩;have c:=aB a;clear a)
   go_ret;exact⟨rfl,p,(aA m).call (aA c)⟩
  have d:i=0:=by simpa using z
  rw[if_pos d];subst d;go_enter func55,ntmps55
  go_wp2_with(first
   |(go_at_call 78;refine(aA C).mono ?_;rintro e w1 ⟨rfl,p,a⟩;have c:=aB a;clear a)
   |(go_at_call 79;refine(aA v _ _ (aA c).rd).mono ?_;rintro e w2 ⟨rfl,f⟩;have q:=aB f;clear f))
  go_ret;exact⟨rfl,p,((aA m).call (aA c)).call (aA q)⟩
 have o:Mk.read s x=({s with ret:=false},0):=by simp[Mk.read,y,T]
 rw[o];clear o y G C u v n g;go_enter func55,ntmps55
 go_wp2
 go_ret;exact⟨rfl,L,aA m⟩
def idle(ops:Array Oper)(listed:Array Bool):Nat:=((List.range ops.size).filter fun i=> !listed.getD i true).length
theorem Ab{b:Array Oper}{a:Array Bool}{i:Nat}(g:a.getD i true=false)(l:i<b.size):idle b (a.setIfInBounds i true)+1≤idle b a:=by
 unfold idle;have e:i<a.size:=by
  by_cases h:i<a.size
  .exact h
  simp[Array.getD,h]at g
 have c:∀j,(!(a.setIfInBounds i true).getD j true)=((!a.getD j true)&&decide (j≠i)):=by
  intro j;by_cases f:j=i
  .subst f;simp[Array.getD,e]
  rw[getD_set_ne true (fun h=>f h.symm)];simp[f]
 have m:((List.range b.size).filter fun j=> !(a.setIfInBounds i true).getD j true)=((List.range b.size).filter fun j=> !a.getD j true).filter fun j=>decide (j≠i):=by
  rw[List.filter_filter];congr 1
  funext j;rw[c j,Bool.and_comm]
 rw[m];have d:i∈(List.range b.size).filter fun j=> !a.getD j true:=by
  rw[List.mem_filter,List.mem_range,g];exact⟨l,rfl⟩
 have k:(((List.range b.size).filter fun j=> !a.getD j true).filter fun j=>decide (j≠i)).length<((List.range b.size).filter fun j=> !a.getD j true).length:=List.length_filter_lt_length_iff_exists.2 ⟨i,d,by simp⟩;omega
theorem Hy{g:Region.Mode}{c:Array Oper}(J:Array Bool→Act→World→Prop)
 (f:∀(b:Array Bool) (a:Act) (w:World) (i:Nat),J b a w→i∈Region.ready g c b→wpOp P c Q i (J (b.setIfInBounds i true)) a w)
 (e:∀(b:Array Bool) (a:Act) (w:World),J b a w→Region.ready g c b=[]→Q .normal a w):
 ∀(d:Nat) (b:Array Bool) (a:Act) (w:World),J b a w→idle c b≤d→wpAny P g c Q d b a w:=by
 intro d;induction d with
 |zero=>
  intro b a w j p;have m:Region.ready g c b=[]:=by
   cases h:Region.ready g c b with
   |nil=>rfl
   |cons i r=>
    have q:i∈Region.ready g c b:=by rw[h];exact List.mem_cons_self
    obtain⟨k,o,l,_⟩:=mem_ready.1 q;have:=Ab k (Array.getElem?_eq_some_iff.1 l).1;omega
  exact⟨m,e _ _ _ j m⟩
 |succ d ih=>
  intro b a w j p;refine⟨e _ _ _ j,fun i n=>?_⟩;obtain⟨k,o,l,_⟩:=mem_ready.1 n;have hd:=Ab k (Array.getElem?_eq_some_iff.1 l).1;exact wpOp_mono (fun t w' s=>ih _ _ _ s (by omega)) (f _ _ _ _ j n)
theorem Hz(a:Array Oper):idle a (Array.replicate a.size false)≤a.size:=by
 unfold idle;exact Nat.le_trans (List.length_filter_le _ _) (by simp)
section
variable {P:Program}{ops:Array Oper}{Q:Exit→Act→World→Prop}{K:Act→World→Prop}{a:Act}{w w' :World}{i:Nat}{o:Oper}
theorem Ac(b:ops[i]?=some o)(c:o.guard=none)(v:Value)(d:(execOp a.eval o).run P w=.ok (.value v) w')(e:K (a.put o.dst v) w'):wpOp P ops Q i K a w:=by
 unfold wpOp;rw[b];have f:Region.wanted o (yielded ops a.tmps)=true:=by simp[Region.wanted,c]
 simp only[f,if_true];refine .inl ?_;unfold Oper.wp;rw[d];exact e
theorem Rb(c:ops[i]?=some o)(d:o.guard=none)(f:FuncId)(b:Array Value)(g:(execOp a.eval o).run P w=.ok (.enter f b) w)(h:Calls P f b w fun e w' =>∃v,e=.returned v∧K (a.put o.dst v) w'):wpOp P ops Q i K a w:=by
 unfold wpOp;rw[c];have j:Region.wanted o (yielded ops a.tmps)=true:=by simp[Region.wanted,d]
 simp only[j,if_true];refine .inl ?_;unfold Oper.wp;rw[g];refine h.mono ?_;rintro e w1 ⟨v,rfl,k⟩;exact k
theorem Rc{d:Region.Mode}{a:Array Bool}(k:a.size=ops.size)(b:∀(i:Nat) (o:Oper),ops[i]?=some o→∀e∈o.after,e.on<i)(g:Region.ready d ops a=[]):∀i,i<ops.size→a.getD i false=true:=by
 intro i;induction i using Nat.strongRecOn with
 |ind i ih=>
  intro j;have hd:a.getD i true=a.getD i false:=by
   have:i<a.size:=by omega
   simp[this]
  cases h:a.getD i false with
  |true=>rfl
  |false=>
   have c:ops[i]?=some ops[i]:=Array.getElem?_eq_getElem j;have:i∈Region.ready d ops a:=mem_ready.2 ⟨by rw[hd,h],ops[i],c,fun e f _=>ih e.on (b i _ c e f) (by have:=b i _ c e f;omega)⟩;rw[g]at this;cases this
theorem Re(h:((List.range ops.size).all fun i=>match ops[i]? with|some o=>o.after.toList.all (fun e=>decide (e.on<i))|none=>true)=true):∀(i:Nat) (o:Oper),ops[i]?=some o→∀e∈o.after,e.on<i:=by
 intro i o a e c;have d:=(Array.getElem?_eq_some_iff.1 a).1;have b:=List.all_eq_true.1 h i (List.mem_range.2 d);simp only[a]at b;have f:=List.all_eq_true.1 b e (Array.mem_toList_iff.2 c);simpa using f
theorem vN(a:Act)(d:Nat)(v:Value)(k:Nat)(hd:d<a.tmps.size):(a.put (some d) v).tmps.getD k undef=if k=d then v else a.tmps.getD k undef:=by
 unfold Act.put;by_cases h:k=d
 .subst h;simp[hd]
 have b:d≠k:=fun e=>h e.symm
 simp[h,Array.getElem?_setIfInBounds_ne b]
end
def nK:Array Value:=#[.string ⟨Mk.qf.toArray⟩,.string ⟨Mk.iN.toArray⟩]
theorem Rh:(Tryz.prog.info? 85).map (·.size)=some 2:=by kernel_rfl
theorem heap_alloc2_old(w:World)(a b:Obj):((w.alloc a).alloc b).heap[w.heap.size]?=some a:=
 (Below.heap_alloc _ _ _ (by simp)).trans (heap_alloc_new w a)
theorem H_(w:World):Calls Tryz.prog 77 #[] w fun e w' =>e=.returned (.agg #[.slice (some ⟨w.heap.size+1,0,none⟩) 1 1,.slice none 0 0])∧w' =(w.alloc (.cells #[.slice (some ⟨w.heap.size+1,0,none⟩) 1 1,.slice none 0 0] 85)).alloc (.cells nK 139):=by
 go_enter func77,ntmps77
 go_wp2
 exact bodyPost_ret (v:=.agg #[.slice (some ⟨w.heap.size+1,0,none⟩) 1 1,.slice none 0 0]) (results_cell_row rfl _ _ w.heap.size 85 #[.slice (some ⟨w.heap.size+1,0,none⟩) 1 1,.slice none 0 0] (0,0) _ rfl (heap_alloc2_old w _ _) underlying85 rfl Rh) rfl ⟨rfl,rfl⟩
def iQ(d a t:Int)(n:Bool)(g:Nat):Array Value:=
 #[.int .i64 d,.int .i64 a,.int .i64 t,.bool n,.int .i64 0,.slice none 0 0,.bool false,.slice (some ⟨g,0,none⟩) 1 1,.slice none 0 0,.slice none 0 0,.int .i64 0,.string ⟨#[]⟩,.string ⟨#[]⟩,.slice none 0 0,.int .u8 0,.string ⟨#[]⟩,
  .int .i64 0,.int .i64 0,.int .i64 0,.int .i64 0,.int .i64 0,.string ⟨#[]⟩,.int .i64 0,.bool false,.int .i64 1,.int .i64 1,.slice none 0 0,.slice none 0 0]
def vO:Array Value:=
 #[.int .i64 0,.int .i64 0,.int .i64 0,.bool false,.int .i64 0,.slice none 0 0,.bool false,.slice none 0 0,.slice none 0 0,.slice none 0 0,.int .i64 0,.string ⟨#[]⟩,.string ⟨#[]⟩,.slice none 0 0,.int .u8 0,.string ⟨#[]⟩,
  .int .i64 0,.int .i64 0,.int .i64 0,.int .i64 0,.int .i64 0,.string ⟨#[]⟩,.int .i64 0,.bool false,.int .i64 0,.int .i64 0,.slice none 0 0,.slice none 0 0]
theorem wpList_build{b:Array Oper}{rest:List Oper}{a:Act}(c:o.guard=none)(d:TypeId)(ps:Array (Nat×Operand))(e:o.op=.build d ps)(v:Value)
 (f:∀w,(Instr.build d (ps.map fun(i,x)=>(i,a.eval x))).run P w=.ok v w) (h:wpList P b Q rest (a.put o.dst v) w):wpList P b Q (o::rest) a w:=
 wpList_plain c fun _ g=>by
  unfold Oper.wp execOp;simp only[e,f,Sem.run_bind,Sem.run_pure,Result.andThen_ok];exact g _ _ h
theorem Ad:(Tryz.prog.info? 93).map (·.size)=some 28:=by kernel_rfl
theorem Ia{b:Array Oper}{K:Act→World→Prop}{a:Act}{w' :World}{i:Nat}(c:b[i]?=some o)(d:o.guard=none)(hd:o.dst=none)(e:(execOp a.eval o).run P w=.ok .skip w')(f:K a w'):wpOp P b Q i K a w:=by
 unfold wpOp;rw[c];have g:Region.wanted o (yielded b a.tmps)=true:=by simp[Region.wanted,d]
 simp only[g,if_true];refine .inl ?_;unfold Oper.wp;rw[e,Oper.upon_skip,hd];exact f
structure Ib(w:World)(d a t:Int)(n:Bool)(listed:Array Bool)(x:Act)(wx:World):Prop where
 sz:listed.size=4
 nL:x.tmps.size=6
 df:x.defers=[]
 p1:x.tmps.getD 1 undef=.pointer (some ⟨w.heap.size,0,none⟩)
 p2:x.tmps.getD 2 undef=.pointer (some ⟨w.heap.size+1,0,none⟩)
 aU:Below w.heap.size w wx
 o:wx.heap[w.heap.size]?=some (.cells #[.int .i64 d,.int .i64 a,.int .i64 t,.bool n] 40 (0,0))
 l0:listed.getD 0 false=true→x.tmps.getD 3 undef=.agg #[.int .i64 d,.int .i64 a,.int .i64 t,.bool n]
 l1:listed.getD 1 false=true→x.tmps.getD 4 undef=.agg #[.slice (some ⟨w.heap.size+3,0,none⟩) 1 1,.slice none 0 0]∧wx.heap.size=w.heap.size+4∧wx.heap[w.heap.size+3]?=some (.cells nK 139 (0,0))
 n1:listed.getD 1 false=false→wx.heap.size=w.heap.size+2
 l2:listed.getD 2 false=true→x.tmps.getD 5 undef=.agg (iQ d a t n (w.heap.size+3))
 l3:listed.getD 3 false=true→wx.heap[w.heap.size+1]?=some (.cells (iQ d a t n (w.heap.size+3)) 93 (0,0))
 n3:listed.getD 3 false=false→wx.heap[w.heap.size+1]?=some (.cells vO 93 (0,0))
theorem sN{l:Array Bool}(h:l.size=4)(i k:Nat)(a:i<4):(l.setIfInBounds i true).getD k false=if k=i then true else l.getD k false:=by
 by_cases e:k=i
 .subst e;simp[h,a]
 rw[getD_set_ne false (fun q=>e q.symm),if_neg e]
theorem Ic(d a t:Int)(n:Bool)(w:World):
 Calls Tryz.prog 54 #[.agg #[.int .i64 d,.int .i64 a,.int .i64 t,.bool n]] w fun e w' =>e=.returned (.agg (iQ d a t n (w.heap.size+3)))∧w'.heap.size=w.heap.size+4∧Below w.heap.size w w' ∧w'.heap[w.heap.size+3]?=some (.cells nK 139 (0,0)):=by
 go_enter func54,ntmps54
 go_wp2_with fail
 refine wp_region_any (by kernel_rfl) ?_;refine Hy (Ib w d a t n) ?step ?done _ _ _ _ ?start (Hz _);case start=>
  refine⟨rfl,rfl,rfl,rfl,rfl,?_,heap_alloc2_old w _ _,?_,?_,?_,?_,?_,?_⟩
  .have:Below w.heap.size w ((w.alloc (.cells #[.int .i64 d,.int .i64 a,.int .i64 t,.bool n] 40)).alloc (.cells vO 93)):=((Below.refl _ _).alloc (Nat.le_refl _) _).alloc (by simp) _;exact⟨this.os,this.tape,this.output,this.size,this.block⟩
  .intro h;exact absurd h (by decide)
  .intro h;exact absurd h (by decide)
  .intro _;simp
  .intro h;exact absurd h (by decide)
  .intro h;exact absurd h (by decide)
  intro _;exact heap_alloc2_new w _ _
 case done=>
  intro c x g b R;have z:=Rc (by rw[b.sz];rfl) ?dag R;case dag=>exact Re (by kernel_rfl)
  have F:=b.l3 (z 3 (by decide));have B:=b.l1 (z 1 (by decide));rename_i Q1 S G;show S x g;apply G;go_wp2
  exact bodyPost_ret (v:=.agg (iQ d a t n (w.heap.size+3))) (results_cell_row rfl _ _ (w.heap.size+1) 93 (iQ d a t n (w.heap.size+3)) (0,0) _ b.p2 F underlying93 rfl Ad) b.df ⟨rfl,B.2.1,b.aU,B.2.2⟩
 case step=>
  intro c x g i b C;obtain⟨s,o,u,l⟩:=mem_ready.1 C;have T:i<4:=(Array.getElem?_eq_some_iff.1 u).1;have H:i=0∨i=1∨i=2∨i=3:=by omega
  clear C;rcases H with rfl|rfl|rfl|rfl;all_goals
   have f:=Option.some.inj u;have D:o.guard=none:=by rw[←f];rfl
  .have X:x.eval (.tmp 1)=.pointer (some ⟨w.heap.size,0,none⟩):=b.p1;have I:(Instr.loadAt 40 (.pointer (some ⟨w.heap.size,0,none⟩))).run Tryz.prog g=.ok (.agg #[.int .i64 d,.int .i64 a,.int .i64 t,.bool n]) g:=by
    have E:=run_loadVar_row (P:=Tryz.prog) g w.heap.size 40 40 #[.int .i64 d,.int .i64 a,.int .i64 t,.bool n] (0,0) _ b.o underlying40 rfl (by kernel_rfl);unfold Instr.loadAt;simp[Instr.sureAddr,E]
   refine Ac u D (.agg #[.int .i64 d,.int .i64 a,.int .i64 t,.bool n]) (w' :=g) ?_ ?_
   .have j:o.op=.load 40 (.tmp 1):=by rw[←f];rfl
    unfold execOp;simp only[j,X,Sem.run_bind,I,Sem.run_pure,Result.andThen_ok]
   have hd:o.dst=some 3:=by rw[←f];rfl
   rw[hd];have A:=vN x 3 (.agg #[.int .i64 d,.int .i64 a,.int .i64 t,.bool n]);have r:=fun k=>sN b.sz 0 k (by decide)
   refine⟨by simp[b.sz],by simp[Act.put,b.nL],b.df,?_,?_,b.aU,b.o,?_,?_,?_,?_,?_,?_⟩;all_goals try simp only[r,A _ (by rw[b.nL];decide)]
   .exact b.p1
   .exact b.p2
   .intro _;rfl
   .exact b.l1
   .exact b.n1
   .exact b.l2
   .exact b.l3
   exact b.n3
  .have B:c.getD 1 false=false:=by
    cases y:c.getD 1 false
    .rfl
    rw[show c.getD 1 true=c.getD 1 false from by simp[b.sz]]at s;rw[y]at s;cases s
   have m:=b.n1 B;refine Rb u D 77 #[] ?_ ((H_ g).mono ?_)
   .have j:o.op=.call {callee:=.value (.func 77),args:=#[],argTypes:=#[]}:=by rw[←f];rfl
    unfold execOp;simp[j,resolve,invoke,Act.eval,Deferred.ofValue,callFunc];rw[if_neg (by decide),if_neg (fun h=>by cases h)]
   rintro e w7 ⟨rfl,rfl⟩;refine⟨_,rfl,?_⟩;have hd:o.dst=some 4:=by rw[←f];rfl
   rw[hd];have A:=vN x 4 (.agg #[.slice (some ⟨g.heap.size+1,0,none⟩) 1 1,.slice none 0 0]);have r:=fun k=>sN b.sz 1 k (by decide)
   have p:∀k,k<w.heap.size+2→((g.alloc (.cells #[.slice (some ⟨g.heap.size+1,0,none⟩) 1 1,.slice none 0 0] 85)).alloc (.cells nK 139)).heap[k]?=g.heap[k]?:=fun k hk=>by
    rw[Below.heap_alloc _ _ _ (by simp;omega),Below.heap_alloc _ _ _ (by omega)]
   refine⟨by simp[b.sz],by simp[Act.put,b.nL],b.df,?_,?_,?_,?_,?_,?_,?_,?_,?_,?_⟩;all_goals try simp only[r,A _ (by rw[b.nL];decide)]
   .exact b.p1
   .exact b.p2
   .exact(b.aU.alloc (by omega) _).alloc (by simp;omega) _
   .rw[p _ (by omega)];exact b.o
   .exact b.l0
   .intro _;refine⟨by rw[m];rfl,by simp[m],?_⟩;have:=heap_alloc2_new g (.cells #[.slice (some ⟨g.heap.size+1,0,none⟩) 1 1,.slice none 0 0] 85) (.cells nK 139);rw[m]at this;rw[m];exact this
   .intro h;cases h
   .exact b.l2
   .intro h;rw[p _ (by omega)];exact b.l3 h
   intro h;rw[p _ (by omega)];exact b.n3 h
  .have Y:=b.l0 (l ⟨0,.data⟩ (by rw[←f];simp) rfl);have N:=(b.l1 (l ⟨1,.data⟩ (by rw[←f];simp) rfl)).1;have e0:x.eval (.tmp 3)=.agg #[.int .i64 d,.int .i64 a,.int .i64 t,.bool n]:=Y;have Z:x.eval (.tmp 4)=.agg #[.slice (some ⟨w.heap.size+3,0,none⟩) 1 1,.slice none 0 0]:=N;have c0:∀v,x.eval (.const v)=v:=fun _=>rfl
   have J:∀w', (Instr.build 93 #[(0,.agg #[.int .i64 d,.int .i64 a,.int .i64 t,.bool n]),(1,.int .i64 0),(4,.agg #[.slice (some ⟨w.heap.size+3,0,none⟩) 1 1,.slice none 0 0]),(17,.int .i64 1),(18,.int .i64 1)]).run Tryz.prog w' =.ok (.agg (iQ d a t n (w.heap.size+3))) w' :=fun _=>by kernel_rfl
   refine Ac u D (.agg (iQ d a t n (w.heap.size+3))) (w' :=g) ?_ ?_
   .have j:o.op=.build 93 #[(0,.tmp 3),(1,.const (.int .i64 0)),(4,.tmp 4),(17,.const (.int .i64 1)),(18,.const (.int .i64 1))]:=by rw[←f];rfl
    unfold execOp;simp only[j,List.map_toArray,List.map_cons,List.map_nil,e0,Z,c0,Sem.run_bind,J,Sem.run_pure,Result.andThen_ok]
   have hd:o.dst=some 5:=by rw[←f];rfl
   rw[hd];have A:=vN x 5 (.agg (iQ d a t n (w.heap.size+3)));have r:=fun k=>sN b.sz 2 k (by decide)
   refine⟨by simp[b.sz],by simp[Act.put,b.nL],b.df,?_,?_,b.aU,b.o,?_,?_,?_,?_,?_,?_⟩;all_goals try simp only[r,A _ (by rw[b.nL];decide)]
   .exact b.p1
   .exact b.p2
   .exact b.l0
   .exact b.l1
   .exact b.n1
   .intro _;rfl
   .exact b.l3
   exact b.n3
  have a2:=b.l2 (l ⟨2,.data⟩ (by rw[←f];simp) rfl);have N:=b.l1 (l ⟨1,.phase⟩ (by rw[←f];simp) rfl);have F:c.getD 3 false=false:=by
   cases y:c.getD 3 false
   .rfl
   rw[show c.getD 3 true=c.getD 3 false from by simp[b.sz]]at s;rw[y]at s;cases s
  have O:=b.n3 F;have e2:x.eval (.tmp 2)=.pointer (some ⟨w.heap.size+1,0,none⟩):=b.p2;have e5:x.eval (.tmp 5)=.agg (iQ d a t n (w.heap.size+3)):=a2;have K:(Instr.storeAt 93 (.pointer (some ⟨w.heap.size+1,0,none⟩)) (.agg (iQ d a t n (w.heap.size+3)))).run Tryz.prog g=.ok () (g.setRow (w.heap.size+1) (iQ d a t n (w.heap.size+3))):=by
   have E:=run_storeCells_from (P:=Tryz.prog) (w.heap.size+1) 93 (iQ d a t n (w.heap.size+3)).toList 0 vO g O rfl (by intro v Q;simp[iQ]at Q;rcases Q with rfl|rfl|rfl|rfl|rfl|rfl|rfl|rfl|rfl|rfl|rfl|rfl|rfl|rfl|rfl|rfl|rfl|rfl|rfl|rfl|rfl|rfl|rfl|rfl|rfl|rfl|rfl|rfl<;>rfl);have C:∃q,Tryz.prog.info? 93=some q∧q.size=28:=by
    have:=Ad;cases y:Tryz.prog.info? 93 with
    |none=>rw[y]at this;cases this
    |some q=>exact⟨q,rfl,by rw[y]at this;simpa using this⟩
   obtain⟨q,L,M⟩:=C;have m:(iQ d a t n (w.heap.size+3)).size=28:=rfl;simp only[List.take_zero,List.nil_append,Array.toArray_toList]at E;unfold Instr.storeAt;simp[Instr.sureAddr,storeVar,sizeOf,typeInfo,L,M,Value.cells,m,E]
  refine Ia u D (by rw[←f];rfl) (w' :=g.setRow (w.heap.size+1) (iQ d a t n (w.heap.size+3))) ?_ ?_
  .have j:o.op=.store 93 (.tmp 2) (.tmp 5):=by rw[←f];rfl
   unfold execOp;simp only[j,e2,e5,Sem.run_bind,K,Sem.run_pure,Result.andThen_ok]
  have r:=fun k=>sN b.sz 3 k (by decide)
  refine⟨by simp[b.sz],b.nL,b.df,b.p1,b.p2,below_setRow b.aU (by omega) _,?_,?_,?_,?_,?_,?_,?_⟩
  .rw[setRow_other _ _ _ _ (by omega)];exact b.o
  all_goals try simp only[r]
  .exact b.l0
  .intro h;have:=b.l1 h;refine⟨this.1,by simp[this.2.1],?_⟩;rw[setRow_other _ _ _ _ (by omega)];exact this.2.2
  .intro h;simp;exact b.n1 h
  .exact b.l2
  .intro _;exact setRow_heap _ _ _ _ _ _ O
  intro h;cases h
def L0(b:Nat):Lay:=⟨none,0,none,0,none,0,none,0,none,0,some ⟨b - 1,0,none⟩,1,none,0,[]⟩
theorem qE(d a t:Int)(n:Bool)(b:Nat):aJ (bC d a t n) (L0 b)=[b - 1]:=rfl
def vP(d a t:Int)(n:Bool)(g:Nat):Array Value:=iQ d a t n g++#[.int .i64 0,.int .i64 0]
theorem sO(w:World)(d a t:Int)(n:Bool)(g:Nat)(f:w.heap.size=g+1)(e:w.heap[g]?=some (.cells nK 139 (0,0))):aK (w.alloc (.cells (vP d a t n g) 95)) w.heap.size (bC d a t n) (L0 w.heap.size):=by
 have b:w.heap.size - 1=g:=by omega
 refine⟨?_,⟨?_,?_⟩,rfl,?_⟩
 .have:(cellsOf (bC d a t n) (L0 w.heap.size)).toArray=vP d a t n g:=by simp only[L0,b];rfl
  rw[this];exact heap_alloc_new w _
 .intro r c;simp only[rowsOf,List.mem_cons]at c;rcases c with rfl|rfl|rfl|rfl|rfl|rfl|rfl|c
  .exact jw ⟨rfl,rfl,rfl⟩
  .exact jw ⟨rfl,rfl,rfl⟩
  .exact jw ⟨rfl,rfl,rfl⟩
  .exact jw ⟨rfl,rfl,rfl⟩
  .exact jw ⟨rfl,rfl,rfl⟩
  .refine⟨rfl,.inr ⟨g,1,nK,?_,by omega,?_,Nat.le_refl _,by decide,rfl,rfl⟩⟩
   .show Value.slice (some ⟨w.heap.size - 1,0,none⟩) 1 1=_;rw[b];rfl
   rw[Below.heap_alloc _ _ _ (by omega)];exact e
  .exact jw ⟨rfl,rfl,rfl⟩
  cases c
 .show([w.heap.size - 1]:List Nat).Nodup;simp
 rw[qE];simp;omega
theorem Ie(d a t:Int)(n:Bool)(b:1≤d)(c:d≤64)(f:0≤a)(g:a≤32)(h:8≤t)(i:t≤1024)(w:World):
 Calls Tryz.prog 53 #[.agg #[.int .i64 d,.int .i64 a,.int .i64 t,.bool n]] w fun e w' =>e=.returned (.bool true)∧w' =w.alloc (.cells #[.int .i64 d,.int .i64 a,.int .i64 t,.bool n] 40):=by
 go_enter func53,ntmps53
 go_wp2
 go_ret;exact⟨rfl,rfl⟩
theorem vQ(d a t:Int)(n:Bool)(j:1≤d)(k:d≤64)(l:0≤a)(m:a≤32)(o:8≤t)(p:t≤1024)(w:World):
 Calls Tryz.prog 35 #[.agg #[.int .i64 d,.int .i64 a,.int .i64 t,.bool n]] w fun e w' =>∃b,e=.returned (.tuple #[.pointer (some ⟨b,0,none⟩),.int .i64 0])∧w.heap.size<b∧Below w.heap.size w w' ∧aK w' b (bC d a t n) (L0 b):=by
 have HA:=aB (fun w=>Ie d a t n j k l m o p w);have g:=aB (fun w=>Ic d a t n w);clear j k l m o p;go_enter func35,ntmps35
 go_wp2_with(first
  |(go_at_call 53;refine(aA HA _).mono ?_;rintro e w' ⟨rfl,rfl⟩)
  |(go_at_call 54;refine(aA g _).mono ?_;rintro e w2 ⟨rfl,h,i,c⟩)
  |(refine wpList_build rfl 95 #[(0,.tmp 8)] rfl (.agg (vP d a t n (w.heap.size+1+1+3))) (fun _=>by kernel_rfl) ?_))
 go_ret2;simp at h;have f:w2.heap.size=w.heap.size+1+1+3+1:=by omega
 simp at c;refine⟨w2.heap.size,by simp[f],by omega,?_,sO w2 d a t n (w.heap.size+1+1+3) f c⟩;refine Below.alloc ?_ (by omega) _;exact((Below.refl _ _).alloc (Nat.le_refl _) _ |>.alloc (by simp) _).trans (i.mono (by simp;omega))
theorem Ig(h:aK w b s L):
 Calls Tryz.prog 57 #[.pointer (some ⟨b,0,none⟩)] w fun e w' =>e=.returned (.bool (rU s))∧w' =w:=by
 have a:=h.cell;have c:=h.lt;unfold cellsOf at a;clear h;cases d:s.over;all_goals
  go_enter func57,ntmps57
  go_wp2
  go_ret;exact⟨Pq (by simp[rU,d]),rfl⟩
theorem Ae(h:aK w b s L):
 Calls Tryz.prog 38 #[.pointer (some ⟨b,0,none⟩)] w (Does w b s L (Mk.close s)):=by
 have i:=h.cell;have k:=h.frozen;have j:=h.lt;have g:=aB h;have c:=aB (Ig h);unfold cellsOf at i;clear h;by_cases d:s.ended=0
 .cases f:rU s
  .rw[f]at c;have a:Mk.close s=({s with ended:=9},9):=by simp[Mk.close,d,f]
   rw[a];clear a;go_enter func38,ntmps38
   go_wp2_with(go_at_call 57;refine(aA c).mono ?_;rintro e w1 ⟨rfl,rfl⟩)
   go_ret;exact⟨rfl,L,(aA g).start.store 29 _ _ rfl rfl rfl⟩
  rw[f]at c;have a:Mk.close s=({s with ended:=10},0):=by simp[Mk.close,d,f]
  rw[a];clear a;go_enter func38,ntmps38
  go_wp2_with(go_at_call 57;refine(aA c).mono ?_;rintro e w1 ⟨rfl,rfl⟩)
  go_ret;exact⟨rfl,L,(aA g).start.store 29 _ _ rfl rfl rfl⟩
 have a:Mk.close s=(s,s.ended):=by simp[Mk.close,d]
 rw[a];have f:(s.ended !=0)=true:=by simpa using d
 clear a c d;go_enter func38,ntmps38
 go_wp2
 go_ret;exact⟨rfl,L,(aA g).start⟩
theorem Af(h:aK w b s L):
 Calls Tryz.prog 25 #[.pointer (some ⟨b,0,none⟩)] w fun e w' =>e=.returned (.int .i64 s.at_)∧w' =w:=by
 have a:=h.cell;have c:=h.lt;unfold cellsOf at a;clear h;go_enter func25,ntmps25
 go_wp2
 go_ret;exact⟨rfl,rfl⟩
theorem Ih(h:aK w b s L):
 Calls Tryz.prog 58 #[.pointer (some ⟨b,0,none⟩)] w fun e w' =>e=.returned (.tuple #[.int .i64 s.line,.int .i64 s.column])∧∃n,w' =w.drewN n:=by
 have a:=h.cell;have c:=h.lt;unfold cellsOf at a;clear h;go_enter func58,ntmps58
 go_wp2
 go_quiet(fail)
 go_wp2
 go_ret2;exact⟨rfl,_,rfl⟩
theorem vR(h:aK w b s L):
 Calls Tryz.prog 39 #[.pointer (some ⟨b,0,none⟩)] w fun e w' =>e=.returned (.tuple #[.int .i64 s.line,.int .i64 s.column])∧∃n,w' =w.drewN n:=by
 have a:=aB (Ih h);have c:=h.lt;clear h;go_enter func39,ntmps39
 go_wp2_with(go_at_call 58;refine(aA a).mono ?_;rintro e w' ⟨rfl,n,rfl⟩)
 go_ret2;exact⟨rfl,_,rfl⟩
end Go.Proofs.YtmgfijllcdadgaaGreatDoor
