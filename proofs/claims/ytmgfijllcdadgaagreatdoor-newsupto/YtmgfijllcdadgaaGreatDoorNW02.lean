import Derived.Test.YtmgfijllcdadgaaGreatDoorNW01
import Derived.Deep.QuietTactic
import Derived.BigQuiet
import Derived.Deep.RegionLaw
set_option linter.unusedVariables false
set_option linter.unusedSimpArgs false
set_option maxHeartbeats 2000000
set_option maxRecDepth 100000
namespace Go.Proofs.YtmgfijllcdadgaaGreatDoor
open Go.RowKit
open Mk (St Bs Ev aD)
open Tryz
open Mk (nG dD rT kD qg eX eP ij cQ dX eO)
variable {w:World}{base c b:Nat}{e:TypeId}{a:Option Addr}{s:St}{L:Lay}
theorem yH{d e:Type}(f:d→List e)(m:Nat)(b:∀a,(f a).length=m):∀(l:List d) (k:Nat) (h:k<l.length) (j:Nat),j<m→(l.flatMap f)[k*m+j]?=(f l[k])[j]?
 |a::l,0,_,j,c=>by simp only[List.flatMap_cons,Nat.zero_mul,Nat.zero_add,List.getElem_cons_zero];rw[List.getElem?_append_left (by rw[b];exact c)]
 |a::l,k+1,h,j,c=>by
  simp only[List.flatMap_cons,List.getElem_cons_succ];rw[List.getElem?_append_right (by rw[b,Nat.succ_mul];omega),b];have:(k+1)*m+j - m=k*m+j:=by rw[Nat.succ_mul];omega
  rw[this];exact yH f m b l k (by simpa using h) j c
theorem yI{size g n:Nat}{d:List Value}(h:w.ownsRow base e size (.slice (some ⟨g,0,none⟩) n c) n d)(j:Nat)(f:j<n*size):w.cell? ⟨g,j,none⟩=d[j]?:=by
 rcases h.2 with⟨i,_⟩|⟨p,cap,b,k,q,l,m,_,o,a⟩
 .cases i
 cases k;rw[cell_of_row w g j b _ _ l,←a,List.getElem?_take_of_lt f];simp
theorem mI{m:Nat}{d:Type}(f:d→List Value)(i:∀a,(f a).length=m){l:List d}(s:0<m)(h:w.ownsRow base e m (.slice a l.length c) l.length (l.flatMap f))(k:Nat)(n:k<l.length):
 ∃g,a=some ⟨g,0,none⟩∧g<w.heap.size∧∀j,j<m→w.cell? ⟨g,k*m+j,none⟩=(f l[k])[j]?:=by
 obtain⟨g,t,o,_,b⟩:=World.ownsRow.form h (by omega);injection o with p u v;subst p;refine⟨g,rfl,b,fun j q=>?_⟩;rw[yI h (k*m+j) ?_]
 .exact yH f m i l k n j q
 have r:(k+1)*m≤l.length*m:=Nat.mul_le_mul_right _ (by omega);rw[Nat.succ_mul]at r;omega
theorem Ey(l:List (Bs×Bs))(x:Bs×Bs)(p:Bs):Mk.valueOf (l++[x]) p=if x.1==p then x.2 else Mk.valueOf l p:=by simp[Mk.valueOf]
theorem uQ{a:Type}(l:List a)(i:Nat)(b:i<l.length):l.take (i+1)=l.take i++[l[i]]:=by
 rw[List.take_add_one];simp[b]
theorem qm(h:aK w b s L)(G:s.aG.length≤300000000)(p:Bs):
 Calls Tryz.prog 243 #[.pointer (some ⟨b,7,none⟩),.string ⟨p.toArray⟩] w fun e w' =>e=.returned (.string ⟨(Mk.valueOf s.aG p).toArray⟩)∧w' =w:=by
 have z:=h.cell;have A:=h.lt;have t:=aB (fun k B=>mI (m:=2) (l:=s.aG) lS (fun _=>rfl) (by decide) (h.rows.own (bM s L) (by simp[rowsOf])) k B);obtain⟨d,a⟩:∃d,d=Mk.valueOf s.aG p:=⟨_,rfl⟩;rw[←a];rw[←List.take_length (l:=s.aG)]at a;have f:=aB a;unfold cellsOf at z;clear h a;go_enter func243,ntmps243
 go_wp2_with fail
 generalize Value.slice L.ba s.aG.length L.bc=H;go_loopg [5] s.aG.length (fun g C D=>D=w∧∃i:Nat,i≤s.aG.length∧g=i∧C=.int .i64 ((i:Int) - 1)∧d=Mk.valueOf (s.aG.take i) p)
 case atStart=>exact⟨rfl,s.aG.length,Nat.le_refl _,rfl,rfl,aA f⟩
 case round=>
  obtain⟨o,i,I,rfl,rfl,c⟩:=hrel;obtain rfl:=o.symm;clear f;cases gk with
  |zero=>
   have f:=aB (show d=[]from c);clear c;have e0:((0:Nat):Int) - 1= -1:=by decide
   rw[e0];go_wp2
   go_ret;rw[aA f];exact⟨rfl,rfl⟩
  |succ j=>
   have e0:((j+1:Nat):Int) - 1=(j:Int):=by omega
   rw[e0];rw[uQ s.aG j (by omega),Ey]at c;obtain⟨g,J,E,n⟩:=aA t j (by omega);have u:=n 0 (by decide);have v:=n 1 (by decide);have q:w.cell? ⟨g,j*2,none⟩=some (.string ⟨s.aG[j].1.toArray⟩):=u;have r:w.cell? ⟨g,j*2+1,none⟩=some (.string ⟨s.aG[j].2.toArray⟩):=v;generalize s.aG[j]=x at *;obtain⟨F,K⟩:=x;have M:(j:Int)<(s.aG.length:Int):=by omega
   clear n u v t;dsimp only at c q r;cases y:(F==p)
   .rw[y]at c;simp only[Bool.false_eq_true,if_false]at c;have f:=aB c;clear c;go_wp2
    go_roundg j
    case measure=>omega
    case rel=>exact⟨rfl,j,by omega,rfl,rfl,aA f⟩
   rw[y]at c;simp only[if_true]at c;have f:=aB c;clear c;go_wp2
   go_ret;rw[aA f];exact⟨rfl,rfl⟩
theorem rZ(h:aK w b s L)(c:s.aG.length≤300000000)(p:Bs):
 Calls Tryz.prog 240 #[.pointer (some ⟨b,7,none⟩),.string ⟨p.toArray⟩] w fun e w' =>e=.returned (.bool (nG s.aG p))∧w' =w:=by
 have a:=aB (qm h c p);have hd:nG s.aG p=(p==[]|| !(Mk.valueOf s.aG p==[])):=rfl;rw[hd];clear hd h;generalize Mk.valueOf s.aG p=v at *;cases d:(p==[])
 .simp only[Bool.false_or];cases f:(v==[])
  .go_enter func240,ntmps240
   go_wp2_with(go_at_call 243;refine(aA a).mono ?_;rintro e w1 ⟨rfl,rfl⟩)
   go_ret;exact⟨rfl,rfl⟩
  go_enter func240,ntmps240
  go_wp2_with(go_at_call 243;refine(aA a).mono ?_;rintro e w1 ⟨rfl,rfl⟩)
  go_ret;exact⟨rfl,rfl⟩
 simp only[Bool.true_or];go_enter func240,ntmps240
 go_wp2
 go_ret;exact⟨rfl,rfl⟩
theorem Ez(h:aK w b s L)(a:s.aG.length≤300000000)(n:Bs)(c:n.length≤100000000):
 Calls Tryz.prog 235 #[.pointer (some ⟨b,7,none⟩),.string ⟨n.toArray⟩] w fun e w' =>e=.returned (.string ⟨(Mk.valueOf s.aG (dD n)).toArray⟩)∧w' =w:=by
 have d:=aB (qm h a (dD n));have f:=aB (ql n c w);generalize Mk.valueOf s.aG (dD n)=v at *;clear h;go_enter func235,ntmps235
 go_wp2_with first|(go_at_call 243;refine(aA d).mono ?_;rintro e w1 ⟨rfl,rfl⟩)|(go_at_call 241;refine(aA f).mono ?_;rintro e w1 ⟨rfl,rfl⟩)
 go_ret;exact⟨rfl,rfl⟩
theorem oQ(h:aK w b s L)(d:s.aG.length≤300000000)(n:Bs)(f:n.length≤100000000):
 Calls Tryz.prog 230 #[.pointer (some ⟨b,0,none⟩),.string ⟨n.toArray⟩] w fun e w' =>e=.returned (.string ⟨(Mk.aZ s n).toArray⟩)∧w' =w:=by
 have g:=aB (Ez h d n f);have a:=h.cell;have hd:Mk.aZ s n=if s.on then Mk.valueOf s.aG (dD n)else[]:=rfl
 rw[hd];unfold cellsOf at a;clear h hd;generalize Mk.valueOf s.aG (dD n)=v at *;cases c:s.on
 .simp only[Bool.false_eq_true,if_false];rw[c]at a;go_enter func230,ntmps230
  go_wp2
  go_ret;exact⟨rfl,rfl⟩
 simp only[if_true];rw[c]at a;go_enter func230,ntmps230
 go_wp2_with(go_at_call 235;refine(aA g).mono ?_;rintro e w1 ⟨rfl,rfl⟩)
 go_ret;exact⟨rfl,rfl⟩
theorem EA{b:List aD}(h:w.ownsRow base 69 3 (.slice a b.length c) b.length (aV b))(I:b.length≤32)(v:∀x∈b,x.name.length≤100000000)(n:Bs)(s:n.length≤100000000):
 Calls Tryz.prog 238 #[.string ⟨n.toArray⟩,.slice a b.length c] w fun e w' =>e=.returned (.bool (rT n b))∧w' =w:=by
 have y:=aB (fun k A=>mI (m:=3) (l:=b) bZ (fun _=>rfl) (by decide) h k A);have z:=aB v;have B:=aB (yG n s w);obtain⟨d,f⟩:∃d,d=rT n b:=⟨_,rfl⟩;rw[←f];have o:=aB (show d=((b.drop 0).all (fun a=>kD a.name)&&kD n)from f);clear h f v;go_enter func238,ntmps238
 go_wp2_with fail
 go_loopg [5] b.length (fun g C D=>D=w∧∃i:Nat,i≤b.length∧g=b.length - i∧C=.int .i64 i∧d=((b.drop i).all (fun a=>kD a.name)&&kD n))
 case atStart=>exact⟨rfl,0,by omega,rfl,rfl,aA o⟩
 case round=>
  obtain⟨t,i,J,rfl,rfl,j⟩:=hrel;obtain rfl:=t.symm;clear o;by_cases u:i<b.length
  .have E:decide ((i:Int)<(b.length:Int))=true:=by simp;omega
   have F:(i:Int)<(b.length:Int):=by omega
   obtain⟨g,G,H,p⟩:=aA y i u;have K:w.cell? ⟨g,i*3,none⟩=some (.string ⟨b[i].name.toArray⟩):=p 0 (by decide);have r:=aB (yG b[i].name (aA z _ (List.getElem_mem u)) w);rw[List.drop_eq_getElem_cons u,List.all_cons]at j;generalize b[i].name=x at *;generalize kD x=q at *;clear p y z;subst G;cases q
   .simp only[Bool.false_and]at j;have o:=aB j;clear j;go_wp2_with(go_at_call 244;refine(aA r).mono ?_;rintro e w1 ⟨rfl,rfl⟩)
    go_ret;rw[aA o];exact⟨rfl,rfl⟩
   simp only[Bool.true_and]at j;have o:=aB j;clear j;go_wp2_with(go_at_call 244;refine(aA r).mono ?_;rintro e w1 ⟨rfl,rfl⟩)
   go_roundg (b.length - (i+1))
   case measure=>omega
   case rel=>exact⟨rfl,i+1,by omega,rfl,by simp,aA o⟩
  have E:decide ((i:Int)<(b.length:Int))=false:=by simp;omega
  rw[List.drop_of_length_le (by omega)]at j;have o:=aB (show d=kD n by simpa using j);clear j;generalize kD n=q at *;go_wp2_with(go_at_call 244;refine(aA B).mono ?_;rintro e w1 ⟨rfl,rfl⟩)
  go_ret;rw[aA o];exact⟨rfl,rfl⟩
theorem PZ(w:World)(n m:Nat):(w.drewN n).drewN m=w.drewN (n+m):=by simp[World.drewN,Nat.add_assoc]
theorem r_{b:List aD}(h:w.ownsRow base 69 3 (.slice a b.length c) b.length (aV b))(T:b.length≤32)(E:∀x∈b,x.name.length≤100000000)(t:aD)(M:t.name.length≤100000000):
 Calls Tryz.prog 248 #[.slice a b.length c,.agg #[.string ⟨t.name.toArray⟩,.string ⟨t.space.toArray⟩,.string ⟨t.val.toArray⟩]] w fun e w' =>e=.returned (.bool (qg b t))∧Below w.heap.size w w' :=by
 have F:=aB (fun k v=>mI (m:=3) (l:=b) bZ (fun _=>rfl) (by decide) h k v);have G:=aB E;have N:=aB (fun w=>rY t.name M w);obtain⟨f,o⟩:∃f,f=qg b t:=⟨_,rfl⟩;rw[←o];have p:=aB (show f=((b.drop 0).any fun x=>x.space==t.space&&eX x.name==eX t.name)from o);clear h o E;generalize A:eX t.name=H at *;clear A;go_enter func248,ntmps248
 go_wp2_with(go_at_call 249;refine(aA N _).mono ?_;rintro e w1 ⟨rfl,rfl⟩)
 go_loopw [6] (fun O P=>∃i:Nat,i≤b.length∧O=.int .i64 i∧f=((b.drop i).any fun x=>x.space==t.space&&eX x.name==H)∧∃n,P=(w.alloc (.cells #[.string ⟨t.name.toArray⟩,.string ⟨t.space.toArray⟩,.string ⟨t.val.toArray⟩] 69)).drewN n) (fun i _=>b.length - (intOf i).toNat)
 case atStart=>exact⟨0,by omega,rfl,aA p,0,rfl⟩
 case round=>
  obtain⟨i,X,rfl,d,m,rfl⟩:=hrel;clear p;by_cases B:i<b.length
  .have Q:decide ((i:Int)<(b.length:Int))=true:=by simp;omega
   have R:(i:Int)<(b.length:Int):=by omega
   obtain⟨g,S,C,q⟩:=aA F i B;have I:w.cell? ⟨g,i*3,none⟩=some (.string ⟨b[i].name.toArray⟩):=q 0 (by decide);have J:w.cell? ⟨g,i*3+1,none⟩=some (.string ⟨b[i].space.toArray⟩):=q 1 (by decide);have r:=aB (fun w=>rY b[i].name (aA G _ (List.getElem_mem B)) w);rw[List.drop_eq_getElem_cons B,List.any_cons]at d;generalize b[i].name=x at *;generalize b[i].space=y at *;generalize eX x=z at *;clear q F G;subst S;obtain⟨W,u⟩:∃W,W=(w.alloc (.cells #[.string ⟨t.name.toArray⟩,.string ⟨t.space.toArray⟩,.string ⟨t.val.toArray⟩] 69)).drewN m:=⟨_,rfl⟩;rw[←u];have s:∀j,(w.alloc (.cells #[.string ⟨t.name.toArray⟩,.string ⟨t.space.toArray⟩,.string ⟨t.val.toArray⟩] 69)).cell? ⟨g,j,none⟩=w.cell? ⟨g,j,none⟩:=fun j=>by simp only[World.cell?];rw[Below.heap_alloc _ _ _ C]
   have Y:W.cell? ⟨g,i*3,none⟩=some (.string ⟨x.toArray⟩):=by rw[u,←I,←s];rfl
   have Z:W.cell? ⟨g,i*3+1,none⟩=some (.string ⟨y.toArray⟩):=by rw[u,←J,←s];rfl
   have d3:W.cell? ⟨w.heap.size,1,none⟩=some (.string ⟨t.space.toArray⟩):=by
    rw[u];show(w.alloc _).cell? _=_;simp only[World.cell?];rw[heap_alloc_new];rfl
   have D:=aB u;clear u s I J;cases K:(y==t.space)
   .rw[K]at d;simp only[Bool.false_and,Bool.false_or]at d;have p:=aB d;clear d r;go_wp2
    go_quiet(fail)
    go_wp2
    go_roundw
    case rel=>exact⟨i+1,by omega,by go_num,aA p,by rw[aA D];exact⟨_,PZ _ _ _⟩⟩
    case measure=>simp[intOf];omega
   rw[K]at d;simp only[Bool.true_and]at d;cases L:(z==H)
   .rw[L]at d;simp only[Bool.false_or]at d;have p:=aB d;clear d;go_wp2
    go_quiet((go_at_call 249;refine Calls.quiet_of_same (aA r _)))
    go_wp2
    go_roundw
    case rel=>exact⟨i+1,by omega,by go_num,aA p,by rw[aA D];exact⟨_,PZ _ _ _⟩⟩
    case measure=>simp[intOf];omega
   rw[L]at d;simp only[Bool.true_or]at d;have p:=aB d;clear d;go_wp2
   go_quiet((go_at_call 249;refine Calls.quiet_of_same (aA r _)))
   go_wp2
   go_ret;rw[aA p];rw[aA D];exact⟨rfl,⟨rfl,rfl,rfl,by rw[heap_drewN,heap_drewN];simp,fun k v=>by rw[heap_drewN,heap_drewN];exact Below.heap_alloc _ _ _ v⟩⟩
  have Q:decide ((i:Int)<(b.length:Int))=false:=by simp;omega
  rw[List.drop_of_length_le (by omega)]at d;have p:=aB (show f=false by simpa using d);clear d;go_wp2
  go_ret;rw[aA p];exact⟨rfl,⟨rfl,rfl,rfl,by rw[heap_drewN];simp,fun k v=>by rw[heap_drewN];exact Below.heap_alloc _ _ _ v⟩⟩
theorem EB(b:Int)(f:0≤b)(g:b≤255)(w:World):Calls Tryz.prog 186 #[.int .u8 b] w fun e w' =>
 e=.returned (.tuple #[.agg #[.int .i64 ((eP b).getD (0,0)).1,.int .i64 ((eP b).getD (0,0)).2],.bool (eP b).isSome])∧Below w.heap.size w w' :=by
 by_cases h:b<128
 .cases d:Mk.iM b
  .have a:eP b=none:=by unfold eP;rw[if_neg (by simp[d]),if_neg (by omega),if_neg (by omega),if_neg (by omega)]
   rw[a];go_enter func186,ntmps186
   go_wp2_with(go_at_call 215;refine(oP _ _).mono ?_;rintro e w' ⟨rfl,rfl⟩)
   exact bodyPost_ret (v:=.tuple #[.agg #[.int .i64 0,.int .i64 0],.bool false]) (by simp[results,Tryz.results186,go_sem]) rfl ⟨rfl,(Below.refl _ _).alloc (Nat.le_refl _) _⟩
  have a:eP b=some (b,0):=by unfold eP;rw[if_pos ⟨h,d⟩]
  rw[a];go_enter func186,ntmps186
  go_wp2_with(go_at_call 215;refine(oP _ _).mono ?_;rintro e w' ⟨rfl,rfl⟩)
  exact bodyPost_ret (v:=.tuple #[.agg #[.int .i64 b,.int .i64 0],.bool true]) (by simp[results,Tryz.results186,go_sem]) rfl ⟨rfl,(Below.refl _ _).alloc (Nat.le_refl _) _⟩
 obtain⟨m,a⟩:∃m,eP b=m:=⟨_,rfl⟩;rcases(by omega:(194≤b∧b≤223)∨(224≤b∧b≤239)∨(240≤b∧b≤244)∨(128≤b∧b<194)∨244<b)with⟨c,g2⟩|⟨c,g2⟩|⟨c,g2⟩|⟨c,g2⟩|c
 .have a:eP b=some (b - 192,1):=by unfold eP;rw[if_neg (by omega),if_pos (by omega)]
  rw[a];go_enter func186,ntmps186
  go_wp2
  exact bodyPost_ret (v:=.tuple #[.agg #[.int .i64 (b - 192),.int .i64 1],.bool true]) (by simp[results,Tryz.results186,go_sem]) rfl ⟨rfl,(Below.refl _ _).alloc (Nat.le_refl _) _⟩
 .have a:eP b=some (b - 224,2):=by unfold eP;rw[if_neg (by omega),if_neg (by omega),if_pos (by omega)]
  rw[a];go_enter func186,ntmps186
  go_wp2
  exact bodyPost_ret (v:=.tuple #[.agg #[.int .i64 (b - 224),.int .i64 2],.bool true]) (by simp[results,Tryz.results186,go_sem]) rfl ⟨rfl,(Below.refl _ _).alloc (Nat.le_refl _) _⟩
 .have a:eP b=some (b - 240,3):=by unfold eP;rw[if_neg (by omega),if_neg (by omega),if_neg (by omega),if_pos (by omega)]
  rw[a];go_enter func186,ntmps186
  go_wp2
  exact bodyPost_ret (v:=.tuple #[.agg #[.int .i64 (b - 240),.int .i64 3],.bool true]) (by simp[results,Tryz.results186,go_sem]) rfl ⟨rfl,(Below.refl _ _).alloc (Nat.le_refl _) _⟩
 .have a:eP b=none:=by unfold eP;rw[if_neg (by omega),if_neg (by omega),if_neg (by omega),if_neg (by omega)]
  rw[a];go_enter func186,ntmps186
  go_wp2
  all_goals exact bodyPost_ret (v:=.tuple #[.agg #[.int .i64 0,.int .i64 0],.bool false]) (by simp[results,Tryz.results186,go_sem]) rfl ⟨rfl,(Below.refl _ _).alloc (Nat.le_refl _) _⟩
 have a:eP b=none:=by unfold eP;rw[if_neg (by omega),if_neg (by omega),if_neg (by omega),if_neg (by omega)]
 rw[a];go_enter func186,ntmps186
 go_wp2
 all_goals exact bodyPost_ret (v:=.tuple #[.agg #[.int .i64 0,.int .i64 0],.bool false]) (by simp[results,Tryz.results186,go_sem]) rfl ⟨rfl,(Below.refl _ _).alloc (Nat.le_refl _) _⟩
theorem yJ(c l:Int)(w:World):Calls Tryz.prog 180 #[.agg #[.int .i64 c,.int .i64 l]] w fun e w' =>
 e=.returned (.bool (ij c l))∧w' =w.alloc (.cells #[.int .i64 c,.int .i64 l] 87):=by
 go_enter func180,ntmps180
 go_wp2_with(go_at_call 215;refine(oP _ _).mono ?_;rintro e w' ⟨rfl,rfl⟩)
 all_goals(go_ret;refine⟨Pq ?_,rfl⟩)
 all_goals(unfold ij;simp_all)
 all_goals omega
theorem yK(c l b:Int)(f:0≤b)(g:b≤255)(i:0≤c)(j:c≤2097151)(k:0≤l)(m:l≤3)(w:World):Calls Tryz.prog 127 #[.agg #[.int .i64 c,.int .i64 l],.int .u8 b] w fun e w' =>
 e=.returned (.tuple #[.agg #[.int .i64 ((cQ c l b).getD (0,0)).1,.int .i64 ((cQ c l b).getD (0,0)).2],.bool (cQ c l b).isSome])∧Below w.heap.size w w' :=by
 by_cases h:b<128∨191<b
 .have a:cQ c l b=none:=by unfold cQ;rw[if_pos h]
  rw[a];clear a;rcases h with h|h;all_goals
   go_enter func127,ntmps127
   go_wp2
   exact bodyPost_ret (v:=.tuple #[.agg #[.int .i64 0,.int .i64 0],.bool false]) (by simp[results,Tryz.results127,go_sem]) rfl ⟨rfl,((Below.refl _ _).alloc (Nat.le_refl _) _).alloc (by simp) _⟩
 have n:128≤b:=by omega
 have g2:b≤191:=by omega
 cases d:ij (c*64+b - 128) (l - 1)
 .have a:cQ c l b=none:=by unfold cQ;rw[if_neg h,d];rfl
  rw[a];clear a h;go_enter func127,ntmps127
  go_wp2_with(go_at_call 180;refine(yJ _ _ _).mono ?_;rintro e w' ⟨rfl,rfl⟩)
  exact bodyPost_ret (v:=.tuple #[.agg #[.int .i64 0,.int .i64 0],.bool false]) (by simp[results,Tryz.results127,go_sem]) rfl ⟨rfl,((((Below.refl _ _).alloc (Nat.le_refl _) _).alloc (by simp) _).alloc (by simp;omega) _).alloc (by simp;omega) _⟩
 have a:cQ c l b=some (c*64+b - 128,l - 1):=by unfold cQ;rw[if_neg h,d];rfl
 rw[a];clear a h;go_enter func127,ntmps127
 go_wp2_with(go_at_call 180;refine(yJ _ _ _).mono ?_;rintro e w' ⟨rfl,rfl⟩)
 exact bodyPost_ret (v:=.tuple #[.agg #[.int .i64 (c*64+b - 128),.int .i64 (l - 1)],.bool true]) (by simp[results,Tryz.results127,go_sem]) rfl ⟨rfl,((((Below.refl _ _).alloc (Nat.le_refl _) _).alloc (by simp) _).alloc (by simp;omega) _).alloc (by simp;omega) _⟩
theorem oU:(Tryz.prog.info? 5).map (fun i=>(i.zero,i.size,i.bytes))=some (some (.int .u8 0),1,1):=by kernel_rfl
theorem uR(h:aK w b s L):
 Calls Tryz.prog 185 #[.pointer (some ⟨b,0,none⟩)] w fun e w' =>e=.returned (.bool (dX s))∧w' =w:=by
 have a:=h.cell;unfold cellsOf at a;clear h;go_enter func185,ntmps185
 go_wp2
 all_goals(go_ret;exact⟨by simp[dX, *],rfl⟩)
theorem mJ(h:aK w b s L)(more:Int)(f:0≤s.count)(g:s.count≤1000000000000)(i:0≤more)(j:more≤1000):
 Calls Tryz.prog 137 #[.pointer (some ⟨b,0,none⟩),.int .i64 more] w fun e w' =>e=.returned (.bool (Mk.fits s more))∧∃n,w' =w.drewN n:=by
 have d:=h.cell;have c:Hid (∀n,Calls Tryz.prog 185 #[.pointer (some ⟨b,0,none⟩)] (w.drewN n) fun e w' =>e=.returned (.bool (dX s))∧w' =w.drewN n):=fun n=>uR (h.drewN n)
 unfold cellsOf at d;clear h;cases a:dX s;all_goals
  rw[a]at c;go_enter func137,ntmps137
  go_wp2
  go_quiet((go_at_call 185;exact Calls.quiet_of_same (c.out _)))
  go_wp2
  go_ret;exact⟨Pq (by simp[Mk.fits, *]),_,rfl⟩
theorem ED(n:Int)(a:0≤n)(b:n≤255):((Mk.u8 n).toNat:Int)=n:=by
 unfold Mk.u8;rw[UInt8.toNat_ofNat'];omega
theorem yL(c:Int)(b:0≤c)(d:c≤1114111):(eO c).map (Value.int .u8)=(Mk.encode c).map bv:=by
 unfold Mk.encode;rw[List.map_map];apply List.map_congr_left;intro n a;have:0≤n∧n≤255:=by
  unfold eO at a;split at a
  .simp at a;omega
  split at a
  .simp at a;omega
  split at a<;>simp at a<;>omega
 simp[bv,ED n this.1 this.2]
theorem encode_len(c:Int):0<(eO c).length∧(eO c).length≤4∧(Mk.encode c).length=(eO c).length:=by
 unfold Mk.encode eO;repeat' split
 all_goals simp
theorem EE(h:aK w b s L)(c:Int)(o:0≤c)(h1:c≤1114111)(D:dX s=true)(E:s.text.length≤1000000000000):
 Calls Tryz.prog 130 #[.pointer (some ⟨b,0,none⟩),.int .i64 c] w fun e w' =>e=.returned (.tuple #[])∧∃L', Mv w b (aJ s L) w' {s with text:=s.text++Mk.encode c} L' :=by
 have hm:=(h.start).alloc (.cells ((eO c).map (Value.int .u8)).toArray 5);have p:=hm.rd.cell;have t:=hm.rd.frozen;have q:Hid (Calls Tryz.prog 185 #[.pointer (some ⟨b,0,none⟩)] (w.alloc (.cells ((eO c).map (Value.int .u8)).toArray 5)) fun e w' =>e=.returned (.bool (dX s))∧w' =(w.alloc (.cells ((eO c).map (Value.int .u8)).toArray 5))):=uR hm.rd;have a:Hid (Mv w b (aJ s L) (w.alloc (.cells ((eO c).map (Value.int .u8)).toArray 5)) s L):=hm;have f:=encode_len c;unfold cellsOf at p;clear h hm;obtain⟨v,y,k,l,m⟩:=info_parts oU;go_enter func130,ntmps130
 go_wp2_with(first
  |(go_at_call 184;refine(yC c o h1 _).mono ?_;rintro e w' ⟨rfl,rfl⟩)
  |(go_at_call 185;refine q.out.mono ?_;rintro e w' ⟨rfl,rfl⟩)
  |(at_builtin;refine wpList_append_lies _ rfl (.tmp 14) (.tmp 15) 74 rfl (b - 1) 5 v (.int .u8 0) 1 1 underlying74 y k l m rfl (by decide) (.slice L.xa s.text.length L.xc) s.text.length (s.text.map bv) rfl ?own ⟨w.heap.size,0,none⟩ (eO c).length (eO c).length ((Mk.encode c).map bv) rfl ?hl ?hnews ?h1 ?hm ?h63 ?hbytes ?hbase (w.heap.size+1) (by simp) ?grow))
 case own=>exact a.out.rd.rows.own (cA s L) (by simp[rowsOf])
 case hl=>simp[f.2.2]
 case hnews=>
  intro j u i;rw[←yL c o h1]at i;have d:(⟨w.heap.size,0,none⟩:Addr).add j=⟨w.heap.size,j,none⟩:=by unfold Addr.add;split<;>simp_all
  rw[d];simpa[World.cell?,World.alloc,-World.alloc_eq]using i
 case h1=>intro u i;obtain⟨x,_,rfl⟩:=List.mem_map.1 i;rfl
 case hm=>exact f.1
 case h63=>unfold maxLen;omega
 case hbytes=>omega
 case hbase=>have:=a.out.rd.lt;omega
 case grow=>
  intro g cap w1 hown hgrow n z;obtain⟨A,B⟩:=lg (a.out.rd.grown (r:=cA s L) hgrow (by simp[rowsOf]));unfold cellsOf at A;clear p t q;go_wp2
  refine bodyPost_ret (results_none rfl _ _ _) rfl ?_;refine⟨rfl,{L with xa:=some ⟨g,0,none⟩,xc:=cap},a.out.grow (s' :={s with text:=s.text++Mk.encode c}) (L' :={L with xa:=some ⟨g,0,none⟩,xc:=cap}) (r:=cA s L) 27 _ (qi _ _ _ _ _ _) (qi _ _ _ _ _ _) ?_ hgrow ?_ ?_ a.out.rd.evs⟩
  .have C:(s.text++Mk.encode c).length=s.text.length+(eO c).length:=by rw[List.length_append,f.2.2]
   show World.ownsRow _ _ _ _ _ _ _;simp only[cA,List.map_append];rw[C];exact hown
  .rcases n with e|e
   .exact .inl e.symm
   exact .inr (by rw[e];simp[cA,Value.ownBlock])
  simp[cellsOf,f.2.2]
theorem EF(h:aK w b s L)(c:Int)(o:0≤c)(h1:c≤1114111)(D:dX s=false)(E:s.token.length≤1000000000000)(F:0≤s.count)(G:s.count≤1000000000000):
 Calls Tryz.prog 130 #[.pointer (some ⟨b,0,none⟩),.int .i64 c] w fun e w' =>e=.returned (.tuple #[])∧∃L', Mv w b (aJ s L) w' {s with token:=s.token++Mk.encode c,count:=s.count+1} L' :=by
 have hm:=(h.start).alloc (.cells ((eO c).map (Value.int .u8)).toArray 5);have p:=hm.rd.cell;have t:=hm.rd.frozen;have q:Hid (Calls Tryz.prog 185 #[.pointer (some ⟨b,0,none⟩)] (w.alloc (.cells ((eO c).map (Value.int .u8)).toArray 5)) fun e w' =>e=.returned (.bool (dX s))∧w' =(w.alloc (.cells ((eO c).map (Value.int .u8)).toArray 5))):=uR hm.rd;have a:Hid (Mv w b (aJ s L) (w.alloc (.cells ((eO c).map (Value.int .u8)).toArray 5)) s L):=hm;have f:=encode_len c;unfold cellsOf at p;clear h hm;obtain⟨v,y,k,l,m⟩:=info_parts oU;go_enter func130,ntmps130
 go_wp2_with(first
  |(go_at_call 184;refine(yC c o h1 _).mono ?_;rintro e w' ⟨rfl,rfl⟩)
  |(go_at_call 185;refine q.out.mono ?_;rintro e w' ⟨rfl,rfl⟩)
  |(at_builtin;refine wpList_append_lies _ rfl (.tmp 24) (.tmp 25) 74 rfl (b - 1) 5 v (.int .u8 0) 1 1 underlying74 y k l m rfl (by decide) (.slice L.ta s.token.length L.tc) s.token.length (s.token.map bv) rfl ?own ⟨w.heap.size,0,none⟩ (eO c).length (eO c).length ((Mk.encode c).map bv) rfl ?hl ?hnews ?h1 ?hm ?h63 ?hbytes ?hbase (w.heap.size+1) (by simp) ?grow))
 case own=>exact a.out.rd.rows.own (bQ s L) (by simp[rowsOf])
 case hl=>simp[f.2.2]
 case hnews=>
  intro j u i;rw[←yL c o h1]at i;have d:(⟨w.heap.size,0,none⟩:Addr).add j=⟨w.heap.size,j,none⟩:=by unfold Addr.add;split<;>simp_all
  rw[d];simpa[World.cell?,World.alloc,-World.alloc_eq]using i
 case h1=>intro u i;obtain⟨x,_,rfl⟩:=List.mem_map.1 i;rfl
 case hm=>exact f.1
 case h63=>unfold maxLen;omega
 case hbytes=>omega
 case hbase=>have:=a.out.rd.lt;omega
 case grow=>
  intro g cap w1 hown hgrow n z;obtain⟨A,B⟩:=lg (a.out.rd.grown (r:=bQ s L) hgrow (by simp[rowsOf]));unfold cellsOf at A;clear p t q;go_wp2
  go_end0
  refine⟨rfl,{L with ta:=some ⟨g,0,none⟩,tc:=cap},(a.out.grow (s' :={s with token:=s.token++Mk.encode c}) (L' :={L with ta:=some ⟨g,0,none⟩,tc:=cap}) (r:=bQ s L) (rs:=bE s L::bD s L::bJ s L::cA s L::bM s L::bS s L::L.es.map aN) 9 _ (jd _ _ _) (jd _ _ _) ?_ hgrow ?_ ?_ a.out.rd.evs).store 10 _ _ rfl rfl rfl⟩
  .have C:(s.token++Mk.encode c).length=s.token.length+(eO c).length:=by rw[List.length_append,f.2.2]
   show World.ownsRow _ _ _ _ _ _ _;simp only[bQ,List.map_append];rw[C];exact hown
  .rcases n with e|e
   .exact .inl e.symm
   exact .inr (by rw[e];simp[bQ,Value.ownBlock])
  simp[cellsOf,f.2.2]
theorem oV(h:aK w b s L)(c:Int)(d:0≤c)(f:c≤1114111)(g:s.text.length≤1000000000000)(i:s.token.length≤1000000000000)(j:0≤s.count)(k:s.count≤1000000000000):
 Calls Tryz.prog 130 #[.pointer (some ⟨b,0,none⟩),.int .i64 c] w fun e w' =>e=.returned (.tuple #[])∧∃L', Mv w b (aJ s L) w' (Mk.put s c) L' :=by
 cases a:dX s
 .have:=EF h c d f a i j k;simpa[Mk.put,a]using this
 have:=EE h c d f a g;simpa[Mk.put,a]using this
end Go.Proofs.YtmgfijllcdadgaaGreatDoor
