import Derived.Test.YtmgfijllcdadgaaGreatDoorNW02
import Derived.Laws.IdiomStrings
set_option linter.unusedVariables false
set_option linter.unusedSimpArgs false
set_option maxHeartbeats 1000000
set_option maxRecDepth 100000
namespace Go.Proofs.YtmgfijllcdadgaaGreatDoor
open Go.RowKit
open Mk (St Bs Ev aD)
open Mk (Bs)
open Tryz
open Mk (aQ gG jK dY eP cW Pp iq fJ lM)
variable {w w' :World}{b:Nat}{s:St}{L:Lay}
theorem oW:(Tryz.prog.info? 65).map (fun i=>(i.zero,i.size,i.bytes))=some (some (.agg #[.int .i64 0,.string ByteArray.empty,.string ByteArray.empty,.string ByteArray.empty,.slice none 0 0]),5,80):=by kernel_rfl
theorem lT{base:Nat}{a:Option Addr}{c:Nat}{l:Bs}(h:w.ownsRow base 5 1 (.slice a l.length c) l.length (l.map bv)):
 (convert 74 9 (.slice a l.length c)).run Tryz.prog w=.ok (.string ⟨l.toArray⟩) w:=by
 rcases h.2 with⟨e,k⟩|⟨g,cap,f,e,q,m,n,_,o,b⟩
 .have:l=[]:=List.eq_nil_of_length_eq_zero k;subst this;cases e;exact run_convert_bytes_nil w _ _ underlying74 underlying5 0 0 _ underlying9
 cases e;refine run_convert_bytes_back w _ _ _ _ _ l underlying74 underlying5 underlying9 fun j p=>?_
 have d:(⟨g,0,none⟩:Addr).add j=⟨g,j,none⟩:=by unfold Addr.add;split<;>simp_all
 rw[d,cell_of_row w g j f _ _ m];have i:(l.map bv)[j]?=some (bv l[j]):=by simp[p]
 rw[←b,List.getElem?_take_of_lt (by omega)]at i;simpa[bv]using i
theorem mK(e:Ev)(a:Option Addr)(n c:Nat):∀u∈bP e (.slice a n c),u.oneCell' =true:=by
 intro u b;simp[bP]at b;rcases b with rfl|rfl|rfl|rfl|rfl<;>rfl
theorem EG(h:aK w b s L)(C:0<s.text.length)(D:s.text.length≤1000000000000)(E:s.list.length≤1000000000000):
 Calls Tryz.prog 103 #[.pointer (some ⟨b,26,none⟩)] w fun e w' =>e=.returned (.tuple #[])∧∃L', Mv w b (aJ s L) w' (aQ s) L' ∧L'.aa=L.aa∧L'.ac=L.ac:=by
 have q:=h.cell;have F:=h.frozen;have t:=h.lt;have u:=lT (w:=w.drew) ((h.start.drew).rd.rows.own (cA s L) (by simp[rowsOf]));have a:=((h.start).alloc (.cells #[.int .i64 3,.string ⟨#[]⟩,.string ⟨#[]⟩,.string ⟨s.text.toArray⟩,.slice none 0 0] 65)).drew;have o:Hid (Mv w b (aJ s L) (w.alloc (.cells #[.int .i64 3,.string ⟨#[]⟩,.string ⟨#[]⟩,.string ⟨s.text.toArray⟩,.slice none 0 0] 65)).drew s L):=a;have v:=aB (a.rd.rows.own (bJ s L) (by simp[rowsOf]));have x:Hid ((w.alloc (.cells #[.int .i64 3,.string ⟨#[]⟩,.string ⟨#[]⟩,.string ⟨s.text.toArray⟩,.slice none 0 0] 65)).drew.heap[w.heap.size]?=some (.cells #[.int .i64 3,.string ⟨#[]⟩,.string ⟨#[]⟩,.string ⟨s.text.toArray⟩,.slice none 0 0] 65 (0,0))):=heap_alloc_new w _;have c:s.list.length+1≤maxLen:=by unfold maxLen;omega
 have d:b - 1≤(w.alloc (.cells #[.int .i64 3,.string ⟨#[]⟩,.string ⟨#[]⟩,.string ⟨s.text.toArray⟩,.slice none 0 0] 65)).drew.heap.size:=by simp;omega
 have f:=aB c;have i:=aB d;have e0:((s.text.length:Int)==0)=false:=by rw[beq_eq_false_iff_ne];omega
 unfold cellsOf at q;obtain⟨y,z,j,k,l⟩:=info_parts oW;clear h c d a;go_enter func103,ntmps103
 go_wp2
 go_region_law (refine step_append_lies _ rfl (.tmp 12) (.tmp 19) 29 rfl (b - 1) 65 y _ 5 80 underlying29 z j k l rfl (by decide) (.slice L.la s.list.length L.lc) s.list.length (bA L.es) (by simp[Act.eval]) (aA v) ⟨w.heap.size,0,none⟩ 1 1 (bP ⟨3,[],[],s.text,[]⟩ (.slice none 0 0)) (by simp[Act.eval]) rfl (World.news_of_block (aA x)) (mK _ _ _ _) (by decide) (aA f) (by omega) (aA i) (w.heap.size+1) (by simp) ?_;intro g cap w1 hown hgrow m p;obtain⟨A,B⟩:=lg ((aA o).rd.grown (r:=bJ s L) hgrow (by simp[rowsOf]));unfold cellsOf at A)
 all_goals
  go_wp2
  go_end0
  have n:aQ s={s with list:=s.list++[⟨3,[],[],s.text,[]⟩],text:=[]}:=by unfold aQ;rw[if_neg (by omega)]
  rw[n];exact⟨rfl,_,((aA o).yB ⟨3,[],[],s.text,[]⟩ rfl hown hgrow (by simpa using m)).Ei,rfl,rfl⟩
theorem uS(h:aK w b s L)(d:s.text.length≤1000000000000)(f:s.list.length≤1000000000000):
 Calls Tryz.prog 103 #[.pointer (some ⟨b,26,none⟩)] w fun e w' =>e=.returned (.tuple #[])∧∃L', Mv w b (aJ s L) w' (aQ s) L' ∧L'.aa=L.aa∧L'.ac=L.ac:=by
 by_cases c:s.text.length=0
 .have a:aQ s=s:=by unfold aQ;rw[if_pos c]
  rw[a];have g:=h.cell;have e0:((s.text.length:Int)==0)=true:=by simp[c]
  have i:=aB h;unfold cellsOf at g;clear h a c;go_enter func103,ntmps103
  go_wp2
  refine bodyPost_ret (results_none rfl _ _ _) rfl ?_;exact⟨rfl,L,(aA i).start,rfl,rfl⟩
 exact EG h (by omega) d f
theorem Fr.box{f a:List Nat}{o:Obj}{W:World}(h:Fr W w' b f a)(c:W=w.alloc o)(g:b<w.heap.size)(d:∀k∈f,k<w.heap.size):w'.heap[w.heap.size]?=some o:=by
 subst c;rw[h.block w.heap.size (by simp) (by omega) (fun e=>by have:=d _ e;omega)];exact heap_alloc_new w o
theorem add_nil(h:aK w b s L)(a:Ev)(B:a.aC=[])(C:s.text.length≤1000000000000)(P:s.list.length≤1000000000):
 Calls Tryz.prog 188 #[.pointer (some ⟨b,26,none⟩),.agg #[.int .i64 a.kind,.string ⟨a.name.toArray⟩,.string ⟨a.space.toArray⟩,.string ⟨a.val.toArray⟩,.slice none 0 0]] w fun e w' =>e=.returned (.tuple #[])∧∃L', Mv w b (aJ s L) w' (Mk.add s a) L' :=by
 have d:=(h.start).alloc (.cells #[.int .i64 a.kind,.string ⟨a.name.toArray⟩,.string ⟨a.space.toArray⟩,.string ⟨a.val.toArray⟩,.slice none 0 0] 65);have v:=aB (uS d.rd C (by omega));have j:=aB d;have D:=aB h.lt;have E:=aB h.dF;obtain⟨F,G,n,o,p⟩:=info_parts oW;clear h d;go_enter func188,ntmps188
 go_wp2_with fail
 refine(aA v).mono ?_;rintro e w1 ⟨rfl,l,c,-,-⟩;have m:=Fr.box c.fr rfl (aA D) (fun k H=>(aA E k H).2);have I:=c.rd.cell;have Q:=c.rd.frozen;have R:∀i,w1.cell? ⟨w.heap.size,i,none⟩=[.int .i64 a.kind,.string ⟨a.name.toArray⟩,.string ⟨a.space.toArray⟩,.string ⟨a.val.toArray⟩,.slice none 0 0][i]?:=fun i=>by simp[World.cell?,m]
 have x:(aQ s).list.length≤1000000000+1:=by unfold aQ;split<;>simp<;>omega
 have J:w.heap.size+1≤w1.heap.size:=by have:=c.fr.size;simpa using this
 have f:=(c.alloc (.cells #[.int .i64 a.kind,.string ⟨a.name.toArray⟩,.string ⟨a.space.toArray⟩,.string ⟨a.val.toArray⟩,.slice none 0 0] 65)).drew;have K:=aB (f.rd.rows.own (bJ (aQ s) l) (by simp[rowsOf]));have M:=aB (show(w1.alloc (.cells #[.int .i64 a.kind,.string ⟨a.name.toArray⟩,.string ⟨a.space.toArray⟩,.string ⟨a.val.toArray⟩,.slice none 0 0] 65)).drew.heap[w1.heap.size]?=_ from heap_alloc_new w1 _);have q:=aB (show(aQ s).list.length+1≤maxLen by unfold maxLen;omega);have t:=aB (show b - 1≤(w1.alloc (.cells #[.int .i64 a.kind,.string ⟨a.name.toArray⟩,.string ⟨a.space.toArray⟩,.string ⟨a.val.toArray⟩,.slice none 0 0] 65)).drew.heap.size by have:=c.rd.lt;simp;omega);have y:=aB ((aA j).call f);have z:=c.rd.lt;unfold cellsOf at I;clear c f m v j;go_wp2
 go_region_law (refine step_append_lies _ rfl (.tmp 10) (.tmp 12) 29 rfl (b - 1) 65 F _ 5 80 underlying29 G n o p rfl (by decide) (.slice l.la (aQ s).list.length l.lc) (aQ s).list.length (bA l.es) (by simp[Act.eval]) (aA K) ⟨w1.heap.size,0,none⟩ 1 1 (bP a (.slice none 0 0)) (by simp[Act.eval]) rfl (World.news_of_block (aA M)) (mK _ _ _ _) (by decide) (aA q) (by omega) (aA t) (w1.heap.size+1) (by simp) ?_;intro g cap w2 hown hgrow u A;obtain⟨N,O⟩:=lg ((aA y).rd.grown (r:=bJ (aQ s) l) hgrow (by simp[rowsOf]));unfold cellsOf at N)
 all_goals
  go_wp2
  go_end0
  exact⟨rfl,_,(aA y).yB a B hown hgrow (by simpa using u)⟩
theorem EH(h:aK w b s L)(a:Ev)(H:a.aC=s.aC)(t:s.am=false)(I:s.text.length≤1000000000000)(Y:s.list.length≤1000000000):
 Calls Tryz.prog 188 #[.pointer (some ⟨b,26,none⟩),.agg #[.int .i64 a.kind,.string ⟨a.name.toArray⟩,.string ⟨a.space.toArray⟩,.string ⟨a.val.toArray⟩,.slice L.aa s.aC.length L.ac]] w fun e w' =>e=.returned (.tuple #[])∧∃L', Mv w b (aJ s L) w' {Mk.add s a with am:=true} L' :=by
 have l:=(h.start).alloc (.cells #[.int .i64 a.kind,.string ⟨a.name.toArray⟩,.string ⟨a.space.toArray⟩,.string ⟨a.val.toArray⟩,.slice L.aa s.aC.length L.ac] 65);have C:=aB (uS l.rd I (by omega));have o:=aB l;have J:=aB h.lt;have K:=aB h.dF;obtain⟨M,N,u,v,x⟩:=info_parts oW;have f:(aQ s).aC=s.aC:=by unfold aQ;split<;>rfl
 have j:(aQ s).am=false:=by unfold aQ;split<;>exact t
 have HA:=aB f;have y:=aB j;clear h l f j;go_enter func188,ntmps188
 go_wp2_with fail
 refine(aA C).mono ?_;rintro e w1 ⟨rfl,d,c,p,q⟩;have m:=Fr.box c.fr rfl (aA J) (fun k O=>(aA K k O).2);rw[←p,←q]at m;have P:=c.rd.cell;have Z:=c.rd.frozen;have hq:∀i,w1.cell? ⟨w.heap.size,i,none⟩=[.int .i64 a.kind,.string ⟨a.name.toArray⟩,.string ⟨a.space.toArray⟩,.string ⟨a.val.toArray⟩,.slice d.aa s.aC.length d.ac][i]?:=fun i=>by simp[World.cell?,m]
 have D:(aQ s).list.length≤1000000000+1:=by unfold aQ;split<;>simp<;>omega
 have Q:w.heap.size+1≤w1.heap.size:=by have:=c.fr.size;simpa using this
 have n:=(c.alloc (.cells #[.int .i64 a.kind,.string ⟨a.name.toArray⟩,.string ⟨a.space.toArray⟩,.string ⟨a.val.toArray⟩,.slice d.aa s.aC.length d.ac] 65)).drew;have R:=aB (n.rd.rows.own (bJ (aQ s) d) (by simp[rowsOf]));have S:=aB (show(w1.alloc (.cells #[.int .i64 a.kind,.string ⟨a.name.toArray⟩,.string ⟨a.space.toArray⟩,.string ⟨a.val.toArray⟩,.slice d.aa s.aC.length d.ac] 65)).drew.heap[w1.heap.size]?=_ from heap_alloc_new w1 _);have z:=aB (show(aQ s).list.length+1≤maxLen by unfold maxLen;omega);have A:=aB (show b - 1≤(w1.alloc (.cells #[.int .i64 a.kind,.string ⟨a.name.toArray⟩,.string ⟨a.space.toArray⟩,.string ⟨a.val.toArray⟩,.slice d.aa s.aC.length d.ac] 65)).drew.heap.size by have:=c.rd.lt;simp;omega);have E:=aB ((aA o).call n);have F:=c.rd.lt;unfold cellsOf at P;clear c n m C o p q;go_wp2
 go_region_law (refine step_append_lies _ rfl (.tmp 10) (.tmp 12) 29 rfl (b - 1) 65 M _ 5 80 underlying29 N u v x rfl (by decide) (.slice d.la (aQ s).list.length d.lc) (aQ s).list.length (bA d.es) (by simp[Act.eval]) (aA R) ⟨w1.heap.size,0,none⟩ 1 1 (bP a (.slice d.aa s.aC.length d.ac)) (by simp[Act.eval]) rfl (World.news_of_block (aA S)) (mK _ _ _ _) (by decide) (aA z) (by omega) (aA A) (w1.heap.size+1) (by simp) ?_;intro g cap w2 hown hgrow B G;obtain⟨T,X⟩:=lg ((aA E).rd.grown (r:=bJ (aQ s) d) hgrow (by simp[rowsOf]));unfold cellsOf at T)
 all_goals
  go_wp2
  go_end0
  rw[←aA HA]at hown;exact⟨rfl,_,(aA E).Eh a (H.trans (aA HA).symm) (aA y) hown hgrow (by simpa using B)⟩
theorem oZ(h:aK w b s L):
 Calls Tryz.prog 187 #[.pointer (some ⟨b,0,none⟩)] w fun e w' =>e=.returned (.string ⟨s.token.toArray⟩)∧∃L', Mv w b (aJ s L) w' (Mk.aY s) L' :=by
 have a:=h.cell;have g:=h.frozen;have c:=h.lt;have d:=lT (h.rows.own (bQ s L) (by simp[rowsOf]));have f:=aB h;unfold cellsOf at a;clear h;go_enter func187,ntmps187
 go_wp2
 go_ret;exact⟨rfl,_,((aA f).start.Ej).store 10 _ _ rfl rfl rfl⟩
theorem EI(h:aK w b s L)(i:s.text.length≤1000000000000)(j:s.list.length≤1000000000000):
 Calls Tryz.prog 80 #[.pointer (some ⟨b,26,none⟩)] w fun e w' =>∃a,e=.returned (.slice a.la (aQ s).list.length a.lc)∧(∃w1,Mv w b (aJ s L) w1 (aQ s) a∧w' =w1.setCell ⟨b,26,none⟩ (.slice none 0 0))∧∃L', Mv w b (aJ s L) w' (Mk.take s) L' ∧(∀k∈aJ (Mk.take s) L', k∉aW (bJ (aQ s) a::a.es.map aN)):=by
 have f:=aB (uS h i j);clear h;go_enter func80,ntmps80
 go_wp2_with fail
 refine(aA f).mono ?_;rintro e w1 ⟨rfl,a,c,-,-⟩;have l:=c.rd.cell;have t:=c.rd.frozen;have m:=c.rd.lt;have d:=aB c;unfold cellsOf at l;clear c f;go_wp2
 go_ret;refine⟨a,rfl,⟨w1,aA d,rfl⟩,_,(aA d).El,?_⟩;have n:=(aA d).rd.rows;have o:(rowsOf (aQ s) a).Perm ((bJ (aQ s) a::a.es.map aN)++[bE (aQ s) a,bQ (aQ s) a,bD (aQ s) a,cA (aQ s) a,bM (aQ s) a,bS (aQ s) a]):=by
  refine(lm _ _ _ _ _).trans (.cons _ ?_);exact(List.perm_append_comm (l₁:=[bE _ _,bQ _ _,bD _ _,cA _ _,bM _ _,bS _ _]) (l₂:=a.es.map aN))
 have g:=(n.perm o).nd;intro k p q;have r:aW ((bJ (aQ s) a::a.es.map aN)++[bE (aQ s) a,bQ (aQ s) a,bD (aQ s) a,cA (aQ s) a,bM (aQ s) a,bS (aQ s) a])=aW (bJ (aQ s) a::a.es.map aN)++aW [bE (aQ s) a,bQ (aQ s) a,bD (aQ s) a,cA (aQ s) a,bM (aQ s) a,bS (aQ s) a]:=by unfold aW;rw[List.filterMap_append]
 rw[r]at g;refine(List.nodup_append.1 g).2.2 k q k ?_ rfl;exact p
theorem qo(h:aK w b s L):
 Calls Tryz.prog 189 #[.pointer (some ⟨b,0,none⟩)] w fun e w' =>e=.returned (.tuple #[])∧Mv w b (aJ s L) w' (Mk.resume s) L:=by
 have f:=h.cell;have i:=h.frozen;have g:=h.lt;have d:=aB h;unfold cellsOf at f;clear h;by_cases a:s.opn.length=0
 .have e0:((s.opn.length:Int)==0)=true:=by simp[a]
  have c:=aB a;clear a;go_enter func189,ntmps189
  go_wp2
  go_end0
  unfold Mk.resume;rw[if_pos (aA c)];exact⟨rfl,((aA d).start.store 4 (.int .i64 1) {s with state:=1} rfl rfl rfl).store 4 _ _ rfl rfl rfl⟩
 have e0:((s.opn.length:Int)==0)=false:=by rw[beq_eq_false_iff_ne];omega
 have c:=aB a;clear a;go_enter func189,ntmps189
 go_wp2
 go_end0
 unfold Mk.resume;rw[if_neg (aA c)];exact⟨rfl,((aA d).start.store 4 _ _ rfl rfl rfl)⟩
theorem EJ(h:aK w b s L)(c:Int)(l:0≤c)(q:c≤255)(m:s.text.length≤1000000000000)(o:s.token.length≤1000000000000)(i:0≤s.count)(j:s.count≤1000000000000):
 Calls Tryz.prog 193 #[.pointer (some ⟨b,0,none⟩),.int .u8 c] w fun e w' =>e=.returned (.int .i64 (gG s c).2)∧∃L', Mv w b (aJ s L) w' (gG s c).1 L' :=by
 have f:=aB (mJ h 1 i j (by decide) (by decide));have p:=aB (fun n=>oV (h.drewN n) c l (by omega) m o i j);have k:=aB h;cases a:Mk.fits s 1
 .rw[a]at f;clear h;go_enter func193,ntmps193
  go_wp2_with(go_at_call 137;refine(aA f).mono ?_;rintro e w' ⟨rfl,n,rfl⟩)
  go_ret;simp only[gG,a];exact⟨rfl,L,(aA k).start.drewN _⟩
 rw[a]at f;clear h;go_enter func193,ntmps193
 go_wp2_with(first|(go_at_call 137;refine(aA f).mono ?_;rintro e w' ⟨rfl,n,rfl⟩)|(go_at_call 130;refine(aA p n).mono ?_;rintro e w' ⟨rfl,L', d⟩;have g:=aB d;clear d))
 go_ret;simp only[gG,a];exact⟨rfl,L', ((aA k).start.drewN _).call (aA g)⟩
theorem yM(h:aK w b s L)(c l:Int)(m:0≤c)(f:l=0→c≤1114111)(n:s.text.length≤1000000000000)(o:s.token.length≤1000000000000)(p:0≤s.count)(q:s.count≤1000000000000):
 Calls Tryz.prog 128 #[.pointer (some ⟨b,0,none⟩),.agg #[.int .i64 c,.int .i64 l]] w fun e w' =>e=.returned (.tuple #[])∧∃L', Mv w b (aJ s L) w' (jK s (c,l)) L' :=by
 have r:=h.cell;have x:=h.frozen;have t:=h.lt;have g:=((h.start.store 18 (.int .i64 c) {s with pc:=c} rfl rfl rfl).store 19 (.int .i64 l) {s with pc:=c,pl:=l} rfl rfl rfl).alloc (.cells #[.int .i64 c,.int .i64 l] 87);have j:=aB g;have k:=aB (fun(a:c≤1114111)=>oV g.rd c m a n o p q);unfold cellsOf at r;clear h g;by_cases a:l=0
 .have u:=f a;subst a;clear f;go_enter func128,ntmps128
  go_wp2_with(go_at_call 130;refine(aA k u).mono ?_;rintro e w' ⟨rfl,L', d⟩;have i:=aB d;clear d)
  go_end0
  exact⟨rfl,L', (aA j).call (aA i)⟩
 have e0:(l==0)=false:=by rw[beq_eq_false_iff_ne];exact a
 clear f k;go_enter func128,ntmps128
 go_wp2
 go_end0
 have v:jK s (c,l)={s with pc:=c,pl:=l}:=by simp[jK,e0]
 rw[v];exact⟨rfl,L,aA j⟩
theorem EK(x:UInt8):wrap64 (x.toNat:Int)=(x.toNat:Int):=by
 have:=x.toNat_lt;rw[IntWalk.wrap64_in _ (by omega)]
theorem uT(x:UInt8):(0:Int)≤(x.toNat:Int)∧(x.toNat:Int)≤255:=by
 have:=x.toNat_lt;omega
theorem uU(s:St)(c:Int):(Mk.put s c).text.length≤s.text.length+4∧(Mk.put s c).token.length≤s.token.length+4∧s.count≤(Mk.put s c).count∧(Mk.put s c).count≤s.count+1:=by
 have:=encode_len c;unfold Mk.put;split<;>simp<;>omega
theorem EL(l:Bs)(x:UInt8):∀s,dY s (l++[x])=Mk.put (dY s l) x.toNat:=by
 induction l with
 |nil=>intro s;rfl
 |cons y r ih=>intro s;exact ih _
theorem yN:∀(l:Bs) (s:St),(dY s l).text.length≤s.text.length+4*l.length∧(dY s l).token.length≤s.token.length+4*l.length∧s.count≤(dY s l).count∧(dY s l).count≤s.count+l.length
 |[],s=>by simp[dY]
 |x::r,s=>by
  have a:=uU s x.toNat;have b:=yN r (Mk.put s x.toNat);simp only[dY,List.length_cons];omega
theorem EM(s:St)(c:Int):(Mk.put s c).held=s.held:=by unfold Mk.put;split<;>rfl
theorem yO:∀(l:Bs) (s:St),(dY s l).held=s.held
 |[],s=>rfl
 |x::r,s=>by simp only[dY];rw[yO r,EM]
theorem EN(s:St)(k:Nat)(a:s.held.length≤100)(b:s.text.length≤100000000000)(c:s.token.length≤100000000000)(d:0≤s.count)(e:s.count≤100000000000):
 (dY s (s.held.take k)).text.length≤1000000000000∧(dY s (s.held.take k)).token.length≤1000000000000∧0≤(dY s (s.held.take k)).count∧(dY s (s.held.take k)).count≤1000000000000:=by
 have f:=yN (s.held.take k) s;have g:(s.held.take k).length≤100:=by rw[List.length_take];omega
 omega
theorem EO(b:Int)(a:0≤b)(c:b≤255)(p:Int×Int)(h:eP b=some p):0≤p.1∧p.1≤255∧0≤p.2∧p.2≤3:=by
 unfold eP at h;repeat' split at h
 all_goals first|(cases h;simp;omega)|cases h
theorem EP(h:aK w b s L)(x:Int)(h0:0≤x)(h1:x≤255)(hh:s.held.length≤100)(hx:s.text.length≤100000000000)(ht:s.token.length≤100000000000)(X:0≤s.count)(c1:s.count≤100000000000):
 Calls Tryz.prog 134 #[.pointer (some ⟨b,0,none⟩),.int .u8 x] w fun e w' =>e=.returned (.int .i64 (cW s x).2)∧∃L', Mv w b (aJ s L) w' (cW s x).1 L' :=by
 have C:=aB (EB x h0 h1 w);have S:=aB h;cases F:eP x with
 |none=>
  rw[F]at C;have j:=h.lt;clear h;simp only[cW,F];go_enter func134,ntmps134
  go_wp2_with(go_at_call 186;refine(aA C).mono ?_;rintro e w1 ⟨rfl,c⟩)
  go_ret;exact⟨rfl,L,(((aA S).start.below c).alloc _)⟩
 |some p=>
  have G:=EO x h0 h1 p F;obtain⟨pc,pl⟩:=p;rw[F]at C;cases o:Mk.fits s (s.held.length+1)
  .have q:cW s x=(s,7):=by simp[cW,F,o]
   rw[q];clear q;go_enter func134,ntmps134
   go_wp2_with fail
   refine(aA C).mono ?_;rintro e w1 ⟨rfl,c⟩;have a:=((aA S).start.below c);have A:=a.rd.cell;have Y:=a.rd.frozen;have j:=a.rd.lt;have d:=a.alloc (.cells #[.int .i64 pc,.int .i64 pl] 87);have H:=aB (mJ d.rd (s.held.length+1) X (by omega) (by omega) (by omega));have t:=aB d;unfold cellsOf at A;clear a d h C;rw[o]at H;go_wp2_with(go_at_call 137;refine(aA H).mono ?_;rintro e w' ⟨rfl,n,rfl⟩)
   go_ret;exact⟨rfl,L,(aA t).drewN _⟩
  obtain⟨r,q⟩:∃r,r=jK {dY s s.held with held:=[]} (pc,pl):=⟨_,rfl⟩;have I:cW s x=(r,0):=by rw[q];simp[cW,F,o]
  rw[I];have HR:=aB q;clear q I;go_enter func134,ntmps134
  go_wp2_with fail
  refine(aA C).mono ?_;rintro e w1 ⟨rfl,c⟩;have a:=((aA S).start.below c);have A:=a.rd.cell;have Y:=a.rd.frozen;have j:=a.rd.lt;have d:=a.alloc (.cells #[.int .i64 pc,.int .i64 pl] 87);have f:w1.heap.size∉aJ s L:=fun g=>by have:=(a.rd.dF _ g).2;omega
  have H:=aB (mJ d.rd (s.held.length+1) X (by omega) (by omega) (by omega));have t:=aB d;have Z:=aB f;unfold cellsOf at A;clear a d h C f;rw[o]at H;go_wp2_with(go_at_call 137;refine(aA H).mono ?_;rintro e w' ⟨rfl,n,rfl⟩)
  clear A Y;go_loopw [7] (fun i w' =>∃k:Nat,k≤s.held.length∧i=.int .i64 k∧w1.heap.size<w'.heap.size∧w'.heap[w1.heap.size]?=some (.cells #[.int .i64 pc,.int .i64 pl] 87 (0,0))∧∃L', Mv w b (aJ s L) w' (dY s (s.held.take k)) L' ∧w1.heap.size∉aJ (dY s (s.held.take k)) L') (fun i _=>s.held.length - (intOf i).toNat)
  case atStart=>
   refine⟨0,by omega,rfl,by simp,?_,L,(aA t).drewN _,aA Z⟩;rw[heap_drewN];exact heap_alloc_new w1 _
  case round=>
   obtain⟨k,hk,rfl,a0,u,L1,g,f⟩:=hrel;have a1:=yO (s.held.take k) s;obtain⟨J,K,M,N⟩:=EN s k hh hx ht X c1;by_cases j:k<s.held.length
   .have l:=EL (s.held.take k) s.held[k] s;rw[←List.take_succ_eq_append_getElem j]at l;generalize dY s (s.held.take k)=s1 at *;generalize O:dY s (s.held.take (k+1))=s2 at *;have a2:=aB O;have P:=aB l;obtain⟨v,T⟩:∃v:Int,v=(s.held[k].toNat:Int):=⟨_,rfl⟩;have Q:0≤v∧v≤255:=by rw[T];exact uT _
    have hw:wrap64 (((⟨s.held.toArray⟩:ByteArray)[k]'(by simpa[ByteArray.size]using j)).toNat:Int)=v:=by
     rw[EK,T];rfl
    rw[←T]at l;have HP:=aB (oV g.rd v Q.1 (Int.le_trans Q.2 (by decide)) J K M N);have A:=g.rd.cell;have a3:=aB g;have B:=aB f;have a4:=aB u;have a9:=aB g.rd.lt;have P:=aB l;unfold cellsOf at A;clear g f u O l T J K M N;go_wp2_with(go_at_call 130;refine(aA HP).mono ?_;rintro e w3 ⟨rfl,L3,m⟩;have D:=aB m;clear m)
    go_roundw
    case rel=>
     have e1:dY s (s.held.take (k+1))=Mk.put s1 v:=(aA a2).trans (aA P);have y:=aA D;refine⟨k+1,by omega,by go_num,?_,?_,L3,?_,?_⟩
     .have:=y.fr.size;omega
     .rw[y.fr.block _ a0 (by omega) (aA B)];exact aA a4
     .rw[e1];exact(aA a3).call y
     rw[e1];intro z;rcases y.fr.aJ _ z with z|z
     .exact aA B z
     omega
    case measure=>simp[intOf];omega
   have R:s.held.take k=s.held:=List.take_of_length_le (by omega);rw[R]at g f a1 J K M N;have q:=aA HR;generalize dY s s.held=s1 at *;have E:=g.store 15 (.string ⟨#[]⟩) {s1 with held:=[]} rfl rfl rfl;have HP:=aB (yM E.rd pc pl G.1 (fun _=>Int.le_trans G.2.1 (by decide)) J K M N);have a5:=aB E;have A:=g.rd.cell;have Y:=g.rd.frozen;have aa:=g.rd.lt;have hq:∀i,wr.cell? ⟨w1.heap.size,i,none⟩=[.int .i64 pc,.int .i64 pl][i]?:=fun i=>by simp[World.cell?,u]
   have a6:w1.heap.size≠b:=by
    have:=(aA t).rd.lt;have h9:=c.size;have h8:=(aA S).lt;omega
   have a8:(w1.heap.size==b)=false:=by rw[beq_eq_false_iff_ne];exact a6
   have a7:=aB q;have e0:decide ((k:Int)<(s.held.length:Int))=false:=by simp;omega
   unfold cellsOf at A;clear g f u E q J K M N R;go_wp2_with(go_at_call 128;refine(aA HP).mono ?_;rintro e w3 ⟨rfl,L3,m⟩;have D:=aB m;clear m)
   go_ret;rw[aA a7];exact⟨rfl,L3,(aA a5).call (aA D)⟩
theorem ext_list(x:Bs)(n:Nat):(ByteArray.extract ⟨x.toArray⟩ 0 n).toList=x.take n:=by
 simp[ByteArray.toList_eq,ByteArray.data_extract]
theorem si(x y:Bs)(b:x.length≤100)(c:y.length≤100)(w:World):Calls Tryz.prog 214 #[.string ⟨x.toArray⟩,.string ⟨y.toArray⟩] w fun e w' =>e=.returned (.bool (y.isPrefixOf x))∧w' =w:=by
 by_cases h:y.length≤x.length
 .go_enter func214,ntmps214
  go_wp2
  go_ret;refine⟨Pq ?_,rfl⟩;rw[ext_list,Bool.eq_iff_iff,List.isPrefixOf_iff_prefix,List.prefix_iff_eq_take];rw[beq_iff_eq];exact eq_comm
 have e0:decide ((y.length:Int)≤(x.length:Int))=false:=by simp;omega
 go_enter func214,ntmps214
 go_wp2
 go_ret;refine⟨Pq ?_,rfl⟩;cases a:y.isPrefixOf x
 .rfl
 rw[List.isPrefixOf_iff_prefix]at a;exact absurd a.length_le h
theorem uV(p:Int)(n:Bs)(c:Int)(w:World):Calls Tryz.prog 94 #[.agg #[.int .i64 p,.string ⟨n.toArray⟩,.int .i64 c]] w fun e w' =>e=.returned (.bool (Mk.isOpen p))∧w' =w.alloc (.cells #[.int .i64 p,.string ⟨n.toArray⟩,.int .i64 c] 89):=by
 cases h:(p !=0);all_goals
  go_enter func94,ntmps94
  go_wp2
  go_ret;refine⟨Pq ?_,rfl⟩;simp[Mk.isOpen,h]
theorem EQ(p:Int)(n:Bs)(c:Int)(w:World):Calls Tryz.prog 131 #[.agg #[.int .i64 p,.string ⟨n.toArray⟩,.int .i64 c]] w fun e w' =>e=.returned (.int .i64 c)∧w' =w.alloc (.cells #[.int .i64 p,.string ⟨n.toArray⟩,.int .i64 c] 89):=by
 go_enter func131,ntmps131
 go_wp2
 all_goals(go_ret;exact⟨rfl,rfl⟩)
theorem yP(w:World):Calls Tryz.prog 133 #[] w fun e w' =>e=.returned (.agg #[.int .i64 1,.string ⟨#[]⟩,.int .i64 0])∧Below w.heap.size w w' :=by
 go_enter func133,ntmps133
 go_wp2
 exact bodyPost_ret (v:=.agg #[.int .i64 1,.string ⟨#[]⟩,.int .i64 0]) (by simp[results,Tryz.results133,go_sem]) rfl ⟨rfl,(Below.refl _ _).alloc (Nat.le_refl _) _⟩
def dA(o:Option Mk.Rf):Array Value:=#[.int .i64 ((o.map (·.place)).getD 0),.string ⟨((o.map (·.name)).getD []).toArray⟩,.int .i64 ((o.map (·.code)).getD 0)]
def bB(o:Option Mk.Rf):Value:=.tuple #[.agg (dA o),.bool o.isSome]
theorem PO{b base v:Int}(a:0≤b)(c:0<base)(h:Mk.digit b base=some v):0≤v∧v<base:=by
 unfold Mk.digit at h;split at h
 .cases h
 cases h;rename_i d;refine⟨?_,by omega⟩;unfold Mk.digitVal Mk.isDigit;repeat' split
 all_goals simp_all
 all_goals omega
theorem yQ(p:Int)(n:Bs)(c b base place:Int)(h:0≤b)(j:b≤255)(l:0≤c)(m:c≤1114111)(f:base=10∨base=16)(w:World):
 Calls Tryz.prog 182 #[.agg #[.int .i64 p,.string ⟨n.toArray⟩,.int .i64 c],.int .u8 b,.int .i64 base,.int .i64 place] w fun e w' =>e=.returned (bB (Pp c b base place))∧w' =(w.alloc (.cells #[.int .i64 p,.string ⟨n.toArray⟩,.int .i64 c] 89)).alloc (.cells (dA (Pp c b base place)) 89):=by
 have d:=aB (fun w=>En b base h j (by omega) (by omega) w);have g:0<base∧base≤16:=by omega
 cases hd:Mk.digit b base with
 |none=>
  rw[hd]at d;have a:Pp c b base place=none:=by simp[Pp,hd]
  rw[a];clear a hd;rcases f with rfl|rfl;all_goals
   go_enter func182,ntmps182
   go_wp2_with(go_at_call 217;refine(aA d _).mono ?_;rintro e w' ⟨rfl,rfl⟩)
   exact bodyPost_ret (v:=bB none) (by simp[results,Tryz.results182,go_sem,bB,dA]) rfl ⟨rfl,rfl⟩
 |some v=>
  rw[hd]at d;have o:=PO h g.1 hd;by_cases i:1114111<c*base+v
  .have a:Pp c b base place=none:=by simp[Pp,hd,i]
   rw[a];clear a hd;rcases f with rfl|rfl;all_goals
    go_enter func182,ntmps182
    go_wp2_with(go_at_call 217;refine(aA d _).mono ?_;rintro e w' ⟨rfl,rfl⟩)
    exact bodyPost_ret (v:=bB none) (by simp[results,Tryz.results182,go_sem,bB,dA]) rfl ⟨rfl,rfl⟩
  have a:Pp c b base place=some ⟨place,[],c*base+v⟩:=by simp[Pp,hd];omega
  rw[a];clear a hd;have k:c*base+v≤1114111:=by omega
  clear i;rcases f with rfl|rfl
  .go_enter func182,ntmps182
   go_wp2_with(go_at_call 217;refine(aA d _).mono ?_;rintro e w' ⟨rfl,rfl⟩)
   exact bodyPost_ret (v:=bB (some ⟨place,[],c*10+v⟩)) (by simp[results,Tryz.results182,go_sem,bB,dA]) rfl ⟨rfl,rfl⟩
  go_enter func182,ntmps182
  go_wp2_with(go_at_call 217;refine(aA d _).mono ?_;rintro e w' ⟨rfl,rfl⟩)
  exact bodyPost_ret (v:=bB (some ⟨place,[],c*16+v⟩)) (by simp[results,Tryz.results182,go_sem,bB,dA]) rfl ⟨rfl,rfl⟩
theorem ER(p:Int)(n:Bs)(c b base place:Int)(j:0≤b)(k:b≤255)(l:0≤c)(m:c≤1114111)(o:base=10∨base=16)(w:World):
 Calls Tryz.prog 183 #[.agg #[.int .i64 p,.string ⟨n.toArray⟩,.int .i64 c],.int .u8 b,.int .i64 base,.int .i64 place] w fun e w' =>e=.returned (bB (iq c b base place))∧Below w.heap.size w w' :=by
 cases d:(b==59)
 .have a:iq c b base place=Pp c b base place:=by simp[iq,d]
  rw[a];have h:(b !=59)=true:=by simp at d⊢;exact d
  have f:=aB (fun w=>yQ p n c b base place j k l m o w);clear a;cases g:Pp c b base place with
  |none=>
   rw[g]at f;clear g;go_enter func183,ntmps183
   go_wp2_with(go_at_call 182;refine(aA f _).mono ?_;rintro e w1 ⟨rfl,rfl⟩;simp only[bB,dA,Option.map_none,Option.getD_none,Option.isSome_none])
   exact bodyPost_ret (v:=bB none) (by simp[results,Tryz.results183,go_sem,bB,dA]) rfl ⟨rfl,by repeat(first|exact Below.refl _ _|refine Below.alloc ?_ (by simp<;>omega) _)⟩
  |some r=>
   rw[g]at f;clear g;go_enter func183,ntmps183
   go_wp2_with(go_at_call 182;refine(aA f _).mono ?_;rintro e w1 ⟨rfl,rfl⟩;simp only[bB,dA,Option.map_some,Option.getD_some,Option.isSome_some])
   exact bodyPost_ret (v:=bB (some r)) (by simp[results,Tryz.results183,go_sem,bB,dA]) rfl ⟨rfl,by repeat(first|exact Below.refl _ _|refine Below.alloc ?_ (by simp<;>omega) _)⟩
 have h:(b !=59)=false:=by simp at d⊢;exact d
 cases i:Mk.iM c
 .have a:iq c b base place=none:=by simp[iq,d,i]
  rw[a];clear a;go_enter func183,ntmps183
  go_wp2_with(go_at_call 215;refine(oP _ _).mono ?_;rintro e w1 ⟨rfl,rfl⟩)
  exact bodyPost_ret (v:=bB none) (by simp[results,Tryz.results183,go_sem,bB,dA]) rfl ⟨rfl,by repeat(first|exact Below.refl _ _|refine Below.alloc ?_ (by simp<;>omega) _)⟩
 have a:iq c b base place=some ⟨7,[],c⟩:=by simp[iq,d,i]
 rw[a];clear a;go_enter func183,ntmps183
 go_wp2_with(go_at_call 215;refine(oP _ _).mono ?_;rintro e w1 ⟨rfl,rfl⟩)
 exact bodyPost_ret (v:=bB (some ⟨7,[],c⟩)) (by simp[results,Tryz.results183,go_sem,bB,dA]) rfl ⟨rfl,by repeat(first|exact Below.refl _ _|refine Below.alloc ?_ (by simp<;>omega) _)⟩
structure Gl(w:World):Prop where
 names:∀i,w.cell? ⟨1,i,none⟩=(fJ.map fun p=>Value.string ⟨p.1.toArray⟩)[i]?
 named:∀i,w.cell? ⟨2,i,none⟩=(fJ.map fun p=>Value.int .i64 p.2)[i]?
theorem Gl.below(h:Gl w)(b:2<w.heap.size)(a:Below w.heap.size w w'):Gl w' :=
 ⟨fun i=>(a.cell (p:=⟨1,i,none⟩) (by show 1<_;omega)).trans (h.names i),fun i=>(a.cell (p:=⟨2,i,none⟩) b).trans (h.named i)⟩
theorem ES(a:Bs)(k:Nat)(b:k<5):∃x c,(fJ.map fun p=>Value.string ⟨p.1.toArray⟩)[k]?=some (.string ⟨x.toArray⟩)∧(fJ.map fun p=>Value.int .i64 p.2)[k]?=some (.int .i64 c)∧x.length≤5∧
 lM a (fJ.drop k)=if x=a then some ⟨7,[],c⟩else if a.isPrefixOf x then some ⟨2,a,0⟩else lM a (fJ.drop (k+1)):=by
 match k,b with
 |0,_=>exact⟨_,_,rfl,rfl,by decide,rfl⟩
 |1,_=>exact⟨_,_,rfl,rfl,by decide,rfl⟩
 |2,_=>exact⟨_,_,rfl,rfl,by decide,rfl⟩
 |3,_=>exact⟨_,_,rfl,rfl,by decide,rfl⟩
 |4,_=>exact⟨_,_,rfl,rfl,by decide,rfl⟩
end Go.Proofs.YtmgfijllcdadgaaGreatDoor
