import Derived.Test.YtmgfijllcdadgaaGreatDoorNW06
set_option linter.unusedVariables false
set_option linter.unusedSimpArgs false
set_option maxHeartbeats 2000000
set_option maxRecDepth 100000
namespace Go.Proofs.YtmgfijllcdadgaaGreatDoor
open Go.RowKit
open Mk (St Bs Ev aD)
open Tryz
open Mk (cH cG cK gQ gH fO aY Pu)
variable {s:St}{w:World}{b:Nat}{L:Lay}
structure Sl(s:St):Prop where
 l:s.list.length+500≤700000000
 b:s.aG.length+40≤290000000
 c:s.cnt.length+1≤100000000
theorem vp(h:Bd s)(hl:s.list.length+200≤700000000):Bd (cH s)∧(cH s).opn=s.opn∧(cH s).name=s.name∧(cH s).list.length≤s.list.length+66:=by
 have d:=u_ (cG s) s;have j:=sI h.cb;have f:=Qd (cK s) ⟨1,s.name,Mk.aZ s s.name,[],s.aC⟩;have g:(cH s).list=(Mk.add (cK s) ⟨1,s.name,Mk.aZ s s.name,[],s.aC⟩).list:=rfl;have i:(cH s).text=(Mk.add (cK s) ⟨1,s.name,Mk.aZ s s.name,[],s.aC⟩).text:=rfl;rw[←g,←i]at f;have k:(cK s).list.length≤s.list.length+64:=by show(Mk.dI s (cG s)).list.length≤_;omega
 have l:(cK s).text.length≤s.text.length:=d.1;have e:=nJ s;have m:=h.hx;refine⟨?_,by rw[e],by rw[e],by omega⟩;have b:(cH s).list.length≤700000000:=by omega
 have c:(cH s).text.length≤100000000:=by omega
 rw[e]at b c⊢;exact{h with hx:=c,hl:=b,ha:=(by simp),an:=fun a ha=>by cases ha}
theorem FC(h:Bd s)(f:Sl s){l:List aD}(i:(Mk.enter s).2=some l):Bd {(Mk.enter s).1 with aC:=l}∧(Mk.enter s).1.list=s.list∧(Mk.enter s).1.name=s.name∧(Mk.enter s).1.am=false:=by
 obtain⟨j,k⟩:=Qc i;obtain⟨g,d⟩:=qq s;have m:=sG s.aC s.aG 0;have g2:=sH _ 100000000 s.aC [] l k;have n:=h.ha;rw[j];have hb:(Mk.declare s).1.aG.length≤290000000:=by rw[g];dsimp only;have:=f.b;omega
 have hc:(Mk.declare s).1.cnt.length≤100000000:=by
  rcases d with d|d
  .rw[d];exact h.hc
  rw[d];have:=f.c;simp;omega
 have e:∀c∈(Mk.declare s).1.cnt,c≤32:=by
  rcases d with d|d
  .rw[d];exact h.cb
  rw[d];intro c hc;rcases List.mem_append.1 hc with hc|hc
  .exact h.cb c hc
  simp at hc;subst hc;omega
 rw[g]at hb hc e⊢;dsimp only at hb hc e;refine⟨{h with ha:=?_,an:=?_,hb:=hb,hc:=hc,cb:=e},rfl,rfl,h.am⟩
 .have:=g2.1;simp at this;show l.length≤32;omega
 exact g2.2 (fun a ha=>by cases ha) h.an
theorem FD(h:aK w b s L)(f:Bd s)(g:(Mk.enter s).2=none):
 Calls Tryz.prog 233 #[.pointer (some ⟨b,7,none⟩),.string ⟨s.name.toArray⟩,.slice L.aa s.aC.length L.ac] w fun e w' =>e=.returned (.tuple #[.slice none 0 0,.bool false])∧∃L', Mv w b (aJ s L) w' (Mk.enter s).1 L' :=by
 refine(Qi h f).mono ?_;rintro e w' ⟨L', i,-,-,⟨-,rfl⟩|⟨l,a,c,B,d,-⟩⟩
 .exact⟨rfl,L', i⟩
 rw[g]at d;cases d
theorem FE(h:aK w b s L)(o:Bd s)(l:List aD)(m:(Mk.enter s).2=some l)(f:(Mk.enter s).1.am=false):
 Calls Tryz.prog 233 #[.pointer (some ⟨b,7,none⟩),.string ⟨s.name.toArray⟩,.slice L.aa s.aC.length L.ac] w fun e w' =>∃a c,e=.returned (.tuple #[.slice a l.length c,.bool true])∧∃L', Mv w b (aJ s L) w' (Mk.enter s).1 L' ∧Mv w b (aJ s L) (w'.setCell ⟨b,13,none⟩ (.slice a l.length c)) {(Mk.enter s).1 with aC:=l} {L' with aa:=a,ac:=c}:=by
 refine(Qi h o).mono ?_;rintro e w' ⟨L', n,-,-,⟨d,-⟩|⟨p,a,c,B,d,rfl,g,i,j,k⟩⟩
 .rw[m]at d;cases d
 rw[m]at d;cases d;exact⟨a,c,rfl,L', n,n.Fa f l a c B g i j k⟩
theorem FF(h:aK w b s L)(F:Bd s)(G:Sl s)(x:Int):
 Calls Tryz.prog 225 #[.pointer (some ⟨b,0,none⟩),.int .u8 x] w (Does w b s L (gQ s x)):=by
 obtain⟨i0,hi,Y,Z,a0⟩:=info_parts vg;have t:=h.cell;have hf:=h.frozen;have a9:=h.lt;have X:=aB h.start;cases v:s.on
 .have k:gQ s x=(gH s x,0):=by unfold gQ;rw[v];rfl
  rw[k];have y:=aB (vh h F);have H:=vp F (by have:=G.l;omega);unfold cellsOf at t;rw[v]at t;clear h k F;cases e1:(x==47)
  .have o:gH s x=Mk.resume {cH s with opn:=s.opn++[s.name],name:=[]}:=by simp[gH,e1]
   rw[o];clear o;go_enter func225,ntmps225
   go_wp2_with fail
   refine(aA y).mono ?_;rintro e w1 ⟨rfl,E,d⟩;obtain⟨z,A,B,-⟩:=H;clear y X t hf;generalize cH s=i at *;have I:=aB A;have J:=aB B;clear A B;have t:=d.rd.cell;have hf:=d.rd.frozen;have C:=d.rd.lt;have ho:=z.ho;have j:=(d.alloc (.cells #[.string ⟨i.name.toArray⟩] 9)).drew;have HO:=aB (j.rd.rows.own (bE i E) (by simp[rowsOf]));have HB:=aB (show(w1.alloc (.cells #[.string ⟨i.name.toArray⟩] 9)).drew.heap[w1.heap.size]?=_ from heap_alloc_new w1 _);have K:=aB (show i.opn.length+1≤maxLen by unfold maxLen;omega);have M:=aB (show b - 1≤(w1.alloc (.cells #[.string ⟨i.name.toArray⟩] 9)).drew.heap.size by simp;omega);have m:=aB j;unfold cellsOf at t;clear d j z;go_wp2
   go_region_law (refine step_append_lies _ rfl (.tmp 44) (.tmp 49) 34 rfl (b - 1) 9 i0 _ 1 16 underlying34 hi Y Z a0 rfl (by decide) (.slice E.oa i.opn.length E.oc) i.opn.length (i.opn.map sv) (by simp[Act.eval]) (aA HO) ⟨w1.heap.size,0,none⟩ 1 1 [.string ⟨i.name.toArray⟩] (by simp[Act.eval]) rfl (World.news_of_block (aA HB)) (by intro u hu;simp at hu;subst hu;rfl) (by decide) (aA K) (by omega) (aA M) (w1.heap.size+1) (by simp) ?_;intro g cap w2 hown hgrow N a1;obtain⟨o,a5⟩:=lg ((aA m).rd.grown (r:=bE i E) hgrow (by simp[rowsOf]));unfold cellsOf at o)
   all_goals
    have f:=((aA m).zn i.name hown hgrow (by simpa using N)).store 11 (.string ⟨#[]⟩) {i with opn:=i.opn++[i.name],name:=[]} rfl rfl rfl;have H3:=aB (qo f.rd);have O:=aB f;clear f m hown hgrow;go_wp2_with(go_at_call 189;refine(aA H3).mono ?_;rintro e w5 ⟨rfl,f⟩;have P:=aB f;clear f)
    go_ret;rw[←aA I,←aA J];exact⟨rfl,_,(aA O).call (aA P)⟩
  have o:gH s x={s with state:=19}:=by simp[gH,e1]
  rw[o];clear o y;go_enter func225,ntmps225
  go_wp2
  go_ret;exact⟨rfl,L,(aA X).store 4 _ _ rfl rfl rfl⟩
 have HH:=aB h;have q:=aB F;have Q:=aB (fun l (he:(Mk.enter s).2=some l)=>FC F G he);have aa:=G.l;cases p:(Mk.enter s).2 with
 |none=>
  have k:gQ s x=((Mk.enter s).1,8):=by unfold gQ;rw[v,p];rfl
  rw[k];have R:=aB (fun n=>FD ((aA HH).drewN n) (aA q) p);unfold cellsOf at t;rw[v]at t;clear h k F p Q HH q;go_enter func225,ntmps225
  go_wp2_with fail
  go_region_with (go_at_call 233;refine(aA R _).mono ?_;rintro e w1 ⟨rfl,E,d⟩)
  all_goals
   have a6:=aB (((aA X).drewN _).call d);clear d R;go_wp2
   go_ret;exact⟨rfl,E,aA a6⟩
 |some l=>
  have k:gQ s x=(gH {(Mk.enter s).1 with aC:=l} x,0):=by unfold gQ;rw[v,p];rfl
  rw[k];obtain⟨S,a2,a7,a3⟩:=(aA Q) l p;have R:=aB (fun n=>FE ((aA HH).drewN n) (aA q) l p a3);have H:=vp S (by show(Mk.enter s).1.list.length+200≤_;rw[a2];omega);have a8:=aB S;unfold cellsOf at t;rw[v]at t;clear h k F p Q a2 a7 S a3 HH q;cases e1:(x==47)
  .have o:gH {(Mk.enter s).1 with aC:=l} x=Mk.resume {cH {(Mk.enter s).1 with aC:=l}with opn:=(Mk.enter s).1.opn++[(Mk.enter s).1.name],name:=[]}:=by simp[gH,e1]
   rw[o];clear o;go_enter func225,ntmps225
   go_wp2_with fail
   go_region_with (go_at_call 233;refine(aA R _).mono ?_;rintro e w1 ⟨a,c,rfl,E,d,j⟩)
   all_goals
    have D:=d.rd.cell;have a4:=d.rd.frozen;have C:=d.rd.lt;have y:=aB (vh j.rd (aA a8));have m:=aB (((aA X).drewN _).call j);unfold cellsOf at D;clear d j R t hf;go_wp2_with fail
    refine(aA y).mono ?_;rintro e w3 ⟨rfl,L3,f⟩;have f:=(aA m).call f;obtain⟨z,A,B,-⟩:=H;clear y X D a4 m;generalize cH {(Mk.enter s).1 with aC:=l}=i at *;have I:=aB (show i.opn=(Mk.enter s).1.opn from A);have J:=aB (show i.name=(Mk.enter s).1.name from B);clear A B;have t:=f.rd.cell;have hf:=f.rd.frozen;have C:=f.rd.lt;have ho:=z.ho;have j:=(f.alloc (.cells #[.string ⟨i.name.toArray⟩] 9)).drew;have HO:=aB (j.rd.rows.own (bE i L3) (by simp[rowsOf]));have HB:=aB (show(w3.alloc (.cells #[.string ⟨i.name.toArray⟩] 9)).drew.heap[w3.heap.size]?=_ from heap_alloc_new w3 _);have K:=aB (show i.opn.length+1≤maxLen by unfold maxLen;omega);have M:=aB (show b - 1≤(w3.alloc (.cells #[.string ⟨i.name.toArray⟩] 9)).drew.heap.size by simp;omega);have m:=aB j;unfold cellsOf at t;clear f j z;go_wp2
    go_region_law (refine step_append_lies _ rfl (.tmp 44) (.tmp 49) 34 rfl (b - 1) 9 i0 _ 1 16 underlying34 hi Y Z a0 rfl (by decide) (.slice L3.oa i.opn.length L3.oc) i.opn.length (i.opn.map sv) (by simp[Act.eval]) (aA HO) ⟨w3.heap.size,0,none⟩ 1 1 [.string ⟨i.name.toArray⟩] (by simp[Act.eval]) rfl (World.news_of_block (aA HB)) (by intro u hu;simp at hu;subst hu;rfl) (by decide) (aA K) (by omega) (aA M) (w3.heap.size+1) (by simp) ?_;intro g cap w2 hown hgrow N a1;obtain⟨o,a5⟩:=lg ((aA m).rd.grown (r:=bE i L3) hgrow (by simp[rowsOf]));unfold cellsOf at o)
    all_goals
     have T:=((aA m).zn i.name hown hgrow (by simpa using N)).store 11 (.string ⟨#[]⟩) {i with opn:=i.opn++[i.name],name:=[]} rfl rfl rfl;have H3:=aB (qo T.rd);have O:=aB T;clear T m hown hgrow;go_wp2_with(go_at_call 189;refine(aA H3).mono ?_;rintro e w5 ⟨rfl,f⟩;have P:=aB f;clear f)
     go_ret;rw[←aA I,←aA J];exact⟨rfl,_,(aA O).call (aA P)⟩
  have o:gH {(Mk.enter s).1 with aC:=l} x={(Mk.enter s).1 with aC:=l,state:=19}:=by simp[gH,e1]
  rw[o];clear o;go_enter func225,ntmps225
  go_wp2_with fail
  go_region_with (go_at_call 233;refine(aA R _).mono ?_;rintro e w1 ⟨a,c,rfl,E,d,j⟩)
  all_goals
   have D:=d.rd.cell;have a4:=d.rd.frozen;have C:=d.rd.lt;have m:=aB (((aA X).drewN _).call j);unfold cellsOf at D;clear d j R t hf;go_wp2
   go_ret;exact⟨rfl,_,(aA m).store 4 _ {(Mk.enter s).1 with aC:=l,state:=19} rfl rfl rfl⟩
theorem vq(h:aK w b s L)(l:Bd s)(g:Sl s)(x:Int):
 Calls Tryz.prog 202 #[.pointer (some ⟨b,0,none⟩),.int .u8 x] w (Does w b s L (fO s x)):=by
 have o:=h.cell;have q:=h.frozen;have p:=h.lt;have m:=aB h;have d:=aB (FF h l g x);unfold cellsOf at o;clear h l;cases f:Mk.cB x
 .cases i:(x==47)
  .cases n:(x==62)
   .have a:fO s x=(s,3):=by simp[fO,f,i,n]
    rw[a];clear a d;go_enter func202,ntmps202
    go_wp2_with(go_at_call 132;refine(bY _ _).mono ?_;rintro e w1 ⟨rfl,rfl⟩)
    go_ret;exact⟨rfl,L,(aA m).start⟩
   have a:fO s x=gQ s x:=by simp[fO,f,i,n]
   rw[a];clear a;generalize gQ s x=z at *;go_enter func202,ntmps202
   go_wp2_with(first|(go_at_call 132;refine(bY _ _).mono ?_;rintro e w1 ⟨rfl,rfl⟩)|(go_at_call 225;refine(aA d).mono ?_;rintro e w2 ⟨rfl,j,c⟩;have k:=aB c;clear c))
   go_ret;exact⟨rfl,j,aA k⟩
  have a:fO s x=gQ s x:=by simp[fO,f,i]
  rw[a];clear a;generalize gQ s x=z at *;go_enter func202,ntmps202
  go_wp2_with(first|(go_at_call 132;refine(bY _ _).mono ?_;rintro e w1 ⟨rfl,rfl⟩)|(go_at_call 225;refine(aA d).mono ?_;rintro e w2 ⟨rfl,j,c⟩;have k:=aB c;clear c))
  go_ret;exact⟨rfl,j,aA k⟩
 have a:fO s x=({s with state:=13},0):=by simp[fO,f]
 rw[a];clear a d;go_enter func202,ntmps202
 go_wp2_with(go_at_call 132;refine(bY _ _).mono ?_;rintro e w1 ⟨rfl,rfl⟩)
 go_ret;exact⟨rfl,L,(aA m).start.store 4 _ _ rfl rfl rfl⟩
theorem FG(h:aK w b s L)(i:Bd s):
 Calls Tryz.prog 138 #[.pointer (some ⟨b,0,none⟩)] w fun e w' =>e=.returned (.tuple #[])∧∃L', Mv w b (aJ s L) w' (Mk.endValue s) L' :=by
 have u:=aB (oZ h);have F:=aB h;have HA:=aB i.am;have G:=i.ha;obtain⟨y,z,j,k,l⟩:=info_parts infoAt;clear h i;go_enter func138,ntmps138
 go_wp2_with fail
 refine(aA u).mono ?_;rintro e w1 ⟨rfl,c,a⟩;have A:=a.rd.cell;have H:=a.rd.frozen;have v:=a.rd.lt;have d:=(a.alloc (.cells #[.string ⟨s.attr.toArray⟩,.string ⟨#[]⟩,.string ⟨s.token.toArray⟩] 69)).drew;have hrow:=d.rd.rows.own (bD (aY s) c) (by simp[rowsOf]);have m:bD (aY s) c=⟨69,3,.slice c.aa s.aC.length c.ac,s.aC.length,aV s.aC⟩:=by simp[bD,aY,aA HA]
 rw[m]at hrow;have B:=aB hrow;have C:=aB (show(w1.alloc (.cells #[.string ⟨s.attr.toArray⟩,.string ⟨#[]⟩,.string ⟨s.token.toArray⟩] 69)).drew.heap[w1.heap.size]?=_ from heap_alloc_new w1 _);have n:=aB (show s.aC.length+1≤maxLen by unfold maxLen;omega);have o:=aB (show b - 1≤(w1.alloc (.cells #[.string ⟨s.attr.toArray⟩,.string ⟨#[]⟩,.string ⟨s.token.toArray⟩] 69)).drew.heap.size by simp;omega);have f:=aB d;have p:=aB m;unfold cellsOf at A;clear a d hrow u m;go_wp2
 go_region_law (refine step_append_lies _ rfl (.tmp 9) (.tmp 16) 63 rfl (b - 1) 69 y _ 3 48 underlying63 z j k l rfl (by decide) (.slice c.aa s.aC.length c.ac) s.aC.length (aV s.aC) (by simp[Act.eval,aY]) (aA B) ⟨w1.heap.size,0,none⟩ 1 1 (bZ ⟨s.attr,[],s.token⟩) (by simp[Act.eval]) rfl (World.news_of_block (aA C)) (Fz _) (by decide) (aA n) (by omega) (aA o) (w1.heap.size+1) (by simp) ?_;intro g cap w2 hown hgrow q x;obtain⟨D,E⟩:=lg ((aA f).rd.grown (r:=bD (aY s) c) (by rw[aA p];exact hgrow) (by simp[rowsOf]));unfold cellsOf at D)
 all_goals
  have t:=aB ((((aA f).Fy (⟨s.attr,[],s.token⟩:aD) (aA HA) hown hgrow (by simpa[aY]using q)).store 12 (.string ⟨#[]⟩) {aY s with aC:=s.aC++[(⟨s.attr,[],s.token⟩:aD)],attr:=[]} rfl rfl rfl).store 4 (.int .i64 18) {aY s with aC:=s.aC++[(⟨s.attr,[],s.token⟩:aD)],attr:=[],state:=18} rfl rfl rfl);clear hown hgrow;go_wp2
  go_end0
  exact⟨rfl,_,aA t⟩
theorem flat_get{d e:Type}(f:d→List e)(m:Nat)(b:∀a,(f a).length=m):∀(l:List d) (k:Nat) (h:k<l.length) (j:Nat),j<m→(l.flatMap f)[k*m+j]?=(f l[k])[j]?
 |a::l,0,_,j,c=>by simp only[List.flatMap_cons,Nat.zero_mul,Nat.zero_add,List.getElem_cons_zero];rw[List.getElem?_append_left (by rw[b];exact c)]
 |a::l,k+1,h,j,c=>by
  simp only[List.flatMap_cons,List.getElem_cons_succ];rw[List.getElem?_append_right (by rw[b,Nat.succ_mul];omega),b];have:(k+1)*m+j - m=k*m+j:=by rw[Nat.succ_mul];omega
  rw[this];exact flat_get f m b l k (by simpa using h) j c
theorem qx{base:Nat}{e:TypeId}{size g n c:Nat}{d:List Value}(h:w.ownsRow base e size (.slice (some ⟨g,0,none⟩) n c) n d)(j:Nat)(f:j<n*size):w.cell? ⟨g,j,none⟩=d[j]?:=by
 rcases h.2 with⟨i,_⟩|⟨p,cap,b,k,q,l,m,_,o,a⟩
 .cases i
 cases k;rw[cell_of_row w g j b _ _ l,←a,List.getElem?_take_of_lt f];simp
theorem qz(h:aK w b s L)(o:s.am=false)(F:s.aC.length≤100000000)(x:Bs):
 Calls Tryz.prog 224 #[.pointer (some ⟨b,0,none⟩),.string ⟨x.toArray⟩] w fun e w' =>e=.returned (.bool (Pu s x))∧w' =w:=by
 have B:=h.cell;have hrow:=h.rows.own (bD s L) (by simp[rowsOf]);have f:bD s L=⟨69,3,.slice L.aa s.aC.length L.ac,s.aC.length,aV s.aC⟩:=by simp[bD,o]
 rw[f]at hrow;have c:∀k (p:k<s.aC.length),∃g,L.aa=some ⟨g,0,none⟩∧w.cell? ⟨g,k*3,none⟩=some (.string ⟨s.aC[k].name.toArray⟩):=by
  intro k p;obtain⟨g,cap,C,_,_⟩:=World.ownsRow.form hrow (by show 0<s.aC.length;omega);have q:Value.slice L.aa s.aC.length L.ac=.slice (some ⟨g,0,none⟩) s.aC.length cap:=C;injection q with z G H;refine⟨g,z,?_⟩;have j:w.ownsRow (b - 1) 69 3 (.slice (some ⟨g,0,none⟩) s.aC.length L.ac) s.aC.length (aV s.aC):=by
   rw[←z];exact hrow
  have:=qx j (k*3) (by omega);rw[this];have D:=flat_get bZ 3 (fun _=>rfl) s.aC k p 0 (by decide);simpa[aV,bZ]using D
 unfold cellsOf at B;clear h hrow f;obtain⟨r,t⟩:∃r,Pu s x=r:=⟨_,rfl⟩;rw[t];have u:=aB t;have v:=aB c;clear t c;go_enter func224,ntmps224
 go_wp2
 go_loop [5] (fun i=>∃k:Nat,k≤s.aC.length∧i=.int .i64 k∧Hid (r=(s.aC.drop k).any fun a=>decide (a.name=x))) (fun i=>s.aC.length - (intOf i).toNat)
 case atStart=>exact⟨0,by omega,rfl,(aA u).symm⟩
 case round=>
  obtain⟨k,p,rfl,n⟩:=hrel;by_cases l:k<s.aC.length
  .obtain⟨g,I,J⟩:=(aA v) k l;have d:r=(decide (s.aC[k].name=x)||(s.aC.drop (k+1)).any fun a=>decide (a.name=x)):=by
    rw[aA n,List.drop_eq_getElem_cons l,List.any_cons]
   have A:=aB d;generalize s.aC[k].name=y at *;clear d n u v;cases f:(y==x)
   .go_wp2
    go_round
    case rel=>exact⟨k+1,by omega,by go_num,by have m:=aA A;have j:decide (y=x)=false:=(by simpa using f);rw[j]at m;exact m⟩
    case measure=>simp[intOf];omega
   go_wp2
   go_ret;have m:=aA A;have j:decide (y=x)=true:=by simpa using f
   rw[j]at m;exact⟨Pq m.symm,rfl⟩
  have hd:r=false:=by rw[aA n,List.drop_eq_nil_of_le (by omega)];rfl
  have E:=aB hd;have e0:decide ((k:Int)<(s.aC.length:Int))=false:=by simp;omega
  clear hd n u v;go_wp2
  go_ret;exact⟨Pq (aA E).symm,rfl⟩
end Go.Proofs.YtmgfijllcdadgaaGreatDoor
