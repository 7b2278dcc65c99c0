import Derived.Test.YtmgfijllcdadgaaGreatDoorNW05
import Derived.Test.YtmgfijllcdadgaaGreatDoorNW04
import Derived.Test.YtmgfijllcdadgaaGreatDoorNW00
set_option linter.unusedVariables false
set_option linter.unusedSimpArgs false
set_option maxHeartbeats 4000000
set_option maxRecDepth 100000
namespace Go.Proofs.YtmgfijllcdadgaaGreatDoor
open Go.RowKit
open Mk (St Bs Ev aD)
open Tryz
open Mk (iP fw cW gq kE aQ dI fB cH cK cG fN iO k_ eD dR)
variable {w:World}{b cap:Nat}{s:St}{L:Lay}
theorem zf{base:Nat}{e:TypeId}{size n:Nat}{a:Option Addr}{c:Nat}{l:List Value}(h:w.ownsRow base e size (.slice a n c) n l)(k:Nat)(m:k≤n):w.ownsRow base e size (.slice a k c) k (l.take (k*size)):=by
 have x:=h.1;have o:k*size≤n*size:=Nat.mul_le_mul_right _ m;refine⟨by rw[List.length_take];omega,?_⟩;rcases h.2 with⟨p,y⟩|⟨g,cap,d,q,r,s,t,u,f,b⟩
 .injection p with i v j;have:k=0:=by omega
  subst this;exact .inl ⟨by rw[i,j],rfl⟩
 injection q with i v j;refine .inr ⟨g,cap,d,by rw[i,j],r,s,by omega,u,f,?_⟩;rw[←b,List.take_take];congr 1
 omega
theorem Fh(l:List (Bs×Bs)):∀(k:Nat),dS (l.take k)=(dS l).take (k*2):=by
 induction l with
 |nil=>intro k;simp[dS]
 |cons x r ih=>
  intro k;cases k with
  |zero=>simp[dS]
  |succ k=>
   have a:dS (x::r)=.string ⟨x.1.toArray⟩::.string ⟨x.2.toArray⟩::dS r:=rfl;have b:(k+1)*2=k*2+1+1:=by omega
   have c:dS (x::r.take k)=.string ⟨x.1.toArray⟩::.string ⟨x.2.toArray⟩::dS (r.take k):=rfl;rw[List.take_succ_cons,a,b,c,List.take_succ_cons,List.take_succ_cons,ih k]
section
variable {w0 w:World}{b:Nat}{f0:List Nat}{s:St}{L:Lay}
theorem Mv.sw(m:Mv w0 b f0 w s L)(k:Nat)(e:k≤s.aG.length):Mv w0 b f0 (w.setCell ⟨b,7,none⟩ (.slice L.ba k L.bc)) {s with aG:=s.aG.take k} L:=by
 have hrow:=m.rd.rows.own (bM s L) (by simp[rowsOf]);have c:w.ownsRow (b - 1) 139 2 (.slice L.ba s.aG.length L.bc) s.aG.length (dS s.aG):=hrow;have a:(s.aG.take k).length=k:=by rw[List.length_take];omega
 have hown:(bM {s with aG:=s.aG.take k} L).owned w (b - 1):=by
  show w.ownsRow (b - 1) 139 2 (.slice L.ba (s.aG.take k).length L.bc) (s.aG.take k).length (dS (s.aG.take k));rw[a,Fh];exact zf c k e
 have d:w.grownBy w (bM s L).v.ownBlock:=⟨rfl,rfl,rfl,Nat.le_refl _,fun _ _ _=>rfl⟩;refine m.grow (s' :={s with aG:=s.aG.take k}) (L' :=L) (r:=bM s L) (r' :=bM {s with aG:=s.aG.take k} L) (rs:=bE s L::bQ s L::bD s L::bJ s L::cA s L::bS s L::L.es.map aN) 7 _ (qp _ _ _ _ _ _ _) (qp _ _ _ _ _ _ _) hown d (.inl ?_) ?_ m.rd.evs
 .simp only[bM];cases L.ba<;>rfl
 simp[cellsOf,a]
theorem Mv.zh(m:Mv w0 b f0 w s L)(k:Nat)(e:k≤s.cnt.length):Mv w0 b f0 (w.setCell ⟨b,8,none⟩ (.slice L.ca k L.cc)) {s with cnt:=s.cnt.take k} L:=by
 have hrow:=m.rd.rows.own (bS s L) (by simp[rowsOf]);have c:w.ownsRow (b - 1) 3 1 (.slice L.ca s.cnt.length L.cc) s.cnt.length (s.cnt.map nv):=hrow;have a:(s.cnt.take k).length=k:=by rw[List.length_take];omega
 have hown:(bS {s with cnt:=s.cnt.take k} L).owned w (b - 1):=by
  show w.ownsRow (b - 1) 3 1 (.slice L.ca (s.cnt.take k).length L.cc) (s.cnt.take k).length ((s.cnt.take k).map nv);rw[a,List.map_take];have:=zf c k e;rw[Nat.mul_one]at this;exact this
 have d:w.grownBy w (bS s L).v.ownBlock:=⟨rfl,rfl,rfl,Nat.le_refl _,fun _ _ _=>rfl⟩;refine m.grow (s' :={s with cnt:=s.cnt.take k}) (L' :=L) (r:=bS s L) (r' :=bS {s with cnt:=s.cnt.take k} L) (rs:=bE s L::bQ s L::bD s L::bJ s L::cA s L::bM s L::L.es.map aN) 8 _ (su _ _ _ _ _ _ _ _) (su _ _ _ _ _ _ _ _) hown d (.inl ?_) ?_ m.rd.evs
 .simp only[bS];cases L.ca<;>rfl
 simp[cellsOf,a]
end
theorem Fj(h:aK w b s L)(J:s.aG.length≤300000000)(q:s.cnt.length≤100000100)(r:∀c∈s.cnt,c≤32):
 Calls Tryz.prog 232 #[.pointer (some ⟨b,7,none⟩)] w fun e w' =>e=.returned (.tuple #[])∧∃L', Mv w b (aJ s L) w' (Mk.leave s) L' :=by
 have A:=aB (y_ h J q r);have t:=Qj s;have u:Mk.leave s={s with aG:=s.aG.take (Mk.first s),cnt:=s.cnt.dropLast}:=rfl;rw[u];clear u;generalize Mk.first s=F at *
 have B:=aB h;have d:w.ownsRow (b - 1) 139 2 (.slice L.ba s.aG.length L.bc) s.aG.length (dS s.aG):=h.rows.own (bM s L) (by simp[rowsOf]);have f:=uZ d;clear d r;by_cases v:s.cnt=[]
 .have H:s.cnt.length=0:=by simp[v]
  have i:s.cnt.dropLast=s.cnt:=by rw[v];rfl
  rw[i];clear h v i;rcases f with⟨j,o,y⟩|⟨g,j,o,y,D⟩
  .have E:F=0:=by omega
   subst E;go_enter func232,ntmps232
   go_wp2_with fail
   refine(aA A).mono ?_;rintro e w1 ⟨rfl,n,rfl⟩;have a:=(aA B).start.drewN n;have k:=a.rd.cell;have G:=a.rd.frozen;have p:=a.rd.lt;have m:=aB (a.sw 0 (by omega));unfold cellsOf at k;rw[j,o]at m;rw[j,o,y,H]at k;clear a;generalize w.drewN n=w1 at *;go_wp2
   go_end0
   exact⟨rfl,L,aA m⟩
  go_enter func232,ntmps232
  go_wp2_with fail
  refine(aA A).mono ?_;rintro e w1 ⟨rfl,n,rfl⟩;have a:=(aA B).start.drewN n;have k:=a.rd.cell;have G:=a.rd.frozen;have p:=a.rd.lt;have m:=aB (a.sw F t);unfold cellsOf at k;rw[j]at m;rw[j,H]at k;clear a D;have K:¬(F:Int)<0:=by omega
  have M:(F:Int)≤(L.bc:Int):=by omega
  generalize w.drewN n=w1 at *;go_wp2
  go_end0
  exact⟨rfl,L,aA m⟩
 obtain⟨l,x,g2,I,z,C,P,N⟩:=Qk h v;have i:s.cnt.dropLast=s.cnt.take l.length:=by rw[I];simp
 rw[i];clear h v i I N;rw[z]at q;have O:((l.length+1:Nat):Int) - 1=(l.length:Int):=by omega
 rcases f with⟨j,o,y⟩|⟨g,j,o,y,D⟩
 .have E:F=0:=by omega
  subst E;go_enter func232,ntmps232
  go_wp2_with fail
  refine(aA A).mono ?_;rintro e w1 ⟨rfl,n,rfl⟩;have a:=(aA B).start.drewN n;have k:=a.rd.cell;have G:=a.rd.frozen;have p:=a.rd.lt;have m:=aB (((a.sw 0 (by omega)).zh l.length (by rw[z];omega)).drew);unfold cellsOf at k;rw[j,o,C]at m;rw[j,o,y,z,C]at k;clear a;generalize w.drewN n=w1 at *;go_wp2
  go_region
  all_goals
   go_wp2
   go_end0
   exact⟨rfl,L,aA m⟩
 go_enter func232,ntmps232
 go_wp2_with fail
 refine(aA A).mono ?_;rintro e w1 ⟨rfl,n,rfl⟩;have a:=(aA B).start.drewN n;have k:=a.rd.cell;have G:=a.rd.frozen;have p:=a.rd.lt;have m:=aB (((a.sw F t).zh l.length (by rw[z];omega)).drew);unfold cellsOf at k;rw[j,C]at m;rw[j,z,C]at k;clear a D;have K:¬(F:Int)<0:=by omega
 have M:(F:Int)≤(L.bc:Int):=by omega
 generalize w.drewN n=w1 at *;go_wp2
 go_region
 all_goals
  go_wp2
  go_end0
  exact⟨rfl,L,aA m⟩
theorem Fp(h:aK w b s L)(x:Int):
 Calls Tryz.prog 96 #[.pointer (some ⟨b,0,none⟩),.int .u8 x] w (Does w b s L (iP s x)):=by
 have g:=h.cell;have j:=h.frozen;have i:=h.lt;have c:=aB h;unfold cellsOf at g;clear h;cases d:Mk.cB x
 .cases f:(x==60)
  .have a:iP s x=(s,3):=by simp[iP,d,f]
   rw[a];go_enter func96,ntmps96
   go_wp2_with(go_at_call 132;refine(bY _ _).mono ?_;rintro e w1 ⟨rfl,rfl⟩)
   go_ret;exact⟨rfl,L,(aA c).start⟩
  have a:iP s x=({s with state:=3},0):=by simp[iP,d,f]
  rw[a];go_enter func96,ntmps96
  go_wp2_with(go_at_call 132;refine(bY _ _).mono ?_;rintro e w1 ⟨rfl,rfl⟩)
  go_ret;exact⟨rfl,L,(aA c).start.store 4 _ _ rfl rfl rfl⟩
 have a:iP s x=(s,0):=by simp[iP,d]
 rw[a];go_enter func96,ntmps96
 go_wp2_with(go_at_call 132;refine(bY _ _).mono ?_;rintro e w1 ⟨rfl,rfl⟩)
 go_ret;exact⟨rfl,L,(aA c).start⟩
theorem Fq(h:aK w b s L)(v:Bd s)(x:Int)(z:0≤x)(A:x≤255):
 Calls Tryz.prog 97 #[.pointer (some ⟨b,0,none⟩),.int .u8 x] w (Does w b s L (fw s x)):=by
 have F:=h.cell;have I:=h.frozen;have G:=h.lt;have y:=h.start.store 16 (.int .i64 0) {s with brackets:=0} rfl rfl rfl;have a:=(y.store 16 (.int .i64 2) {s with brackets:=2} rfl rfl rfl);have i:=(a.store 16 (.int .i64 1) {s with brackets:=1} rfl rfl rfl);have o:=aB y;have p:=aB a;have q:=aB i;have j:=aB (mL y.rd {v with} x z A);have d:=aB (mL a.rd {v with} x z A);have f:=aB (mL i.rd {v with} x z A);unfold cellsOf at F;clear h y a i v;cases k:(x==60)
 .cases n:(x==38)
  .cases r:(x==62)
   .cases B:(x==93)
    .have c:fw s x=cW {s with brackets:=0} x:=by simp only[fw,k,n,r,B];rfl
     rw[c];clear c d f;go_enter func97,ntmps97
     go_wp2_with(go_at_call 134;refine(aA j).mono ?_;rintro e w1 ⟨rfl,l,a⟩;have m:=aB a;clear a)
     go_ret;exact⟨rfl,l,(aA o).call (aA m)⟩
    cases t:(s.brackets==0)
    .have c:fw s x=cW {s with brackets:=2} x:=by simp only[fw,k,n,r,B,t];rfl
     rw[c];clear c j f;go_enter func97,ntmps97
     go_wp2_with(go_at_call 134;refine(aA d).mono ?_;rintro e w1 ⟨rfl,l,a⟩;have m:=aB a;clear a)
     go_ret;exact⟨rfl,l,(aA p).call (aA m)⟩
    have c:fw s x=cW {s with brackets:=1} x:=by simp only[fw,k,n,r,B,t];rfl
    rw[c];clear c j d;go_enter func97,ntmps97
    go_wp2_with(go_at_call 134;refine(aA f).mono ?_;rintro e w1 ⟨rfl,l,a⟩;have m:=aB a;clear a)
    go_ret;exact⟨rfl,l,(aA q).call (aA m)⟩
   cases t:(s.brackets==2)
   .have c:fw s x=cW {s with brackets:=0} x:=by simp only[fw,k,n,r,t];rfl
    rw[c];clear c d f;go_enter func97,ntmps97
    go_wp2_with(go_at_call 134;refine(aA j).mono ?_;rintro e w1 ⟨rfl,l,a⟩;have m:=aB a;clear a)
    go_ret;exact⟨rfl,l,(aA o).call (aA m)⟩
   have c:fw s x=({s with brackets:=0},3):=by simp only[fw,k,n,r,t];rfl
   rw[c];clear c j d f;go_enter func97,ntmps97
   go_wp2
   go_ret;exact⟨rfl,L,aA o⟩
  have c:fw s x=(Mk.setRef {s with brackets:=0} ⟨1,[],0⟩,0):=by simp only[fw,k,n];rfl
  rw[c];clear c j d f p q;go_enter func97,ntmps97
  go_wp2_with(go_at_call 133;refine(yP _).mono ?_;rintro e w1 ⟨rfl,u⟩;have g:=(aA o).below u;have C:=g.rd.cell;have H:=g.rd.frozen;have E:=g.rd.lt;have D:=aB g;clear g;unfold cellsOf at C)
  go_ret;exact⟨rfl,L,(((aA D).store 20 (.int .i64 1) {s with brackets:=0,rp:=1} rfl rfl rfl).store 21 (.string ⟨#[]⟩) {s with brackets:=0,rp:=1,rn:=[]} rfl rfl rfl).store 22 _ _ rfl rfl rfl⟩
 have c:fw s x=({s with brackets:=0,state:=3},0):=by simp only[fw,k];rfl
 rw[c];clear c j d f;go_enter func97,ntmps97
 go_wp2
 go_ret;exact⟨rfl,L,(aA o).store 4 _ _ rfl rfl rfl⟩
theorem Qa(h:aK w b s L)(a:Bd s)(c:Int)(d:0≤c)(f:c≤1114111):
 Calls Tryz.prog 130 #[.pointer (some ⟨b,0,none⟩),.int .i64 c] w fun e w' =>e=.returned (.tuple #[])∧∃L', Mv w b (aJ s L) w' (Mk.put s c) L' :=
 oV h c d f (Nat.le_trans a.hx (by decide)) (Nat.le_trans a.ht (by decide)) a.c0 (Int.le_trans a.c1 (by decide))
theorem Fs(h:aK w b s L)(o:Bd s)(x:Int)(t:0≤x)(u:x≤255):
 Calls Tryz.prog 98 #[.pointer (some ⟨b,0,none⟩),.int .u8 x] w (Does w b s L (gq s x)):=by
 have v:=h.cell;have z:=h.frozen;have y:=h.lt;have A:=o.hh;have q:=aB h;have j:=aB (mL h o x t u);have k:=aB (Qa h o 93 (by decide) (by decide));have c:=yT s.held 93;unfold cellsOf at v;clear h o;cases r:(x==62)
 .have g:x≠62:=by simpa using r
  cases p:(x==93)
  .have i:x≠93:=by simpa using p
   have d:gq s x=cW s x:=by simp[gq,g,i]
   rw[d];clear d g i k c;go_enter func98,ntmps98
   go_wp2_with(go_at_call 134;refine(aA j).mono ?_;rintro e w1 ⟨rfl,l,a⟩;have m:=aB a;clear a)
   go_ret;exact⟨rfl,l,aA m⟩
  have i:x=93:=by simpa using p
  cases n:(s.held==[93,93])
  .have f:s.held≠[93,93]:=by simpa using n
   have d:gq s x=({s with held:=s.held++[93]},0):=by simp[gq,i,f]
   rw[d];clear d g i f k j;go_enter func98,ntmps98
   go_wp2
   go_ret;exact⟨rfl,L,(aA q).start.store 15 _ _ rfl rfl rfl⟩
  have f:s.held=[93,93]:=by simpa using n
  have d:gq s x=(Mk.put s 93,0):=by simp[gq,i,f]
  rw[d];clear d g i f j c;go_enter func98,ntmps98
  go_wp2_with(go_at_call 130;refine(aA k).mono ?_;rintro e w1 ⟨rfl,l,a⟩;have m:=aB a;clear a)
  go_ret;exact⟨rfl,l,aA m⟩
 have g:x=62:=by simpa using r
 have p:(x==93)=false:=by simp[g]
 cases n:(s.held==[93,93])
 .have f:s.held≠[93,93]:=by simpa using n
  have d:gq s x=cW s x:=by simp[gq,g,f]
  rw[d];clear d g f k c;go_enter func98,ntmps98
  go_wp2_with(go_at_call 134;refine(aA j).mono ?_;rintro e w1 ⟨rfl,l,a⟩;have m:=aB a;clear a)
  go_ret;exact⟨rfl,l,aA m⟩
 have f:s.held=[93,93]:=by simpa using n
 have d:gq s x=({s with held:=[],state:=1},0):=by simp[gq,g,f]
 rw[d];clear d g f k j c;go_enter func98,ntmps98
 go_wp2
 go_ret;exact⟨rfl,L,((aA q).start.store 15 (.string ⟨#[]⟩) {s with held:=[]} rfl rfl rfl).store 4 _ _ rfl rfl rfl⟩
theorem Ft(h:aK w b s L)(d:Bd s)(x:Int)(j:0≤x)(p:x≤255):
 Calls Tryz.prog 191 #[.pointer (some ⟨b,0,none⟩),.int .u8 x] w (Does w b s L (kE s x)):=by
 have k:=h.cell;have q:=h.frozen;have l:=h.lt;have r:=d.ho;have f:=aB h;have g:=aB (fun n=>Qa ((h.start.drewN n).store 4 (.int .i64 12) {s with state:=12} rfl rfl rfl).rd {d with} x j (by omega));unfold cellsOf at k;clear h d;by_cases i:s.od≤s.opn.length
 .have a:kE s x=(s,7):=by simp[kE,i]
  rw[a];clear a g;go_enter func191,ntmps191
  go_wp2
  go_quiet(fail)
  go_wp2
  go_ret;exact⟨rfl,L,(aA f).start.drewN _⟩
 have a:kE s x=(Mk.put {s with state:=12} x,0):=by simp[kE,i]
 rw[a];have t:decide (s.od≤(s.opn.length:Int))=false:=by simp;omega
 clear a;go_enter func191,ntmps191
 go_wp2
 go_quiet(fail)
 go_wp2_with(go_at_call 130;refine(aA g _).mono ?_;rintro e w1 ⟨rfl,m,c⟩;have o:=aB c;clear c)
 go_ret;exact⟨rfl,m,(((aA f).start.drewN _).store 4 (.int .i64 12) {s with state:=12} rfl rfl rfl).call (aA o)⟩
theorem kG(s:St)(e:Ev):Mk.add s e={s with list:=(Mk.add s e).list,text:=(Mk.add s e).text}:=by
 unfold Mk.add aQ;split<;>rfl
theorem sD:∀(l:List (Bs×Bs)) (s:St),dI s l={s with list:=(dI s l).list,text:=(dI s l).text}
 |[],s=>rfl
 |p::r,s=>by
  show dI (Mk.add s _) r={s with list:=(dI (Mk.add s _) r).list,text:=(dI (Mk.add s _) r).text};have a:=sD r (Mk.add s ⟨6,p.1,[],p.2,[]⟩);have b:=kG s ⟨6,p.1,[],p.2,[]⟩;rw[b]at a⊢;exact a
theorem sF:∀(l:List (Bs×Bs)) (s:St),fB s l={s with list:=(fB s l).list,text:=(fB s l).text}
 |[],s=>rfl
 |p::r,s=>by
  show fB (Mk.add s _) r={s with list:=(fB (Mk.add s _) r).list,text:=(fB (Mk.add s _) r).text};have a:=sF r (Mk.add s ⟨7,p.1,[],[],[]⟩);have b:=kG s ⟨7,p.1,[],[],[]⟩;rw[b]at a⊢;exact a
theorem nJ(s:St):cH s={s with list:=(cH s).list,text:=(cH s).text,aC:=[]}:=by
 have a:=kG (cK s) ⟨1,s.name,Mk.aZ s s.name,[],s.aC⟩;have b:cK s={s with list:=(cK s).list,text:=(cK s).text}:=sD (cG s) s;unfold cH;rw[a];rw[b]
theorem sG:∀(d:List aD) (b:List (Bs×Bs)) (c:Nat),(fN d b c).1.length≤b.length+d.length∧(fN d b c).2.1≤c+d.length
 |[],b,c=>⟨by simp[fN],by simp[fN]⟩
 |a::r,b,c=>by
  unfold fN;split
  .have:=sG r b c;simp only[List.length_cons];omega
  split
  .simp only[List.length_cons];omega
  have:=sG r (b++[(Mk.declared a.name,a.val)]) (c+1);simp only[List.length_cons,List.length_append,List.length_nil]at this⊢;omega
theorem Qb(aG:List (Bs×Bs))(m:Nat):∀(d b l:List aD),iO aG d b=some l→l.length≤b.length+d.length∧((∀a∈b,a.val.length≤m)→(∀a∈d,a.val.length≤m)→∀a∈l,a.val.length≤m)
 |[],b,l,h=>by cases h;exact⟨by simp,fun h _=>h⟩
 |a::r,b,l,h=>by
  unfold iO at h;split at h
  .have:=Qb aG m r b l h;exact⟨by simp only[List.length_cons];omega,fun f e=>this.2 f fun x c=>e x (List.mem_cons_of_mem _ c)⟩
  split at h
  .cases h
  have:=Qb aG m r _ l h;refine⟨by simp only[List.length_cons,List.length_append,List.length_nil]at this⊢;omega,fun f e=>this.2 (fun x c=>?_) fun x c=>e x (List.mem_cons_of_mem _ c)⟩;rcases List.mem_append.1 c with c|c
  .exact f x c
  simp at c;subst c;have:(k_ aG a).val=a.val:=by unfold k_;split<;>rfl
  rw[this];exact e a List.mem_cons_self
theorem sH(aG:List (Bs×Bs))(m:Nat):∀(d b l:List aD),iO aG d b=some l→l.length≤b.length+d.length∧((∀a∈b,a.name.length≤m)→(∀a∈d,a.name.length≤m)→∀a∈l,a.name.length≤m)
 |[],b,l,h=>by cases h;exact⟨by simp,fun h _=>h⟩
 |a::r,b,l,h=>by
  unfold iO at h;split at h
  .have:=sH aG m r b l h;exact⟨by simp only[List.length_cons];omega,fun f e=>this.2 f fun x c=>e x (List.mem_cons_of_mem _ c)⟩
  split at h
  .cases h
  have:=sH aG m r _ l h;refine⟨by simp only[List.length_cons,List.length_append,List.length_nil]at this⊢;omega,fun f e=>this.2 (fun x c=>?_) fun x c=>e x (List.mem_cons_of_mem _ c)⟩;rcases List.mem_append.1 c with c|c
  .exact f x c
  simp at c;subst c;have:(k_ aG a).name=a.name:=by unfold k_;split<;>rfl
  rw[this];exact e a List.mem_cons_self
theorem qq(s:St):(Mk.declare s).1={s with aG:=(fN s.aC s.aG 0).1,cnt:=(Mk.declare s).1.cnt}∧((Mk.declare s).1.cnt=s.cnt∨(Mk.declare s).1.cnt=s.cnt++[(fN s.aC s.aG 0).2.1]):=by
 unfold Mk.declare;dsimp only;split
 .exact⟨rfl,.inr rfl⟩
 exact⟨rfl,.inl rfl⟩
theorem zi(s:St):(Mk.enter s).1=s∨(Mk.enter s).1=(Mk.declare s).1:=by
 unfold Mk.enter;repeat' split
 all_goals first|exact .inl rfl|exact .inr rfl
theorem Qc{l:List aD}(h:(Mk.enter s).2=some l):(Mk.enter s).1=(Mk.declare s).1∧iO (Mk.declare s).1.aG s.aC []=some l:=by
 unfold Mk.enter at h⊢;split at h
 .cases h
 rename_i a;rw[if_neg a];split at h
 .cases h
 rename_i b;rw[if_neg b];split at h
 .cases h
 rename_i c;rw[if_neg c];exact⟨rfl,h⟩
theorem Fu(s:St):eD s={s with list:=(eD s).list,text:=(eD s).text}:=sF _ s
theorem Fv(s:St):cK s={s with list:=(cK s).list,text:=(cK s).text}:=sD _ s
theorem Qd(s:St)(e:Ev):(Mk.add s e).text.length≤s.text.length∧(Mk.add s e).list.length≤s.list.length+2:=by
 unfold Mk.add aQ;split
 .exact⟨Nat.le_refl _,by simp⟩
 exact⟨by simp,by simp⟩
theorem u_:∀(l:List (Bs×Bs)) (s:St),(dI s l).text.length≤s.text.length∧(dI s l).list.length≤s.list.length+2*l.length
 |[],s=>⟨Nat.le_refl _,by simp[dI]⟩
 |p::r,s=>by
  have a:=u_ r (Mk.add s ⟨6,p.1,[],p.2,[]⟩);have b:=Qd s ⟨6,p.1,[],p.2,[]⟩;unfold dI;simp only[List.length_cons];omega
theorem sI(h:∀c∈s.cnt,c≤32):(cG s).length≤32:=by
 unfold cG Mk.first
 rw[List.length_drop];split
 .omega
 rename_i c a;have:=h c (List.mem_of_getLast? a);split<;>omega
theorem zk(s:St)(e:Ev):(Mk.add s e).text.length≤s.text.length∧(Mk.add s e).list.length≤s.list.length+2:=by
 unfold Mk.add aQ;split
 .exact⟨Nat.le_refl _,by simp⟩
 exact⟨by simp,by simp⟩
structure zl(w1:World)(b:Nat)(f0:List Nat)(tag:List (Bs×Bs))(iB:St)(wy:World)(t:St)(i:Nat)(L1:Lay):Prop where
 mv:Mv w1 b f0 wy t L1
 fin:iB=dI t (tag.drop i)
 x:t.text.length≤100000000
 l:t.list.length≤700000000+2*i
 le:i≤tag.length
theorem Fw(h:aK w b s L)(y:Bd s):
 Calls Tryz.prog 234 #[.pointer (some ⟨b,0,none⟩)] w fun e w' =>e=.returned (.tuple #[])∧∃L', Mv w b (aJ s L) w' (cK s) L' :=by
 have O:=aB (ze h (Nat.le_trans y.hb (by decide)) (Nat.le_trans y.hc (by decide)) y.cb);have Z:=sI y.cb;obtain⟨d,j⟩:∃d,d=cK s:=⟨_,rfl⟩;rw[←j];have o:d=dI s ((cG s).drop 0):=j;have P:=aB o;have hx:=y.hx;have hl:=y.hl;generalize cG s=tag at *;have HS:=aB h.start;have G:=aB h.lt;have H:=aB h.dF;clear h y j o;go_enter func234,ntmps234
 go_wp2_with fail
 refine(aA O).mono ?_;rintro e w1 ⟨a,c,rfl,hown,q⟩;have a0:=q.size;have HE:=aB (fun k hk=>mI (m:=2) (l:=tag) lS (fun _=>rfl) (by decide) hown k hk);have HOW:=aB hown.lt;have z:=(aA HS).below q;have a1:=aB q;have Q:Hid (zl w1 b (aJ s L) tag d w1 s 0 L):=⟨z.rd.start,aA P,hx,by omega,by omega⟩;have I:=aB z;clear hown q z O P;go_wp2_with fail
 go_loopg [3] tag.length (fun g s3 wx=>∃(D:World) (t:St) (i:Nat) (J:Lay),D=wx∧g=tag.length - i∧s3=.int .i64 (i:Int)∧Hid (zl w1 b (aJ s L) tag d D t i J))
 case atStart=>exact⟨w1,s,0,L,rfl,rfl,rfl,Q⟩
 case round=>
  obtain⟨D,t,i,J,K,rfl,rfl,f⟩:=hrel;subst K;clear Q;have a2:=(aA f).le;have R:=(aA f).mv.rd.lt;by_cases S:i<tag.length
  .have e1:decide ((i:Int)<(tag.length:Int))=true:=by simp;omega
   have a3:(i:Int)<(tag.length:Int):=by omega
   obtain⟨g,T,M,A⟩:=aA HE i S;have X:w1.cell? ⟨g,i*2,none⟩=some (.string ⟨tag[i].1.toArray⟩):=A 0 (by decide);have Y:w1.cell? ⟨g,i*2+1,none⟩=some (.string ⟨tag[i].2.toArray⟩):=A 1 (by decide);have a4:w.heap.size≤g:=(aA HOW g (by rw[T];rfl)).1;have B:D.heap[g]?=w1.heap[g]?:=(aA f).mv.fr.block g M (by have:=aA G;omega) (fun hm=>by have:=(aA H g hm).2;omega);have d0:D.cell? ⟨g,i*2,none⟩=some (.string ⟨tag[i].1.toArray⟩):=by rw[←X];simp only[World.cell?,B]
   have d1:D.cell? ⟨g,i*2+1,none⟩=some (.string ⟨tag[i].2.toArray⟩):=by rw[←Y];simp only[World.cell?,B]
   have r:=(aA f).fin;rw[List.drop_eq_getElem_cons S]at r;unfold dI at r;have HA:=aB (fun n=>add_nil ((aA f).mv.rd.drewN n) ⟨6,tag[i].1,[],tag[i].2,[]⟩ rfl (Nat.le_trans (aA f).x (by decide)) (by have:=(aA f).l;omega));have u:=zk t ⟨6,tag[i].1,[],tag[i].2,[]⟩;generalize tag[i].1=p at *;generalize tag[i].2=v at *;subst T;have C:=aB r;have E:=aB u;clear r u A X Y B;go_wp2
   go_region_with (go_at_call 188;refine(aA HA _).mono ?_;rintro e w2 ⟨rfl,L2,F⟩)
   all_goals
    have N:=aB (((aA f).mv.drewN _).call F);clear F;go_wp2
    go_roundg (tag.length - (i+1))
    case measure=>omega
    case rel=>exact⟨_,_,i+1,L2,rfl,rfl,by simp,⟨aA N,aA C,Nat.le_trans (aA E).1 (aA f).x,by have:=(aA E).2;have:=(aA f).l;omega,by omega⟩⟩
  have e1:decide ((i:Int)<(tag.length:Int))=false:=by simp;omega
  have r:=(aA f).fin;rw[List.drop_of_length_le (by omega)]at r;have C:=aB (show d=t from r);clear r;go_wp2
  go_end0
  rw[aA C];exact⟨rfl,J,(aA I).call (aA f).mv⟩
structure zm(w1:World)(b:Nat)(f0:List Nat)(tag:List (Bs×Bs))(iB:St)(wy:World)(t:St)(i:Nat)(L1:Lay):Prop where
 mv:Mv w1 b f0 wy t L1
 fin:iB=fB t (tag.take i).reverse
 x:t.text.length≤100000000
 l:t.list.length≤700000100 - 2*i
 le:i≤tag.length
theorem Fx(h:aK w b s L)(v:Bd s):
 Calls Tryz.prog 231 #[.pointer (some ⟨b,0,none⟩)] w fun e w' =>e=.returned (.tuple #[])∧∃L', Mv w b (aJ s L) w' (eD s) L' :=by
 have Q:=aB (ze h (Nat.le_trans v.hb (by decide)) (Nat.le_trans v.hc (by decide)) v.cb);have a0:=sI v.cb;obtain⟨d,j⟩:∃d,d=eD s:=⟨_,rfl⟩;rw[←j];have o:d=fB s ((cG s).take (cG s).length).reverse:=by rw[List.take_length];exact j
 have R:=aB o;have hx:=v.hx;have hl:=v.hl;generalize cG s=tag at *;have HS:=aB h.start;have G:=aB h.lt;have H:=aB h.dF;clear h v j o;go_enter func231,ntmps231
 go_wp2_with fail
 refine(aA Q).mono ?_;rintro e w1 ⟨a,c,rfl,hown,q⟩;have a1:=q.size;have HE:=aB (fun k F=>mI (m:=2) (l:=tag) lS (fun _=>rfl) (by decide) hown k F);have HOW:=aB hown.lt;have y:=(aA HS).below q;have a2:=aB q;have S:Hid (zm w1 b (aJ s L) tag d w1 s tag.length L):=⟨y.rd.start,aA R,hx,by omega,by omega⟩;have I:=aB y;clear hown q y Q R;go_wp2_with fail
 go_loopg [3] tag.length (fun g s3 wx=>∃(A:World) (t:St) (i:Nat) (J:Lay),A=wx∧g=i∧s3=.int .i64 ((i:Int) - 1)∧Hid (zm w1 b (aJ s L) tag d A t i J))
 case atStart=>exact⟨w1,s,tag.length,L,rfl,rfl,rfl,S⟩
 case round=>
  obtain⟨A,t,i,J,K,M,rfl,f⟩:=hrel;obtain rfl:=M.symm;subst K;clear S;have a3:=(aA f).le;have T:=(aA f).mv.rd.lt;by_cases h3:0<i
  .have X:decide (0≤(i:Int) - 1)=true:=by simp;omega
   obtain⟨k,rfl⟩:∃k,i=k+1:=⟨i - 1,by omega⟩;have N:(((k+1:Nat):Int) - 1)=(k:Int):=by omega
   rw[N]at X⊢;have F:k<tag.length:=by omega
   have a4:(k:Int)<(tag.length:Int):=by omega
   obtain⟨g,Y,O,B⟩:=aA HE k F;have Z:w1.cell? ⟨g,k*2,none⟩=some (.string ⟨tag[k].1.toArray⟩):=B 0 (by decide);have a5:w.heap.size≤g:=(aA HOW g (by rw[Y];rfl)).1;have C:A.heap[g]?=w1.heap[g]?:=(aA f).mv.fr.block g O (by have:=aA G;omega) (fun hm=>by have:=(aA H g hm).2;omega);have d0:A.cell? ⟨g,k*2,none⟩=some (.string ⟨tag[k].1.toArray⟩):=by rw[←Z];simp only[World.cell?,C]
   have r:=(aA f).fin;rw[uQ tag k F,List.reverse_append,List.reverse_singleton,List.singleton_append]at r;unfold fB at r;have HA:=aB (fun n=>add_nil ((aA f).mv.rd.drewN n) ⟨7,tag[k].1,[],[],[]⟩ rfl (Nat.le_trans (aA f).x (by decide)) (by have:=(aA f).l;omega));have u:=zk t ⟨7,tag[k].1,[],[],[]⟩;generalize tag[k].1=p at *;subst Y;have z:=aB r;have D:=aB u;clear r u B Z C;go_wp2
   go_region_with (go_at_call 188;refine(aA HA _).mono ?_;rintro e w2 ⟨rfl,L2,E⟩)
   all_goals
    have P:=aB (((aA f).mv.drewN _).call E);clear E;go_wp2
    go_roundg k
    case measure=>omega
    case rel=>exact⟨_,_,k,L2,rfl,rfl,by simp,⟨aA P,aA z,Nat.le_trans (aA D).1 (aA f).x,by have:=(aA D).2;have:=(aA f).l;omega,by omega⟩⟩
  have X:decide (0≤(i:Int) - 1)=false:=by simp;omega
  have r:=(aA f).fin;obtain rfl:i=0:=by omega
  rw[List.take_zero,List.reverse_nil]at r;have z:=aB (show d=t from r);clear r;go_wp2
  go_end0
  rw[aA z];exact⟨rfl,J,(aA I).call (aA f).mv⟩
section
variable {w0 w w' :World}{b:Nat}{f0:List Nat}{s:St}{L:Lay}
theorem Mv.zn(m:Mv w0 b f0 w s L)(x:Bs){g:Nat}(hown:w'.ownsRow (b - 1) 9 1 (.slice (some ⟨g,0,none⟩) (s.opn.length+1) cap) (s.opn.length+1) (s.opn.map sv++[.string ⟨x.toArray⟩]))
 (c:w.grownBy w' (bE s L).v.ownBlock) (a:(Value.slice L.oa s.opn.length L.oc).ownBlock=some g∨g=w.heap.size):
 Mv w0 b f0 (w'.setCell ⟨b,5,none⟩ (.slice (some ⟨g,0,none⟩) (s.opn.length+1) cap)) {s with opn:=s.opn++[x]} {L with oa:=some ⟨g,0,none⟩,oc:=cap}:=by
 refine m.grow (r:=bE s L) (r' :=bE {s with opn:=s.opn++[x]} {L with oa:=some ⟨g,0,none⟩,oc:=cap}) (rs:=bQ s L::bD s L::bJ s L::cA s L::bM s L::bS s L::L.es.map aN) 5 _ (.refl _) (.refl _) ?_ c ?_ ?_ m.rd.evs
 .show World.ownsRow _ _ _ _ _ _ _;simp only[bE,List.length_append,List.length_cons,List.length_nil,Nat.zero_add,List.map_append,List.map_cons,List.map_nil];exact hown
 .rcases a with h|h
  .exact .inl h.symm
  exact .inr (by rw[h];rfl)
 simp[cellsOf]
theorem Mv.Fy(m:Mv w0 b f0 w s L)(x:aD)(a:s.am=false){g:Nat}(hown:w'.ownsRow (b - 1) 69 3 (.slice (some ⟨g,0,none⟩) (s.aC.length+1) cap) (s.aC.length+1) (aV s.aC++bZ x))
 (e:w.grownBy w' (Value.slice L.aa s.aC.length L.ac).ownBlock) (c:(Value.slice L.aa s.aC.length L.ac).ownBlock=some g∨g=w.heap.size):
 Mv w0 b f0 (w'.setCell ⟨b,13,none⟩ (.slice (some ⟨g,0,none⟩) (s.aC.length+1) cap)) {s with aC:=s.aC++[x]} {L with aa:=some ⟨g,0,none⟩,ac:=cap}:=by
 have d:(bD s L).v=.slice L.aa s.aC.length L.ac:=by simp[bD,a]
 refine m.grow (r:=bD s L) (r' :=bD {s with aC:=s.aC++[x]} {L with aa:=some ⟨g,0,none⟩,ac:=cap}) (rs:=bE s L::bQ s L::bJ s L::cA s L::bM s L::bS s L::L.es.map aN) 13 _ (Pw _ _ _ _) (Pw _ _ _ _) ?_ (by rw[d];exact e) ?_ ?_ m.rd.evs
 .show World.ownsRow _ _ _ _ _ _ _;simp only[bD,a,List.length_append,List.length_cons,List.length_nil,Nat.zero_add,aV,List.flatMap_append,List.flatMap_cons,List.flatMap_nil,List.append_nil];exact hown
 .rw[d];rcases c with h|h
  .exact .inl (by simp[bD,a];exact h.symm)
  exact .inr (by rw[h];simp[bD,a];rfl)
 simp[cellsOf]
end
theorem vg:(Tryz.prog.info? 9).map (fun i=>(i.zero,i.size,i.bytes))=some (some (.string ByteArray.empty),1,16):=by kernel_rfl
theorem infoAt:(Tryz.prog.info? 69).map (fun i=>(i.zero,i.size,i.bytes))=some (some (.agg #[.string ByteArray.empty,.string ByteArray.empty,.string ByteArray.empty]),3,48):=by kernel_rfl
theorem Fz(a:aD):∀u∈bZ a,u.oneCell' =true:=by
 intro u b;simp[bZ]at b;rcases b with rfl|rfl|rfl<;>rfl
theorem FA(h:Bd s):(cK s).name=s.name∧(cK s).aC=s.aC∧(cK s).am=false∧(cK s).text.length≤100000000∧(cK s).list.length≤700000100∧(cK s).aG=s.aG∧Mk.aZ (cK s) s.name=Mk.aZ s s.name:=by
 have e:=Fv s;have a:=u_ (cG s) s;have b:=sI h.cb;have c:=h.hx;have d:=h.hl;refine⟨by rw[e],by rw[e],by rw[e];exact h.am,?_,?_,by rw[e],by rw[e];rfl⟩
 .show(dI s (cG s)).text.length≤_;omega
 show(dI s (cG s)).list.length≤_;omega
theorem vh(h:aK w b s L)(f:Bd s):
 Calls Tryz.prog 226 #[.pointer (some ⟨b,0,none⟩)] w fun e w' =>e=.returned (.tuple #[])∧∃L', Mv w b (aJ s L) w' (cH s) L' :=by
 have p:=aB (Fw h f);obtain⟨i,q,r,B,C,u,v⟩:=FA f;have x:=aB (show cH s={Mk.add (cK s) ⟨1,s.name,Mk.aZ s s.name,[],s.aC⟩with aC:=[]}from rfl);have d:=f.hn;have j:=f.hb;have H:=aB h.start;rw[←v,←q,←i]at x;rw[←i]at d;rw[←u]at j;generalize cK s=t at *;generalize cH s=z at *;clear h f i q u v;go_enter func226,ntmps226
 go_wp2_with fail
 refine(aA p).mono ?_;rintro e w1 ⟨rfl,I,a⟩;have y:=a.rd.cell;have D:=a.rd.frozen;have E:=a.rd.lt;have k:=aB (oQ a.rd (by omega) t.name d);have l:=aB (oQ a.drew.rd (by omega) t.name d);have HA:=aB (fun n=>EH (a.rd.drewN n) ⟨1,t.name,Mk.aZ t t.name,[],t.aC⟩ rfl r (Nat.le_trans B (by decide)) (Nat.le_trans C (by decide)));have g:=aB a;generalize Mk.aZ t t.name=sp at *;unfold cellsOf at y;clear a p;go_wp2_with first|(go_at_call 230;refine(aA k).mono ?_;rintro e w2 ⟨rfl,rfl⟩)|(go_at_call 230;refine(aA l).mono ?_;rintro e w2 ⟨rfl,rfl⟩)
 go_region_with (go_at_call 188;refine(aA HA _).mono ?_;rintro e w2 ⟨rfl,J,c⟩)
 all_goals
  have m:=c.rd.cell;have F:=c.rd.frozen;have A:=c.rd.lt;have o:=aB ((((aA g).drewN _).call c).Ek);unfold cellsOf at m;clear c g y D;go_wp2
  go_end0
  have G:z={{Mk.add t ⟨1,t.name,sp,[],t.aC⟩with am:=true}with aC:=[],am:=false}:=by
   rw[aA x];unfold Mk.add aQ;split<;>simp[r]
  rw[G];exact⟨rfl,_,aA o⟩
theorem FB(h:Bd s)(hl:s.list.length+2≤700000000)(e:Ev):Bd (Mk.add s e):=by
 have e0:=kG s e;have a:=Qd s e;have b:=h.hx;rw[e0]at a⊢;dsimp only at a;exact{h with hx:=by show(Mk.add s e).text.length≤_;omega,hl:=by show(Mk.add s e).list.length≤_;omega}
theorem vk(h:aK w b s L)(j:Bd s)(S:s.list.length+100≤700000000)(x:Bs)(F:x.length≤100000000):
 Calls Tryz.prog 222 #[.pointer (some ⟨b,0,none⟩),.string ⟨x.toArray⟩] w fun e w' =>e=.returned (.tuple #[])∧∃L', Mv w b (aJ s L) w' (dR s x) L' :=by
 have D:=aB (show dR s x=Mk.resume {Mk.leave (eD (Mk.add s ⟨2,x,Mk.aZ s x,[],[]⟩))with over:=decide (s.opn.length=0)}from rfl);have k:=aB (oQ h (Nat.le_trans j.hb (by decide)) x F);generalize Mk.aZ s x=sp at *;have N:=aB (fun n=>add_nil (h.drewN n) ⟨2,x,sp,[],[]⟩ rfl (Nat.le_trans j.hx (by decide)) (Nat.le_trans j.hl (by decide)));have c:=aB (FB j (by omega) ⟨2,x,sp,[],[]⟩);have O:(Mk.add s ⟨2,x,sp,[],[]⟩).opn=s.opn:=by rw[kG]
 have l:=aB h.start;have P:=j.ho;generalize dR s x=z at *;rw[←O]at D P;generalize Mk.add s ⟨2,x,sp,[],[]⟩=t at *;have E:=Fu t;have m:(eD t).aG=t.aG:=by rw[E]
 have p:(eD t).cnt=t.cnt:=by rw[E]
 have q:(Mk.leave (eD t)).opn=t.opn:=by unfold Mk.leave;rw[E]
 have G:=aB (And.intro m p);generalize r:eD t=u at *;have H:=aB r;clear h j O E m p r;go_enter func222,ntmps222
 go_wp2_with(go_at_call 230;refine(aA k).mono ?_;rintro e w2 ⟨rfl,rfl⟩)
 refine(aA N 0).mono ?_;rintro e w2 ⟨rfl,Z,d⟩;have I:=aB (Fx d.rd (aA c));rw[aA H]at I;have y:=aB ((aA l).call d);clear d N l k;go_wp2_with fail
 refine(aA I).mono ?_;rintro e w3 ⟨rfl,L3,f⟩;have Q:=aB (Fj f.rd (by rw[(aA G).1];exact Nat.le_trans (aA c).hb (by decide)) (by rw[(aA G).2];exact Nat.le_trans (aA c).hc (by decide)) (by rw[(aA G).2];exact(aA c).cb));have A:=aB ((aA y).call f);clear f I y;generalize Mk.leave u=v at *;go_wp2_with fail
 refine(aA Q).mono ?_;rintro e w4 ⟨rfl,T,B⟩;have a:=(aA A).call B;have J:=a.rd.cell;have X:=a.rd.frozen;have R:=a.rd.lt;rw[←q]at D P;obtain⟨o,g⟩:∃o,decide (v.opn.length=0)=o:=⟨_,rfl⟩;rw[g]at D;have i:=a.store 6 (.bool o) {v with over:=o} rfl rfl rfl;have Y:=aB (qo i.rd);have K:=aB i;have ed:((v.opn.length:Int)==0)=o:=by rw[←g,Bool.eq_iff_iff,beq_iff_eq,decide_eq_true_eq];omega
 unfold cellsOf at J;clear B a i Q A g q;go_wp2_with(go_at_call 189;refine(aA Y).mono ?_;rintro e w5 ⟨rfl,C⟩;have M:=aB C;clear C)
 go_end0
 rw[aA D];exact⟨rfl,T,(aA K).call (aA M)⟩
end Go.Proofs.YtmgfijllcdadgaaGreatDoor
