import Derived.Test.YtmgfijllcdadgaaGreatDoorUW27
set_option linter.all false
set_option maxHeartbeats 8000000
set_option maxRecDepth 100000
namespace Go.Proofs.YtmgfijllcdadgaaGreatDoor
open Go.RowKit
open Go.Proofs.Tryz
open Mk
variable {w:World}{b:Nat}{s:Z}{L:Lay}
def adJ(n:U)(k:Nat)(a:k<5):∃x,(fG.map λp=>Value.string ⟨p.1.toArray⟩)[k]?=some (.string ⟨x.toArray⟩)/\x.length<=5/\
 qf n (fG.drop k)=if n.isPrefixOf x then x.drop n.length else qf n (fG.drop (k+1)):=by
 match k,a with
 |0,_=>exact⟨_,rfl,by decide,rfl⟩
 |1,_=>exact⟨_,rfl,by decide,rfl⟩
 |2,_=>exact⟨_,rfl,by decide,rfl⟩
 |3,_=>exact⟨_,rfl,by decide,rfl⟩
 |4,_=>exact⟨_,rfl,by decide,rfl⟩
def adK(p:Int)(n:U)(c:Int)(R:n.length<=20)(w:World)(B:Gl w)(S:2<w.heap.size):
 Calls prog 174 #[.agg #[.int .i64 p,.string ⟨n.toArray⟩,.int .i64 c]] w λe w' =>e=.returned (.string ⟨(qf n fG).toArray⟩)/\Below w.heap.size w w' :=by
 obtain⟨r,f⟩:=aj8 (qf n fG);rw[<-f];have C:Hid (r=qf n (fG.drop 0)):=f;have g:∀D j,(w.alloc D).cell? ⟨1,j,none⟩=w.cell? ⟨1,j,none⟩:=λD j=>by
  simp only[World.cell?];rw[dG _ _ _<|by omega]
 have E:=B.names;clear f B;go_enter func174,ntmps174;go_wp2;go_loopw [3] (λi F=>∃k:Nat,k<=5/\i=.int .i64 k/\Hid (r=qf n (fG.drop k))/\∃m,F=(w.alloc (.cells #[.int .i64 p,.string ⟨n.toArray⟩,.int .i64 c] 89)).drewN m) λi _=>5 - (intOf i).toNat
 case atStart=>exact⟨0,by omega,rfl,C,0,rfl⟩
 case round=>
  obtain⟨k,t,rfl,y,m,rfl⟩:=hrel;clear C;obtain⟨W,d⟩:=aj8 ((w.alloc (.cells #[.int .i64 p,.string ⟨n.toArray⟩,.int .i64 c] 89)).drewN m);rw[<-d];have l:∀j,W.cell? ⟨1,j,none⟩=w.cell? ⟨1,j,none⟩:=λj=>by rw[d,<-g (.cells #[.int .i64 p,.string ⟨n.toArray⟩,.int .i64 c] 89) j];rfl
  have G:∀j,W.cell? ⟨w.heap.size,j,none⟩=[.int .i64 p,.string ⟨n.toArray⟩,.int .i64 c][j]?:=λj=>by
   rw[d];show(w.alloc _).cell? _=_;simp only[World.cell?];rw[dI];simp
  have o:Below w.heap.size w W:=by
   rw[d];exact⟨rfl,rfl,rfl,by rw[heap_drewN];simp,λk t=>by rw[heap_drewN];exact dG _ _ _ t⟩
  have H:=Y d;have q:=Y o;clear d o g;by_cases z:k<5
  .obtain⟨x,I,T,b⟩:=adJ n k z;have X:W.cell? ⟨1,k,none⟩=some (.string ⟨x.toArray⟩):=by rwa[l,E k]
   have K:(k:Int)<5:=by omega
   rw[<-y.u]at b;have s:=Y λw=>Dl x n (by omega) (by omega) w;have a:∀v,n.isPrefixOf x=v->(n.isPrefixOf x)=v:=λ_ h=>h;clear I E l y;cases A:n.isPrefixOf x
   .rw[A]at s b;simp only[cK,cE]at b;have L:=Y b;clear b a;go_wp2;go_quiet((go_at_call 214;refine Calls.quiet_of_same (s.u _)));go_wp2;go_roundw
    case rel=>exact⟨k+1,by omega,by go_num,L.u,by rw[H.u];exact⟨_,Dj _ _ _⟩⟩
    case measure=>simp[intOf];omega
   have N:n.length<=x.length:=(List.isPrefixOf_iff_prefix.1 A).length_le;rw[A]at s b;simp only[bY]at b;have O:(ByteArray.extract ⟨x.toArray⟩ n.length x.length)=⟨r.toArray⟩:=by rw[Dg,b]
   have P:¬((n.length:Int)<0):=by omega
   have Q:(n.length:Int)<=(x.length:Int):=by omega
   clear b a;go_wp2;go_quiet((go_at_call 214;refine Calls.quiet_of_same (s.u _)));go_wp2;go_quiet(fail);go_wp2;go_ret;refine⟨rfl,q.u.trans ⟨rfl,rfl,rfl,by rw[heap_drewN,heap_drewN];exact a_ _,λk t=>by rw[heap_drewN,heap_drewN]⟩⟩
  have e1:decide ((k:Int)<5)=false:=aj9;obtain rfl:k=5:=by omega
  have f:r=[]:=y.u;subst f;go_wp2;go_ret;exact⟨rfl,q.u⟩
def adL(p:Int)(n:U)(c a:Int)(k:a=10\/a=16)(m:0<=c)(o:c<=1114111)(w:World):
 Calls prog 175 #[.agg #[.int .i64 p,.string ⟨n.toArray⟩,.int .i64 c],.int .i64 a] w λe w' =>e=.returned (.string ⟨(lC c a).toArray⟩)/\Below w.heap.size w w' :=by
 have b:=(Below.refl w.heap.size w).alloc (a_ _) (.cells #[.int .i64 p,.string ⟨n.toArray⟩,.int .i64 c] 89);have f:=Y b;have i:=Y yP;clear b;cases g:eX c;focus
  cases h:eX (c*a);focus
   cases j:eX (c*a*a);focus
    have d:lC c a=[57,59]:=by rw[lC,g,h,j];rfl
   rotate_left;focus
    have d:lC c a=[48,48,59]:=by rw[lC,g,h,j];rfl
  rotate_left 2;focus
   have d:lC c a=[48,59]:=by rw[lC,g,h];rfl
 rotate_left 3
 .have d:lC c a=[59]:=by rw[lC,g];rfl
  rw[d];clear d;go_enter func175,ntmps175;go_wp2_with(go_at_call 215;go_call(i.u _ _)as e l ⟨rfl,rfl⟩);go_ret;exact⟨rfl,f.u⟩
 all_goals
  rw[d];clear d;obtain rfl|rfl:=k;all_goals
   go_enter func175,ntmps175;go_wp2_with(go_at_call 215;go_call(i.u _ _)as e l ⟨rfl,rfl⟩);go_ret;exact⟨rfl,f.u⟩
def adM(p:Int)(n:U)(c:Int)(r:n.length<=20)(s:0<=c)(t:c<=1114111)(w:World)(o:Gl w)(v:2<w.heap.size):
 Calls prog 123 #[.agg #[.int .i64 p,.string ⟨n.toArray⟩,.int .i64 c]] w λe w' =>e=.returned (.string ⟨(jP p n c).toArray⟩)/\Below w.heap.size w w' :=by
 have a:=(Below.refl w.heap.size w).alloc (a_ _) (.cells #[.int .i64 p,.string ⟨n.toArray⟩,.int .i64 c] 89);have j:=Y (adK p n c r _ (o.below v a)<|by simp<;>omega);have g:=Y λh x w=>adL p n c h x s t w;have f:=Y a;clear o a;by_cases i:p=1\/p=2
 .have b:jP p n c=qf n fG:=by rw[jP,J i]
  rw[b];generalize qf n fG=z at *;clear b;obtain rfl|rfl:=i;all_goals
   go_enter func123,ntmps123;go_wp2_with(go_at_call 174;go_call j.u as e q ⟨rfl,d⟩);go_ret;exact⟨rfl,f.u.trans (d.mono<|by simp)⟩
 by_cases k:p=3\/p=5
 .have b:jP p n c=lC c 10:=by rw[jP,M i,J k]
  rw[b];have l:=Y λw=>g.u 10 (.inl rfl) w;generalize lC c 10=z at *;clear b g j;obtain rfl|rfl:=k;all_goals
   go_enter func123,ntmps123;go_wp2_with(go_at_call 175;go_call(l.u _)as e q ⟨rfl,d⟩);go_ret;exact⟨rfl,f.u.trans (d.mono<|by simp)⟩
 by_cases m:p=4\/p=6
 .have b:jP p n c=lC c 16:=by rw[jP,M i,M k,J m]
  rw[b];have l:=Y λw=>g.u 16 (.inr rfl) w;generalize lC c 16=z at *;clear b g j;obtain rfl|rfl:=m;all_goals
   go_enter func123,ntmps123;go_wp2_with(go_at_call 175;go_call(l.u _)as e q ⟨rfl,d⟩);go_ret;exact⟨rfl,f.u.trans (d.mono<|by simp)⟩
 have b:jP p n c=[]:=by rw[jP,M i,M k,M m]
 rw[b];have y:(p==1)=false:=by simp;omega
 have A:(p==2)=false:=by simp;omega
 have B:(p==3)=false:=by simp;omega
 have C:(p==4)=false:=by simp;omega
 have D:(p==5)=false:=by simp;omega
 have E:(p==6)=false:=by simp;omega
 clear b g j;go_enter func123,ntmps123;go_wp2;go_ret;exact⟨rfl,f.u⟩
def EI{w' :World}(h:bC w b s L)(c:Below w.heap.size w w'):bC w' b s L:=
 h.keep λk a=>c.block k (by
  obtain rfl|a:=a
  .exact h.lt
  exact(h.jh _ a).2)
def adN(h:bC w b s L)(v:s.am=false)(I:s.f.length<=100000000)(S:s.i.length<=100000000):
 Calls prog 216 #[.pointer (some ⟨b,0,none⟩)] w λe w' =>e=.returned (.string ⟨(oJ s).toArray⟩)/\Below w.heap.size w w' :=by
 obtain⟨z,g⟩:=aj8 (oJ s);rw[<-g];have K:=h.cell;have T:=h.lt;have o:=vC (h.rows.own (fV s L)<|by simp[rowsOf]);have HA:=Y λw' (W:Below w.heap.size w w') x=>Dw (EI h W) v I x;have d:=Y (Dw h v I s.i);unfold cellsOf at K;clear h;unfold oJ at g;cases e0:gM s s.i
 .rw[e0]at g d;simp only[cK,cE]at g;subst g;go_enter func216,ntmps216;go_wp2_with(go_at_call 224;go_call d.u as e t ⟨rfl,rfl⟩);go_ret;exact⟨rfl,Below.refl _ _⟩
 rw[e0]at g d;simp only[bY]at g;have N:=Y g;clear g;go_enter func216,ntmps216;go_wp2_with(go_at_call 224;go_call d.u as e t ⟨rfl,X⟩;obtain rfl:=X.symm);clear o K d;go_loopw [4,5] (λs4 s5 wx=>∃(k:Nat) (B:Int),k<=58/\B=65+(k:Int)/\s4=.int .u8 B/\Hid (z=qW s (58 - k) B)/\Below w.heap.size w wx) λi _ _=>123 - (intOf i).toNat
 case atStart=>exact⟨0,65,by omega,rfl,rfl,N,Below.refl _ _⟩
 case round=>
  obtain⟨k,B,hk,D,rfl,A,j⟩:=hrel;clear N;have E:=j.size;have l:=Y D;by_cases O:k<58
  .have e1:decide (B<=122)=true:=aj_;have a0:B<=122:=by omega
   obtain⟨m,hm⟩:∃m,58 - k=m+1:=⟨58 - k - 1,by omega⟩;have a:=A.u;rw[hm]at a;unfold qW at a;have o:=Gh B (by omega) (by omega) wr.heap.size (wr.alloc (.cells #[.int .u8 B] 5)) (by simp[go_sem]);have p:Below w.heap.size w (wr.alloc (.cells #[.int .u8 B] 5)):=j.alloc E _;have f:=Y (uI B);have c:=Y (HA.u _ p (s.i++[Mk.u8 B]));obtain⟨F,n⟩:=akb (s.i++[Mk.u8 B]);rw[n]at c a;obtain⟨y,P⟩:=akb (Mk.u8 B);rw[P]at o a n;have C:(⟨s.i.toArray⟩:ByteArray)++(⟨[y].toArray⟩:ByteArray)=⟨F.toArray⟩:=by
    rw[<-n];apply rF;simp
   have G:(⟨s.i.toArray⟩:ByteArray)++(⟨#[y]⟩:ByteArray)=⟨F.toArray⟩:=C;have H:IntKind.u8.wrap (B+1)=B+1:=by rw[IntKind.wrap_u8];omega
   have q:=Y p;have a1:65<=B:=by omega
   clear n P p HA j D;cases Q:Mk.eD B
   .rw[Q]at f a;simp only[iL,cK,cE]at a;have r:=Y a;clear a A c;go_wp2_with(go_at_call 192;go_call(f.u _)as e t ⟨rfl,rfl⟩);go_roundw
    case rel=>exact⟨k+1,B+1,by omega,by have:=l.u;omega,rfl,by have:=r.u;rwa[show 58 - (k+1)=m by omega],q.u⟩
    case measure=>have:=l.u;simp[intOf];omega
   rw[Q]at f a;cases R:gM s F
   .rw[R]at c a;simp only[jC,AO,bY]at a;subst a;clear A;go_wp2_with first|(go_at_call 192;go_call(f.u _)as e t ⟨rfl,rfl⟩)|(go_at_call 224;go_call c.u as e t ⟨rfl,rfl⟩)
    go_ret;exact⟨rfl,q.u⟩
   rw[R]at c a;simp only[gz,kx,cK,cE]at a;have r:=Y a;clear a A;go_wp2_with first|(go_at_call 192;go_call(f.u _)as e t ⟨rfl,rfl⟩)|(go_at_call 224;go_call c.u as e t ⟨rfl,rfl⟩)
   go_roundw
   case rel=>exact⟨k+1,B+1,by omega,by have:=l.u;omega,rfl,by have:=r.u;rwa[show 58 - (k+1)=m by omega],q.u⟩
   case measure=>have:=l.u;simp[intOf];omega
  obtain rfl:k=58:=by omega
  have hr:z=[]:=A.u;subst hr;have e1:decide (B<=122)=false:=aj9;clear D;go_wp2;go_ret;exact⟨rfl,j⟩
def Jv(a:Int)(w:World):Calls prog 126 #[.int .i64 a] w λe w' =>e=.returned (.bool (iR a))/\w' =w:=by
 go_enter func126,ntmps126;go_wp2;all_goals(go_ret;exact⟨mU<|by rw[kF];unfold iR;simp<;>try omega,rfl⟩)
def adO(a:Int)(w:World):Calls prog 125 #[.int .i64 a] w λe w' =>e=.returned (.bool (kW a))/\w' =w:=by
 go_enter func125,ntmps125;go_wp2;all_goals(go_ret;exact⟨mU<|by rw[kF];unfold kW;simp<;>try omega,rfl⟩)
def adP(h:bC w b s L)(m:Bd s)(p:0<=s.aj2/\s.aj2<=255):
 Calls prog 178 #[.pointer (some ⟨b,0,none⟩)] w λe w' =>e=.returned (.string ⟨(jw s).toArray⟩)/\Below w.heap.size w w' :=by
 have HA:=Y (adN h m.am (cL m.ha) m.ht);have q:(oJ s).length<=1:=by unfold oJ;split;exact Jt s 58 65;simp
 have j:=h.cell;have r:=h.lt;unfold cellsOf at j;clear h m;by_cases a:s.H=14
 .have d:jw s=oJ s++[61,39,39,47,62]:=by rw[jw,J a]
  rw[d];generalize oJ s=z at *;have k:(⟨z.toArray⟩:ByteArray)++(⟨#[61,39,39,47,62]⟩:ByteArray)=⟨(z++[61,39,39,47,62]).toArray⟩:=by apply rF;simp
  generalize t:z++[61,39,39,47,62]=x at *;clear t d;rw[a]at j;go_enter func178,ntmps178;go_wp2_with(go_at_call 216;go_call HA.u as e A ⟨rfl,n⟩);go_ret;exact⟨rfl,n⟩
 clear HA;by_cases c:s.H=15;focus
  have d:jw s=[61,39,39,47,62]:=by rw[jw,M a,J c]
  rw[d];rw[c]at j
 rotate_left;focus
  by_cases f:s.H=16;focus
   have d:jw s=[39,39,47,62]:=by rw[jw,M a,M c,J f]
   rw[d];rw[f]at j
  rotate_left;focus
   by_cases g:s.H=17
   .have d:jw s=[Mk.u8 s.aj2,47,62]:=by rw[jw,M a,M c,M f,J g]
    rw[d];rw[g]at j;have v:=Gh s.aj2 p.1 p.2 w.heap.size (w.alloc (.cells #[.int .u8 s.aj2] 5)) (by simp[go_sem]);have l:Below w.heap.size w (w.alloc (.cells #[.int .u8 s.aj2] 5)):=(Below.refl _ _).alloc (a_ _) _;generalize Mk.u8 s.aj2=y at *;have k:(⟨#[y]⟩:ByteArray)++(⟨#[47,62]⟩:ByteArray)=⟨[y,47,62].toArray⟩:=by apply rF;simp
    have o:=Y l;clear l d;go_enter func178,ntmps178;go_wp2;go_ret;exact⟨rfl,o.u⟩
   by_cases i:s.H=19;focus
    have d:jw s=[62]:=by rw[jw,M a,M c,M f,M g,J i]
    rw[d];rw[i]at j
   rotate_left;focus
    have d:jw s=[47,62]:=by rw[jw,M a,M c,M f,M g,M i]
    rw[d];have B:=aj7 a;have C:=aj7 c;have D:=aj7 f;have E:=aj7 g;have F:=aj7 i;clear d
 all_goals
  go_enter func178,ntmps178;go_wp2;go_ret;exact⟨rfl,Below.refl _ _⟩
def adQ(h:bC w b s L)(m:Bd s):
 Calls prog 179 #[.pointer (some ⟨b,0,none⟩)] w λe w' =>e=.returned (.string ⟨(j_ s).toArray⟩)/\Below w.heap.size w w' :=by
 have f:=Y (Dx (h.rows.own (fV s L)<|by simp[rowsOf]));have q:=m.hh;have d:=Y λw=>BS [63,62] s.D.length (by decide) (by omega) (by omega) w;have i:=h.cell;have o:=h.lt;have r:=Y h;unfold cellsOf at i;clear h m;have p:∀n,Below w.heap.size w (w.drewN n):=λn=>⟨rfl,rfl,rfl,ajQ<|by rw[heap_drewN],λ_ _=>by rw[heap_drewN]⟩;by_cases c:s.H=8
 .rw[c]at i;by_cases j:s.G=0
  .have a:j_ s=[97,63,62]:=by rw[j_,J ⟨c,.inl j⟩]
   rw[a];rw[j]at i;clear a;go_enter func179,ntmps179;go_wp2;go_ret;exact⟨rfl,Below.refl _ _⟩
  have e0:=aj7 j;cases hx:Mk.jg s.i
  .have a:j_ s=gy [63,62] s.D.length:=by
    rw[j_,M (by rintro⟨-,g|g⟩;exact j g;rw[hx]at g;cases g),M]
   rw[a];rw[hx]at f;generalize gy [63,62] s.D.length=z at *;clear a;go_enter func179,ntmps179;go_wp2_with first|(go_at_call 194;go_call f.u as e l ⟨rfl,rfl⟩)|(go_at_call 176;go_call(d.u _)as e l ⟨rfl,rfl⟩)
   go_ret;exact⟨rfl,Below.refl _ _⟩
  have a:j_ s=[97,63,62]:=by rw[j_,J ⟨c,.inr hx⟩]
  rw[a];rw[hx]at f;clear a;go_enter func179,ntmps179;go_wp2_with(go_at_call 194;go_call f.u as e l ⟨rfl,rfl⟩);go_ret;exact⟨rfl,Below.refl _ _⟩
 by_cases k:s.H=9
 .have a:j_ s=[62]:=by rw[j_,M λg=>c g.1,J k]
  rw[a];rw[k]at i;clear a;go_enter func179,ntmps179;go_wp2;go_ret;exact⟨rfl,Below.refl _ _⟩
 have a:j_ s=gy [63,62] s.D.length:=by rw[j_,M λg=>c g.1,M k]
 rw[a];have t:=aj7 c;have v:=aj7 k;generalize gy [63,62] s.D.length=z at *;clear a;go_enter func179,ntmps179;go_wp2_with(go_at_call 176;go_call(d.u _)as e l ⟨rfl,rfl⟩);go_ret;exact⟨rfl,Below.refl _ _⟩
def adR(h:bC w b s L)(f:Bd s)(H:0<=s.aj2/\s.aj2<=255)(q:(bP s).length<=100000000):
 Calls prog 124 #[.pointer (some ⟨b,0,none⟩)] w λe w' =>e=.returned (.string ⟨(dD s).toArray⟩)/\Below w.heap.size w w' :=by
 have hh:=f.hh;have I:=f.m0;have K:=f.m1;have N:=Y (adP h f H);have O:=Y (adQ h f);have P:=Y λn=>GD (h.drewN n) f.ho;have r:=Y λw=>BS [45,45,62] s.D.length (by decide) (by omega) (by omega) w;have t:=Y λw=>BS [93,93,62] s.D.length (by decide) (by omega) (by omega) w;have g:=Y λw=>BS kC s.aW (by decide) (by omega) (by omega) w;have m:=Y λw=>BS (bP s) s.aW q (by omega) (by omega) w;have Q:=xR kC s.aW;have E:=xR (bP s) s.aW;have c:=h.cell;have R:=h.lt;unfold cellsOf at c;clear h f;by_cases F:s.H=0;focus
  have a:dD s=[]:=by rw[dD,J]
  rw[a];rw[F]at c
 rotate_left;focus
  have e0:=aj7 F;by_cases G:s.H=1;focus
   have a:dD s=[]:=by rw[dD,J]
   rw[a];rw[G]at c
  rotate_left;focus
   have e1:=aj7 G;by_cases v:s.H=3;focus
    have a:dD s=[33,45,45,45,45,62]:=by rw[dD,M,J v]
    rw[a];rw[v]at c
   rotate_left;focus
    have e3:=aj7 v;by_cases x:s.H=4;focus
     have a:dD s=[45,45,45,45,62]:=by rw[dD,M,M,J x]
     rw[a];rw[x]at c
    rotate_left;focus
     have e4:=aj7 x;by_cases y:s.H=5;focus
      have a:dD s=[45,45,45,62]:=by rw[dD,M,M,M,J y]
      rw[a];rw[y]at c
     rotate_left;focus
      have e5:=aj7 y;by_cases A:s.H=7
      .have a:dD s=gy [45,45,62] s.D.length:=by rw[dD,M,M,M,M,J A]
       rw[a];rw[A]at c;generalize gy [45,45,62] s.D.length=z at *;clear a;go_enter func124,ntmps124;go_wp2_with(go_at_call 176;go_call(r.u _)as e d ⟨rfl,rfl⟩);go_ret;exact⟨rfl,Below.refl _ _⟩
      have e7:=aj7 A;by_cases B:s.H=6
      .have a:dD s=gy kC s.aW++[93,93,62]:=by rw[dD,M,M,M,M,M,J B]
       rw[a];rw[B]at c;have S:kC.length=6:=rfl;generalize gy kC s.aW=z at *;have o:(⟨z.toArray⟩:ByteArray)++(⟨#[93,93,62]⟩:ByteArray)=⟨(z++[93,93,62]).toArray⟩:=by apply rF;simp
       generalize C:z++[93,93,62]=T at *;clear C a;have g:Hid (∀w,Calls prog 176 #[.string ⟨#[67,68,65,84,65,91]⟩,.int .i64 s.aW] w λe w' =>e=.returned (.string ⟨z.toArray⟩)/\w' =w):=g.u;go_enter func124,ntmps124;go_wp2_with(go_at_call 176;go_call(g.u _)as e d ⟨rfl,rfl⟩);go_ret;exact⟨rfl,Below.refl _ _⟩
      have e6:=aj7 B;by_cases D:s.H=2
      .have a:dD s=gy [93,93,62] s.D.length:=by rw[dD,M,M,M,M,M,M,J D]
       rw[a];rw[D]at c;generalize gy [93,93,62] s.D.length=z at *;clear a;go_enter func124,ntmps124;go_wp2_with(go_at_call 176;go_call(t.u _)as e d ⟨rfl,rfl⟩);go_ret;exact⟨rfl,Below.refl _ _⟩
      have e2:=aj7 D;by_cases i:s.H=20
      .have a:dD s=gy (bP s) s.aW++[62]:=by rw[dD,M,M,M,M,M,M,M,J i]
       rw[a];rw[i]at c;generalize gy (bP s) s.aW=z at *;generalize bP s=im at *;have o:(⟨z.toArray⟩:ByteArray)++(⟨#[62]⟩:ByteArray)=⟨(z++[62]).toArray⟩:=by apply rF;simp
       generalize C:z++[62]=T at *;clear C a;go_enter func124,ntmps124;go_wp2_with fail;go_region_with first|(go_at_call 177;go_call(P.u _)as e d ⟨rfl,n,rfl⟩)|(go_at_call 176;go_call(m.u _)as e d ⟨rfl,rfl⟩)
       all_goals
        go_wp2;go_ret;exact⟨rfl,⟨rfl,rfl,rfl,a_ _,λ_ _=>rfl⟩⟩
      have W:=aj7 i;by_cases j:s.H=21;focus
       have a:dD s=[62]:=by rw[dD,M,M,M,M,M,M,M,M,J j]
       rw[a];rw[j]at c
      rotate_left
      .have X:=aj7 j;have k:dD s=if iR s.H then jw s else j_ s:=by rw[dD,M,M,M,M,M,M,M,M,M]
       rw[k];cases e:iR s.H
       .have p:=Y λw=>Jv s.H w;rw[e]at p;simp only[cK,cE];generalize j_ s=z at *;clear k;go_enter func124,ntmps124;go_wp2_with first|(go_at_call 126;go_call(p.u _)as e d ⟨rfl,rfl⟩)|(go_at_call 179;go_call O.u as e d ⟨rfl,l⟩)
        go_ret;exact⟨rfl,l⟩
       have p:=Y λw=>Jv s.H w;rw[e]at p;simp only[bY];generalize jw s=z at *;clear k;go_enter func124,ntmps124;go_wp2_with first|(go_at_call 126;go_call(p.u _)as e d ⟨rfl,rfl⟩)|(go_at_call 178;go_call N.u as e d ⟨rfl,l⟩)
       go_ret;exact⟨rfl,l⟩
 all_goals
  clear a;go_enter func124,ntmps124;go_wp2;go_ret;exact⟨rfl,Below.refl _ _⟩
