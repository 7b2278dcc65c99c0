import Derived.Test.YtmgfijllcdadgaaGreatDoorUW13
import Derived.Test.YtmgfijllcdadgaaGreatDoorUW16
import Derived.Test.YtmgfijllcdadgaaGreatDoorUW15
set_option linter.all false
set_option maxHeartbeats 8000000
set_option maxRecDepth 100000
namespace Go.Proofs.YtmgfijllcdadgaaGreatDoor
section
open Go.RowKit
open Go.Proofs.Tryz
open Mk
variable {w:World}{b:Nat}{s:Z}{L:Lay}
def flat_get{c e:Type}(f:c->List e)(m:Nat)(b:∀a,(f a).length=m):∀(l:List c) (k:Nat) (h:k<l.length) (j:Nat),j<m->(l.flatMap f)[k*m+j]?=(f l[k])[j]?
 |a::l,0,_,j,d=>by simp only[mQ,Nat.zero_mul,jV,wR];rw[CQ<|by rwa[b]]
 |a::l,k+1,h,j,d=>by
  simp only[mQ,CO];rw[Aw<|by rw[b,yE];omega,b];have:(k+1)*m+j - m=k*m+j:=by rw[yE];omega
  rw[this];exact flat_get f m b l k (by simpa using h) j d
def Bc{d:Nat}{e:TypeId}{a g n c:Nat}{i:List Value}(h:w.ownsRow d e a (.slice (some ⟨g,0,none⟩) n c) n i)(j:Nat)(k:j<n*a):w.cell? ⟨g,j,none⟩=i[j]?:=by
 obtain⟨l,_⟩|⟨s,m,f,o,t,p,q,_,r,b⟩:=h.2
 .cases l
 cases o;rw[C_ w g j f _ _ p,<-b,yI k];simp
def Dw(h:bC w b s L)(o:s.am=false)(H:s.f.length<=100000000)(x:U):
 Calls prog 224 #[.pointer (some ⟨b,0,none⟩),.string ⟨x.toArray⟩] w λe w' =>e=.returned (.bool (gM s x))/\w' =w:=by
 have D:=h.cell;have hrow:=h.rows.own (eC s L) (by simp[rowsOf]);have f:eC s L=⟨69,3,.slice L.aa s.f.length L.ac,s.f.length,cQ s.f⟩:=by simp[eC,o]
 rw[f]at hrow;have c:∀k (p:k<s.f.length),∃g,L.aa=some ⟨g,0,none⟩/\w.cell? ⟨g,k*3,none⟩=some (.string ⟨s.f[k].B.toArray⟩):=by
  intro k p;obtain⟨g,q,E,_,_⟩:=World.ownsRow.form hrow (by show 0<s.f.length;omega);have t:Value.slice L.aa s.f.length L.ac=.slice (some ⟨g,0,none⟩) s.f.length q:=E;injection t with B I K;refine⟨g,B,?_⟩;have j:w.ownsRow (b - 1) 69 3 (.slice (some ⟨g,0,none⟩) s.f.length L.ac) s.f.length (cQ s.f):=by
   rwa[<-B]
  have:=Bc j (k*3) (by omega);rw[this];have F:=flat_get gG 3 (λ_=>rfl) s.f k p 0 (by decide);simpa[cQ,gG]using F
 unfold cellsOf at D;clear h hrow f;obtain⟨r,v⟩:=akb (gM s x);rw[v];have z:=Y v;have A:=Y c;clear v c;go_enter func224,ntmps224;go_wp2;go_loop [5] (λi=>∃k:Nat,k<=s.f.length/\i=.int .i64 k/\Hid (r=(s.f.drop k).any λa=>decide (a.B=x))) λi=>s.f.length - (intOf i).toNat
 case atStart=>exact⟨0,by omega,rfl,z.u.symm⟩
 case round=>
  obtain⟨k,p,rfl,m⟩:=hrel;by_cases l:k<s.f.length
  .obtain⟨g,N,O⟩:=A.u k l;have d:r=(decide (s.f[k].B=x)||(s.f.drop (k+1)).any λa=>decide (a.B=x)):=by
    rw[m.u,gB l,yD]
   have C:=Y d;generalize s.f[k].B=y at *;clear d m z A;cases f:(y==x)
   .go_wp2;go_round
    case rel=>exact⟨k+1,by omega,by go_num,by have n:=C.u;have j:decide (y=x)=false:=(by simpa using f);rwa[j]at n⟩
    case measure=>simp[intOf];omega
   go_wp2;go_ret;have n:=C.u;have j:=ake f;rw[j]at n;exact⟨mU n.symm,rfl⟩
  have hd:r=false:=by rw[m.u,oQ<|by omega];rfl
  have G:=Y hd;have e0:decide ((k:Int)<(s.f.length:Int))=false:=aj9;clear hd m z A;go_wp2;go_ret;exact⟨mU G.u.symm,rfl⟩
def Xi(h:bC w b s L)(m:Bd s)(x:Int)(A:0<=x)(B:x<=255)(d:Sl s):
 Calls prog 197 #[.pointer (some ⟨b,0,none⟩),.int .u8 x] w (Does w b s L (iP s x)):=by
 obtain⟨n,r,C⟩:=h.zzv;have F:=Y h;have t:=Y (GA h m x A B);have v:=Y (yU h);have i:=Y m;unfold cellsOf at n;clear h m;cases y:eD x
 .have g:iP s x=dR {bH s with B:=s.i} x:=by simp[iP,y]
  rw[g];clear g t n r;go_enter func197,ntmps197;go_wp2_with(go_at_call 192;go_call(uI _ _)as e j ⟨rfl,rfl⟩);go_call v.u as e j ⟨rfl,k,a⟩;obtain⟨o,D,z⟩:=a.X.zzv;have f:=a.store 11 (.string ⟨s.i.toArray⟩) {bH s with B:=s.i} rfl rfl rfl;have E:=Y (Gz f.X {i.u with ht:=by simp[bH],c0:=by simp[bH],c1:=by simp[bH],hn:=i.u.ht} ⟨d.l,d.b,d.c⟩ x);have p:=Y f;unfold cellsOf at o;clear a f i;go_wp2_with(go_at_call 202;go_call E.u as e j ⟨rfl,k,a⟩;have q:=Y a;clear a);go_ret;exact⟨rfl,k,p.u.call q.u⟩
 have g:iP s x=fS s x:=by simp[iP,y]
 rw[g];clear g v n r i;go_enter func197,ntmps197;go_wp2_with(first|(go_at_call 192;go_call(uI _ _)as e j ⟨rfl,rfl⟩)|(go_at_call 193;go_call t.u as e j ⟨rfl,k,a⟩;have q:=Y a;clear a));go_ret;exact⟨rfl,k,q.u⟩
def Xj(h:bC w b s L)(d:Bd s)(x:Int)(r:0<=x)(y:x<=255)(g:Sl s):
 Calls prog 198 #[.pointer (some ⟨b,0,none⟩),.int .u8 x] w (Does w b s L (gV s x)):=by
 obtain⟨o,t,v⟩:=h.zzv;have p:=Y h;have i:=Y (Gz h d g x);have j:=Y λn=>Gn ((h.start.drewN n).store 4 (.int .i64 14) {s with H:=14} rfl rfl rfl).X {d with} x r (by omega);have z:=d.ha;unfold cellsOf at o;clear h d;cases k:Mk.dP x
 .have c:gV s x=dR s x:=by simp[gV,k]
  rw[c];clear c j o t;go_enter func198,ntmps198;go_wp2_with(first|(go_at_call 190;go_call(vz _ _)as e f ⟨rfl,rfl⟩)|(go_at_call 202;go_call i.u as e f ⟨rfl,l,a⟩;have m:=Y a;clear a));go_ret;exact⟨rfl,l,m.u⟩
 by_cases q:s.oa<=s.f.length
 .have c:gV s x=(s,7):=by simp[gV,k,q]
  rw[c];clear c j i;go_enter func198,ntmps198;go_wp2_with(go_at_call 190;go_call(vz _ _)as e f ⟨rfl,rfl⟩);go_quiet(fail);go_wp2;go_ret;exact⟨rfl,L,p.u.start.drewN _⟩
 have c:gV s x=(bV {s with H:=14} x,0):=by simp[gV,k,q]
 rw[c];have A:decide (s.oa<=(s.f.length:Int))=false:=aj9;clear c i;go_enter func198,ntmps198;go_wp2_with(go_at_call 190;go_call(vz _ _)as e f ⟨rfl,rfl⟩);go_quiet(fail);go_wp2_with(go_at_call 130;go_call(j.u _)as e f ⟨rfl,l,a⟩;have m:=Y a;clear a);go_ret;exact⟨rfl,l,((p.u.start.drewN _).store 4 (.int .i64 14) {s with H:=14} rfl rfl rfl).call m.u⟩
def Xk(h:bC w b s L)(m:Bd s)(x:Int)(O:0<=x)(P:x<=255)(f:Sl s):
 Calls prog 203 #[.pointer (some ⟨b,0,none⟩),.int .u8 x] w (Does w b s L (jL s x)):=by
 obtain⟨z,E,F⟩:=h.zzv;have A:=Y h;have o:=Y (Gv h m);have g:=Gy m (by have:=f.l;omega);have G:=f.l;have p:=m.hn;unfold cellsOf at z;clear h m;cases n:(x==62)
 .have c:(x !=62)=true:=by simp at n⊢;exact n
  have i:jL s x=(s,3):=by simp only[jL,c];rfl
  rw[i];clear i o g;go_enter func203,ntmps203;go_wp2;go_ret;exact⟨rfl,L,A.u.start⟩
 have c:(x !=62)=false:=by simp at n⊢;exact n
 have i:jL s x=({bZ (bX s) s.B with B:=[]},0):=by simp only[jL,c];rfl
 rw[i];obtain⟨j,q,H,I⟩:=g;clear i z E;go_enter func203,ntmps203;go_wp2_with fail;go_call o.u as e Q ⟨rfl,R,a⟩;obtain⟨k,r,B⟩:=a.X.zzv;have C:=Y (Gw a.X j (by omega) s.B p);have t:=Y a;unfold cellsOf at k;clear a j q o A;go_wp2_with fail;go_call C.u as e w2 ⟨rfl,K,d⟩;generalize bZ (bX s) s.B=S at *;obtain⟨v,N,D⟩:=d.X.zzv;have y:=Y d;unfold cellsOf at v;clear d C k r;go_wp2;go_ret;exact⟨rfl,K,(t.u.call y.u).store 11 _ _ rfl rfl rfl⟩
def ME(h:bC w b s L)(g:Bd s)(x:Int)(k:0<=x)(l:x<=255):
 Calls prog 200 #[.pointer (some ⟨b,0,none⟩),.int .u8 x] w (Does w b s L (fI s x)):=by
 obtain⟨i,m,j⟩:=h.zzv;have d:=Y h;unfold cellsOf at i;clear h g;cases c:Mk.bJ x;focus
  cases f:(x==61);focus
   have a:fI s x=(s,3):=by simp[fI,c,f]
   rw[a];clear a
  rotate_left;focus
   have a:fI s x=({s with H:=16},0):=by simp[fI,c,f]
   rw[a];clear a
 rotate_left 2;focus
  have a:fI s x=({s with H:=15},0):=by simp[fI,c]
  rw[a];clear a
 all_goals
  go_enter func200,ntmps200;go_wp2_with(go_at_call 132;go_call(qp _ _)as e n ⟨rfl,rfl⟩);go_ret;first
   |(exact⟨rfl,L,d.u.start⟩)
   |(exact⟨rfl,L,d.u.start.store 4 _ _ rfl rfl rfl⟩)
def Xl(h:bC w b s L)(i:Bd s)(x:Int)(l:0<=x)(m:x<=255):
 Calls prog 201 #[.pointer (some ⟨b,0,none⟩),.int .u8 x] w (Does w b s L (gW s x)):=by
 obtain⟨j,n,k⟩:=h.zzv;have f:=Y h;unfold cellsOf at j;clear h i;cases c:Mk.bJ x;focus
  cases d:(x==34);focus
   cases g:(x==39);focus
    have a:gW s x=(s,3):=by simp[gW,c,d,g]
    rw[a];clear a
   rotate_left;focus
    have a:gW s x=({s with aj2:=x,H:=17},0):=by simp[gW,c,d,g]
    rw[a];clear a
  rotate_left 2;focus
   have a:gW s x=({s with aj2:=x,H:=17},0):=by simp[gW,c,d]
   rw[a];clear a
 rotate_left 3;focus
  have a:gW s x=(s,0):=by simp[gW,c]
  rw[a];clear a
 all_goals
  go_enter func201,ntmps201;go_wp2_with(go_at_call 132;go_call(qp _ _)as e o ⟨rfl,rfl⟩);go_ret;first
   |(exact⟨rfl,L,f.u.start⟩)
   |(exact⟨rfl,L,(f.u.start.store 14 (.int .u8 x) {s with aj2:=x} rfl rfl rfl).store 4 _ _ rfl rfl rfl⟩)
def Xm(h:bC w b s L)(m:Bd s)(x:Int)(D:0<=x)(E:x<=255):
 Calls prog 101 #[.pointer (some ⟨b,0,none⟩),.int .u8 x] w (Does w b s L (fA s x)):=by
 obtain⟨F,I,G⟩:=h.zzv;have v:=Y h;have i:=Y (Xg h m);have j:=Y (vE h m x D E);have d:=Y (vE h m 32 (by decide) (by decide));have f:=Y (wZ h 1 m.c0 (uF m.c1<|by decide) (by decide) (by decide));unfold cellsOf at F;clear h m;cases k:(x==s.aj2);focus
  cases o:(x==60);focus
   cases p:(x==38);focus
    cases g:(x==9);focus
     cases B:(x==10);focus
      have a:fA s x=cV s x:=by simp[fA,k,o,p,g,B]
      rw[a];clear a i d f
     rotate_left;focus
      have a:fA s x=cV s 32:=by simp[fA,k,o,p,g,B]
      rw[a];clear a i j f
    rotate_left 2;focus
     have a:fA s x=cV s 32:=by simp[fA,k,o,p,g]
     rw[a];clear a i j f
   rotate_left 3;focus
    cases g:gb s 1;focus
     have a:fA s x=(s,7):=by simp[fA,k,o,p,g]
     rw[a];rw[g]at f;clear a i j d
    rotate_left;focus
     have a:fA s x=(Mk.kZ s ⟨1,[],0⟩,0):=by simp[fA,k,o,p,g]
     rw[a];rw[g]at f;clear a i j d
  rotate_left 5;focus
   have a:fA s x=(s,3):=by simp[fA,k,o]
   rw[a];clear a i j d f
 rotate_left 6;focus
  have a:fA s x=(Mk.yA s,0):=by simp[fA,k]
  rw[a];clear a j d f
 all_goals
  go_enter func101,ntmps101;first
   |(go_wp2_with(go_at_call 134;go_call j.u as e y ⟨rfl,q,c⟩;have r:=Y c;clear c);go_ret;exact⟨rfl,q,r.u⟩)
   |(go_wp2_with(go_at_call 134;go_call d.u as e y ⟨rfl,q,c⟩;have r:=Y c;clear c);go_ret;exact⟨rfl,q,r.u⟩)
   |(go_wp2_with(go_at_call 137;go_call f.u as e w' ⟨rfl,n,rfl⟩);go_ret;exact⟨rfl,L,v.u.start.drewN _⟩)
   |(go_wp2_with(first|(go_at_call 137;go_call f.u as e w' ⟨rfl,n,rfl⟩)|(go_at_call 133;go_call(LX _)as e y ⟨rfl,t⟩;have l:=(v.u.start.drewN n).below t;obtain⟨z,H,C⟩:=l.X.zzv;have A:=Y l;clear l;unfold cellsOf at z));go_ret;exact⟨rfl,L,((A.u.store 20 (.int .i64 1) {s with rp:=1} rfl rfl rfl).store 21 (.string ⟨#[]⟩) {s with rp:=1,rn:=[]} rfl rfl rfl).store 22 _ _ rfl rfl rfl⟩)
   |(go_wp2;go_ret;exact⟨rfl,L,v.u.start⟩)
   |(go_wp2_with(go_at_call 138;go_call i.u as e y ⟨rfl,q,c⟩;have r:=Y c;clear c);go_ret;exact⟨rfl,q,r.u⟩)
def Xn(s:Z)(c:Int):(bV s c).am=s.am/\(bV s c).f=s.f:=by unfold bV;split<;>exact⟨rfl,rfl⟩
def Xo(h:bC w b s L)(t:Bd s)(x:Int)(H:0<=x)(I:x<=255):
 Calls prog 223 #[.pointer (some ⟨b,0,none⟩),.int .u8 x] w (Does w b s L (mh s x)):=by
 obtain⟨f,p,K⟩:=h.zzv;have R:=Y h;have g:=Y (GA h t x H I);have C:=Y t;unfold cellsOf at f;clear h t;cases i:gb s 1
 .have D:mh s x=(s,7):=by simp[mh,i]
  have j:fS s x=(s,7):=by simp[fS,i]
  rw[D];rw[j]at g;clear D j f p;go_enter func223,ntmps223;go_wp2_with(go_at_call 193;go_call g.u as e v ⟨rfl,d,a⟩;have N:=Y a;clear a);go_ret;exact⟨rfl,d,N.u⟩
 have j:fS s x=(bV s x,0):=by simp[fS,i]
 rw[j]at g;have O:=Gf s x;have y:=Xn s x;have k:=C.u;have q:0<=(bV s x).G:=by have:=k.c0;omega
 have r:(bV s x).G<=1000000000000:=by have:=k.c1;omega
 have z:(bV s x).am=false:=by rw[y.1];exact k.am
 have A:(bV s x).f.length<=100000000:=by rw[y.2];exact cL k.ha
 have l:mh s x=(if(!gb (bV s x) 1&&gM (bV s x) (bV s x).i)then(bV s x,7)else(bV s x,0)):=by simp[mh,i]
 rw[l];clear j O y k C l i;generalize bV s x=m at *;cases E:gb m 1;focus
  cases P:gM m m.i;focus
   rw[M];clear f p
  rotate_left;focus
   rw[J];clear f p
 rotate_left 2
 .rw[M];clear f p;go_enter func223,ntmps223;go_wp2_with fail;go_call g.u as e v ⟨rfl,d,a⟩;have o:=Y (wZ a.X 1 q r (by decide) (by decide));rw[E]at o;have c:=Y a;clear a z A q r;go_wp2_with(go_at_call 137;go_call o.u as e w' ⟨rfl,n,rfl⟩);go_ret;exact⟨rfl,d,c.u.drewN _⟩
 all_goals
  go_enter func223,ntmps223;go_wp2_with fail;go_call g.u as e v ⟨rfl,d,a⟩;have B:=a.X.cell;have F:=a.X.lt;have o:=Y (wZ a.X 1 q r (by decide) (by decide));rw[E]at o;have G:=Y λn=>Dw (a.X.drewN n) z A m.i;rw[P]at G;have Q:=λn=>vC (w:=v.drewN n) ((a.X.drewN n).rows.own (fV m d)<|by simp[rowsOf]);have c:=Y a;unfold cellsOf at B;clear a z A q r
  go_wp2_with(first
   |(go_at_call 137;go_call o.u as e w' ⟨rfl,n,rfl⟩)
   |(go_at_call 224;go_call(G.u n)as e w' ⟨rfl,rfl⟩))
  go_ret;exact⟨rfl,d,c.u.drewN _⟩
def Xp(h:bC w b s L)(k:Bd s)(x:Int)(z:0<=x)(A:x<=255):
 Calls prog 199 #[.pointer (some ⟨b,0,none⟩),.int .u8 x] w (Does w b s L (fU s x)):=by
 obtain⟨B,G,H⟩:=h.zzv;have C:=Y h;have m:=Y (Xo h k x z A);have l:=Y (Dw h k.am (cL k.ha) s.i);have n:=Y (yU h);have r:=vC (h.rows.own (fV s L)<|by simp[rowsOf]);have D:=Y k;unfold cellsOf at B;clear h k;cases o:eD x;focus
  cases c:(x !=61&& !Mk.bJ x);focus
   cases p:gM s s.i;focus
    have d:fU s x=fI {bH s with attr:=s.i} x:=by simp only[fU,o,c,p];rfl
    rw[d];rw[p]at l;clear d m;cases g:(x==61);focus
     have f:(x !=61)=true:=by simp at g⊢;exact g
     have E:Mk.bJ x=true:=by simpa[f]using c
     clear c
    rotate_left;focus
     have f:(x !=61)=false:=by simp at g⊢;exact g
     clear c
   rotate_left 2;focus
    have d:fU s x=(s,6):=by simp only[fU,o,c,p];rfl
    rw[d];rw[p]at l;clear d m n;cases g:(x==61);focus
     have f:(x !=61)=true:=by simp at g⊢;exact g
     have E:Mk.bJ x=true:=by simpa[f]using c
     clear c
    rotate_left;focus
     have f:(x !=61)=false:=by simp at g⊢;exact g
     clear c
  rotate_left 4
  .have d:fU s x=(s,3):=by simp only[fU,o,c];rfl
   rw[d];have g:(x !=61)=true:=by simp at c;simp[c]
   have E:Mk.bJ x=false:=by simp at c;simp[c]
   clear d m n l c;go_enter func199,ntmps199;go_wp2_with(first|(go_at_call 192;go_call(uI _ _)as e i ⟨rfl,rfl⟩)|(go_at_call 132;go_call(qp _ _)as e i ⟨rfl,rfl⟩));go_ret;exact⟨rfl,L,C.u.start⟩
 rotate_left 4
 .have d:fU s x=mh s x:=by simp only[fU,o];rfl
  rw[d];clear d n l;go_enter func199,ntmps199;go_wp2_with(first|(go_at_call 192;go_call(uI _ _)as e i ⟨rfl,rfl⟩)|(go_at_call 223;go_call m.u as e i ⟨rfl,q,a⟩;have t:=Y a;clear a));go_ret;exact⟨rfl,q,t.u⟩
 all_goals
  go_enter func199,ntmps199;go_wp2_with(first|(go_at_call 192;go_call(uI _ _)as e i ⟨rfl,rfl⟩)|(go_at_call 132;go_call(qp _ _)as e i ⟨rfl,rfl⟩)|(go_at_call 224;go_call l.u as e w' ⟨rfl,rfl⟩));first
   |(go_call n.u as e i ⟨rfl,q,a⟩;obtain⟨v,I,F⟩:=a.X.zzv;have j:=a.store 12 (.string ⟨s.i.toArray⟩) {bH s with attr:=s.i} rfl rfl rfl;have K:=Y (ME j.X {D.u with ht:=by simp[bH],c0:=by simp[bH],c1:=by simp[bH]} x z A);have y:=Y j;unfold cellsOf at v;clear a j D B G r;go_wp2_with(go_at_call 200;go_call K.u as e i ⟨rfl,q,a⟩;have t:=Y a;clear a);go_ret;exact⟨rfl,q,y.u.call t.u⟩)
   |(go_ret;exact⟨rfl,L,C.u.start⟩)
def MF(h:bC w b s L)(d:s.I≠[]):∃(l:List U) (x:U) (g:Nat),s.I=l++[x]/\s.I.length=l.length+1/\L.oa=some ⟨g,0,none⟩/\l.length+1<=L.oc/\w.cell? ⟨g,l.length,none⟩=some (.string ⟨x.toArray⟩):=by
 have hrow:=h.rows.own (eH s L) (by simp[rowsOf]);have a:s.I.length=s.I.dropLast.length+1:=by
  have:=List.length_pos_iff.2 d;rw[uo];omega
 obtain⟨g,f,o,_,_⟩:=World.ownsRow.form hrow (by show 0<s.I.length;omega);have i:Value.slice L.oa s.I.length L.oc=.slice (some ⟨g,0,none⟩) s.I.length f:=o;injection i with m u v;have n:s.I.length<=L.oc:=by
  obtain⟨y,e⟩|⟨p,c,q,j,_,_,r,_⟩:=hrow.2
  .simp[eH]at e;exact aj6 e d
  have k:Value.slice L.oa s.I.length L.oc=.slice (some ⟨p,0,none⟩) s.I.length c:=j;injection k with _ _ t;rwa[t]
 refine⟨s.I.dropLast,s.I.getLast d,g,(tF d).symm,a,m,by omega,?_⟩;have e:w.ownsRow (b - 1) 9 1 (.slice (some ⟨g,0,none⟩) s.I.length L.oc) s.I.length (s.I.map sv):=by rwa[<-m]
 rw[Bc e s.I.dropLast.length<|by omega,List.getElem?_map,l_<|by omega];simp only[FR,sv];congr 4
 rw[List.getLast_eq_getElem];congr 1
 omega
def GD(h:bC w b s L)(i:s.I.length<=100000000):
 Calls prog 177 #[.pointer (some ⟨b,0,none⟩)] w λe w' =>e=.returned (.string ⟨(bP s).toArray⟩)/\∃n,w' =w.drewN n:=by
 have f:=h.cell;unfold cellsOf at f;by_cases a:s.I=[]
 .have c:bP s=[]:=by simp[bP,a]
  have j:s.I.length=0:=by simp[a]
  rw[c];clear h c a;go_enter func177,ntmps177;go_wp2;go_ret;exact⟨rfl,0,rfl⟩
 obtain⟨l,x,g,d,k,m,o,p⟩:=MF h a;have c:bP s=x:=by simp[bP,d]
 rw[c];have e0:((l.length:Int)+1==0)=false:=akc;clear h c d a;go_enter func177,ntmps177;go_wp2;go_quiet(fail);go_wp2;go_ret;exact⟨rfl,_,rfl⟩
section
variable {w0 w:World}{b:Nat}{f0:List Nat}{s:Z}{L:Lay}
def Mv.Xq(m:Mv w0 b f0 w s L)(l:List U)(x:U)(j:s.I=l++[x]):
 Mv w0 b f0 (w.setCell ⟨b,5,none⟩ (.slice L.oa l.length L.oc)) {s with I:=l} L:=by
 have hrow:=m.X.rows.own (eH s L) (by simp[rowsOf]);have k:s.I.length=l.length+1:=by simp[j]
 have hown:(eH {s with I:=l} L).owned w (b - 1):=by
  obtain⟨B,o⟩|⟨g,c,a,p,q,t,e,u,f,d⟩:=hrow.2
  .have C:s.I.length=0:=o;omega
  have h:Value.slice L.oa s.I.length L.oc=.slice (some ⟨g,0,none⟩) s.I.length c:=p;injection h with y _ z;have n:s.I.length<=c:=e;refine⟨by simp[eH],.inr ⟨g,c,a,?_,q,t,?_,u,f,?_⟩⟩
  .simp[eH,y,z]
  .show l.length<=c;omega
  have A:a.toList.take (s.I.length*1)=s.I.map sv:=d;show a.toList.take (l.length*1)=l.map sv;have:a.toList.take (l.length*1)=(a.toList.take (s.I.length*1)).take l.length:=by rw[CY];congr 1;omega
  rw[this,A,j,mP];simp
 have i:w.grownBy w (eH s L).v.ownBlock:=⟨rfl,rfl,rfl,a_ _,λ_ _ _=>rfl⟩;exact m.grow (s' :={s with I:=l}) (L' :=L) (r:=eH s L) (r' :=eH {s with I:=l} L) (rs:=fV s L::eC s L::fE s L::gN s L::fK s L::fW s L::L.es.map bR) 5 _ (.refl _) (.refl _) hown i (.inl<|by simp[eH];cases L.oa<;>rfl) rfl m.X.evs
end
def Xr(h:bC w b s L)(m:Bd s)(q:Sl s)(f:(bP s).length<=100000000):
 Calls prog 196 #[.pointer (some ⟨b,0,none⟩)] w λe w' =>e=.returned (.tuple #[])/\∃F,Mv w b (aY s L) w' (kH s) F:=by
 have j:=Y (GD h m.ho);have ho:=m.ho;have D:=Y h;have r:=Y m;obtain⟨p,c⟩:=akb (bP s);rw[c]at f;have G:=q.l;by_cases k:s.I=[]
 .have O:s.I.length=0:=by simp[k]
  have o:kH s=bZ s p:=by
   rw[kH,c,k];have:({s with I:=[].dropLast}:Z)=s:=by rw[List.dropLast_nil,<-k]
   rw[this]
  rw[o];rw[c]at j;clear h k o c m;go_enter func196,ntmps196;go_wp2_with fail;go_call j.u as e E ⟨rfl,n,rfl⟩;have d:=D.u.start.drewN n;have t:=d.X.cell;have v:=d.X.lt;have y:=Y (Gw d.X r.u (by omega) p f);have i:=Y d;unfold cellsOf at t;clear d j r;go_wp2_with(go_at_call 222;go_call y.u as e w2 ⟨rfl,z,a⟩;have A:=Y a;clear a);go_end0
  exact⟨rfl,z,i.u.call A.u⟩
 obtain⟨l,x,g,B,P,H,Q,I⟩:=MF h k;have o:kH s=bZ {s with I:=l} p:=by
  rw[kH,c,B];simp
 rw[o];rw[c]at j;have K:=Y B;have N:=Y H;clear h k o c m B I;go_enter func196,ntmps196;go_wp2_with fail;go_call j.u as e E ⟨rfl,n,rfl⟩;have d:=D.u.start.drewN n;obtain⟨t,R,v⟩:=d.X.zzv;have i:=Y d;unfold cellsOf at t;clear d j;generalize w.drewN n=E at *;go_wp2;go_region;all_goals
  have a:=(i.u.Xq l x K.u).drew;rw[N.u]at a;have y:=Y (Gw a.X {r.u with ho:=by simp;omega} (by show s.C.length+100<=_;omega) p f);have C:=Y a;clear a;go_wp2_with(go_at_call 222;go_call y.u as e w2 ⟨rfl,z,a⟩;have A:=Y a;clear a);go_end0
  exact⟨rfl,z,C.u.call A.u⟩
def MG(h:bC w b s L)(j:Bd s)(d:Sl s)(f:(bP s).length<=100000000)(x:Int):
 Calls prog 147 #[.pointer (some ⟨b,0,none⟩),.int .u8 x] w (Does w b s L (gh s x)):=by
 obtain⟨n,r,o⟩:=h.zzv;have k:=Y h;have g:=Y (Xr h j d f);unfold cellsOf at n;clear h j;cases i:Mk.bJ x
 .cases l:(x==62)
  .have a:gh s x=(s,3):=by simp[gh,i,l]
   rw[a];clear a g;go_enter func147,ntmps147;go_wp2_with(go_at_call 132;go_call(qp _ _)as e m ⟨rfl,rfl⟩);go_ret;exact⟨rfl,L,k.u.start⟩
  have a:gh s x=(kH s,0):=by simp[gh,i,l]
  rw[a];clear a;go_enter func147,ntmps147;go_wp2_with(first|(go_at_call 132;go_call(qp _ _)as e m ⟨rfl,rfl⟩)|(go_at_call 196;go_call g.u as e w2 ⟨rfl,p,c⟩;have q:=Y c;clear c));go_ret;exact⟨rfl,p,q.u⟩
 have a:gh s x=({s with H:=21},0):=by simp[gh,i]
 rw[a];clear a g;go_enter func147,ntmps147;go_wp2_with(go_at_call 132;go_call(qp _ _)as e m ⟨rfl,rfl⟩);go_ret;exact⟨rfl,L,k.u.start.store 4 _ _ rfl rfl rfl⟩
def Xt(h:bC w b s L)(m:Bd s)(z:Sl s)(x:Int)(t:(bP s).length<=100000000):
 Calls prog 146 #[.pointer (some ⟨b,0,none⟩),.int .u8 x] w (Does w b s L (iC s x)):=by
 have g:=Y (GD h m.ho);have y:=Y h;have E:=Y m;have K:=m.m0;have N:=m.m1;obtain⟨o,a⟩:=akb (bP s);have A:=Y t;rw[a]at g t;by_cases r:s.aW<o.length
 .obtain⟨k,D⟩:∃k:Nat,s.aW=(k:Int):=⟨s.aW.toNat,by omega⟩;have i:k<o.length:=by omega
  cases j:(((o[k].toNat:Nat):Int) !=x)
  .have f:iC s x=({s with aW:=(k:Int)+1},0):=by
    have B:((o[k].toNat:Nat):Int)=x:=by simpa using j
    rw[iC,a,J r,D];simp[i,B]
   rw[f];have C:((((⟨o.toArray⟩:ByteArray)[k]'(by simpa[ByteArray.size]using i)).toNat:Int) !=x)=false:=j;clear f h m a j;go_enter func146,ntmps146;go_wp2_with fail;go_call g.u as e l ⟨rfl,n,rfl⟩;have c:=y.u.start.drewN n;obtain⟨p,O,q⟩:=c.X.zzv;have d:=Y c;unfold cellsOf at p;clear c g;generalize w.drewN n=l at *;go_wp2;go_ret;exact⟨rfl,L,d.u.store 17 _ _ rfl rfl rfl⟩
  have f:iC s x=(s,5):=by
   have B:((o[k].toNat:Nat):Int)≠x:=by simpa using j
   rw[iC,a,J r,D];simp[i,B]
  rw[f];have C:((((⟨o.toArray⟩:ByteArray)[k]'(by simpa[ByteArray.size]using i)).toNat:Int) !=x)=true:=j;clear f h m a j;go_enter func146,ntmps146;go_wp2_with fail;go_call g.u as e l ⟨rfl,n,rfl⟩;have c:=y.u.start.drewN n;have p:=c.X.cell;have q:=c.X.lt;have d:=Y c;unfold cellsOf at p;clear c g;generalize w.drewN n=l at *;go_wp2;go_ret;exact⟨rfl,L,d.u⟩
 have F:decide (s.aW<(o.length:Int))=false:=aj9;cases j:eD x
 .have f:iC s x=gh s x:=by
   rw[iC,a,M r,j];simp
  rw[f];clear f h m a r;go_enter func146,ntmps146;go_wp2_with fail;go_call g.u as e l ⟨rfl,n,rfl⟩;have c:=y.u.start.drewN n;have p:=c.X.cell;have q:=c.X.lt;have G:=Y (MG c.X E.u z A.u x);have d:=Y c;unfold cellsOf at p;clear c g;generalize w.drewN n=l at *;go_wp2_with(first|(go_at_call 192;go_call(uI _ _)as e l ⟨rfl,rfl⟩)|(go_at_call 147;go_call G.u as e w2 ⟨rfl,H,v⟩;have I:=Y v;clear v));go_ret;exact⟨rfl,H,d.u.call I.u⟩
 have f:iC s x=(s,5):=by
  rw[iC,a,M r,j];simp
 rw[f];clear f h m a r;go_enter func146,ntmps146;go_wp2_with fail;go_call g.u as e l ⟨rfl,n,rfl⟩;have c:=y.u.start.drewN n;have p:=c.X.cell;have q:=c.X.lt;have d:=Y c;unfold cellsOf at p;clear c g;generalize w.drewN n=l at *;go_wp2_with(go_at_call 192;go_call(uI _ _)as e l ⟨rfl,rfl⟩);go_ret;exact⟨rfl,L,d.u⟩
def Xz(h:bC w b s L)(f:Bd s)(x:Int)(o:0<=x)(q:x<=255)(l:Sl s):
 Calls prog 148 #[.pointer (some ⟨b,0,none⟩),.int .u8 x] w (Does w b s L (dV s x)):=by
 have y:=h.cell;have z:=h.lt;unfold cellsOf at y;by_cases p:s.H=12
 ·
  have g:=Y (Xi h f x o q l);have d:dV s x=iP s x:=by simp[dV,p]
  rw[d];clear d h f;go_enter func148,ntmps148;go_wp2_with(go_at_call 197;go_call g.u as e r ⟨rfl,i,a⟩;have c:=Y a;clear a);go_ret;exact⟨rfl,i,c.u⟩
 have j:=aj7 p;clear p;by_cases p:s.H=13
 ·
  have g:=Y (Xj h f x o q l);have d:dV s x=gV s x:=by simp[dV,j,p]
  rw[d];clear d h f;go_enter func148,ntmps148;go_wp2_with(go_at_call 198;go_call g.u as e r ⟨rfl,i,a⟩;have c:=Y a;clear a);go_ret;exact⟨rfl,i,c.u⟩
 have k:=aj7 p;clear p;by_cases p:s.H=14
 ·
  have g:=Y (Xp h f x o q);have d:dV s x=fU s x:=by simp[dV,j,k,p]
  rw[d];clear d h f;go_enter func148,ntmps148;go_wp2_with(go_at_call 199;go_call g.u as e r ⟨rfl,i,a⟩;have c:=Y a;clear a);go_ret;exact⟨rfl,i,c.u⟩
 have m:=aj7 p;clear p;by_cases p:s.H=15
 ·
  have g:=Y (ME h f x o q);have d:dV s x=fI s x:=by simp[dV,j,k,m,p]
  rw[d];clear d h f;go_enter func148,ntmps148;go_wp2_with(go_at_call 200;go_call g.u as e r ⟨rfl,i,a⟩;have c:=Y a;clear a);go_ret;exact⟨rfl,i,c.u⟩
 have n:=aj7 p;clear p;by_cases p:s.H=16
 ·
  have g:=Y (Xl h f x o q);have d:dV s x=gW s x:=by simp[dV,j,k,m,n,p]
  rw[d];clear d h f;go_enter func148,ntmps148;go_wp2_with(go_at_call 201;go_call g.u as e r ⟨rfl,i,a⟩;have c:=Y a;clear a);go_ret;exact⟨rfl,i,c.u⟩
 have t:=aj7 p;clear p;by_cases p:s.H=18
 ·
  have g:=Y (Gz h f l x);have d:dV s x=dR s x:=by simp[dV,j,k,m,n,t,p]
  rw[d];clear d h f;go_enter func148,ntmps148;go_wp2_with(go_at_call 202;go_call g.u as e r ⟨rfl,i,a⟩;have c:=Y a;clear a);go_ret;exact⟨rfl,i,c.u⟩
 have v:=aj7 p;clear p;have g:=Y (Xk h f x o q l);have d:dV s x=jL s x:=by simp[dV,j,k,m,n,t,v]
 rw[d];clear d h f;go_enter func148,ntmps148;go_wp2_with(go_at_call 203;go_call g.u as e r ⟨rfl,i,a⟩;have c:=Y a;clear a);go_ret;exact⟨rfl,i,c.u⟩
def XA(h:bC w b s L)(f:Bd s)(x:Int)(q:0<=x)(r:x<=255)(m:Sl s)(v:(bP s).length<=100000000):
 Calls prog 102 #[.pointer (some ⟨b,0,none⟩),.int .u8 x] w (Does w b s L (bU s x)):=by
 have C:=h.cell;have D:=h.lt;unfold cellsOf at C;by_cases p:s.H=3
 ·
  have g:=Y (Xu h f x q r);have d:bU s x=Mk.eG s x:=by simp[bU,p]
  rw[d];clear d h f;go_enter func102,ntmps102;go_wp2_with(go_at_call 139;go_call g.u as e j ⟨rfl,i,a⟩;have c:=Y a;clear a);go_ret;exact⟨rfl,i,c.u⟩
 have k:=aj7 p;clear p;by_cases p:s.H=4
 ·
  have g:=Y (Xv h f x q r);have d:bU s x=Mk.gF s x:=by simp[bU,k,p]
  rw[d];clear d h f;go_enter func102,ntmps102;go_wp2_with(go_at_call 140;go_call g.u as e j ⟨rfl,i,a⟩;have c:=Y a;clear a);go_ret;exact⟨rfl,i,c.u⟩
 have l:=aj7 p;clear p;by_cases p:s.H=5
 ·
  have g:=Y (Ws h x);have d:bU s x=Mk.iO s x:=by simp[bU,k,l,p]
  rw[d];clear d h f;go_enter func102,ntmps102;go_wp2_with(go_at_call 141;go_call g.u as e j ⟨rfl,i,a⟩;have c:=Y a;clear a);go_ret;exact⟨rfl,i,c.u⟩
 have n:=aj7 p;clear p;by_cases p:s.H=6
 ·
  have g:=Y (Xw h f x q r);have d:bU s x=Mk.dQ s x:=by simp[bU,k,l,n,p]
  rw[d];clear d h f;go_enter func102,ntmps102;go_wp2_with(go_at_call 142;go_call g.u as e j ⟨rfl,i,a⟩;have c:=Y a;clear a);go_ret;exact⟨rfl,i,c.u⟩
 have t:=aj7 p;clear p;by_cases p:s.H=8
 ·
  have g:=Y (Xh h f x q r);have d:bU s x=Mk.cN s x:=by simp[bU,k,l,n,t,p]
  rw[d];clear d h f;go_enter func102,ntmps102;go_wp2_with(go_at_call 143;go_call g.u as e j ⟨rfl,i,a⟩;have c:=Y a;clear a);go_ret;exact⟨rfl,i,c.u⟩
 have y:=aj7 p;clear p;by_cases p:s.H=9
 ·
  have g:=Y (Xx h f x);have d:bU s x=Mk.jD s x:=by simp[bU,k,l,n,t,y,p]
  rw[d];clear d h f;go_enter func102,ntmps102;go_wp2_with(go_at_call 144;go_call g.u as e j ⟨rfl,i,a⟩;have c:=Y a;clear a);go_ret;exact⟨rfl,i,c.u⟩
 have A:=aj7 p;clear p;by_cases p:s.H=10
 ·
  have g:=Y (Xy h f x q r);have d:bU s x=Mk.jK s x:=by simp[bU,k,l,n,t,y,A,p]
  rw[d];clear d h f;go_enter func102,ntmps102;go_wp2_with(go_at_call 145;go_call g.u as e j ⟨rfl,i,a⟩;have c:=Y a;clear a);go_ret;exact⟨rfl,i,c.u⟩
 have o:=aj7 p;clear p;by_cases p:s.H=20
 ·
  have g:=Y (Xt h f m x v);have d:bU s x=iC s x:=by simp[bU,k,l,n,t,y,A,o,p]
  rw[d];clear d h f;go_enter func102,ntmps102;go_wp2_with(go_at_call 146;go_call g.u as e j ⟨rfl,i,a⟩;have c:=Y a;clear a);go_ret;exact⟨rfl,i,c.u⟩
 have z:=aj7 p;clear p;by_cases p:s.H=21
 ·
  have g:=Y (MG h f m v x);have d:bU s x=gh s x:=by simp[bU,k,l,n,t,y,A,o,z,p]
  rw[d];clear d h f;go_enter func102,ntmps102;go_wp2_with(go_at_call 147;go_call g.u as e j ⟨rfl,i,a⟩;have c:=Y a;clear a);go_ret;exact⟨rfl,i,c.u⟩
 have B:=aj7 p;clear p;have g:=Y (Xz h f x q r m);have d:bU s x=dV s x:=by simp[bU,k,l,n,t,y,A,o,z,B]
 rw[d];clear d h f;go_enter func102,ntmps102;go_wp2_with(go_at_call 148;go_call g.u as e j ⟨rfl,i,a⟩;have c:=Y a;clear a);go_ret;exact⟨rfl,i,c.u⟩
end
namespace Q
open Rf
open Mk hiding Rf
variable {b a:Int}{s m0:Z}{n:Nat}
def Pn(b p:Int):Prop:=∃c,eF b=some (c,p)
def lV(h:b=9\/b=10\/b=13\/(32<=b/\b<128)):Pn b 0:=by
 refine⟨b,?_⟩;rw[eF,J ⟨by omega,(Ks b).2<|by omega⟩]
def CK(h:eD b=true):Pn b 0:=lV (by unfold eD dP Mk.fq tj at h;simp at h;omega)
def yw(h:Mk.bJ b=true):Pn b 0:=lV (by have:=sW.1 h;omega)
def wO(s:Z)(c:Int):(bV s c).t=s.t:=by unfold bV;split<;>rfl
def UX(s:Z)(p:Int×Int):(gD s p).t=p.2:=by unfold gD;split<;>simp[wO]
def aiW(s:Z):(bK s).t=s.t:=by unfold bK;split<;>rfl
def Ao(s:Z)(e:Ev):(aX s e).t=s.t:=by unfold aX;exact aiW s
def UY:∀(l:List (U×U)) (s:Z),(gJ s l).t=s.t
 |[],_=>rfl
 |x::l,s=>by unfold gJ;rw[UY l,Ao]
def UZ:∀(l:List (U×U)) (s:Z),(iV s l).t=s.t
 |[],_=>rfl
 |x::l,s=>by unfold iV;rw[UZ l,Ao]
def U_(s:Z):(bX s).t=s.t:=by unfold bX Mk.gK;simp only[Ao,UY]
def Vb(s:Z)(n:U):(bZ s n).t=s.t:=by unfold bZ Mk.jb iy Mk.nO;simp only[UZ,Ao]
def aiX(s:Z):(cG s).1.t=s.t:=by unfold cG;dsimp only;split<;>rfl
def aiY(s:Z):(dY s).1.t=s.t:=by unfold dY;(repeat' split)<;>simp only[aiX]
def aiZ(s:Z)(b:Int):(gL s b).t=s.t:=by unfold gL iy;split<;>simp only[U_]
def ai0(s:Z)(b:Int):(ia s b).1.t=s.t:=by unfold ia;(repeat' split)<;>simp only[aiY,aiZ]
def ai1(s:Z):(mS s).t=s.t:=by unfold mS iy bH;simp only[Ao]
def Vd(s:Z):(kG s).t=s.t:=by unfold kG iy bH;simp only[Ao]
def ai2(s:Z):(kH s).t=s.t:=by unfold kH;simp only[Vb]
def Vf(a:(cV s b).2=0):Pn b (cV s b).1.t:=by
 unfold cV at a⊢;cases c:eF b with
 |none=>simp only[c]at a;cases a
 |some p=>
  simp only[c]at a⊢;split
  .rw[UX];exact⟨p.1,by rw[c]⟩
  rename_i g;rw[M g]at a;cases a
def Pz(r:Z×Int)(b:Int):Prop:=r.2=0->Pn b r.1.t
def cJ{c:Prop}[Decidable c]{x y:Z×Int}(a:c->Pz x b)(d:¬c->Pz y b):Pz (if c then x else y) b:=by
 by_cases g:c
 .rw[J g];exact a g
 rw[M g];exact d g
def ko{e:Int}(h:e≠0:=by decide):Pz (s,e) b:=λg=>aj6 g h
def iw(a:s.t=0)(h:Pn b 0):Pz (s,0) b:=λ_=>by rwa[a]
def yx:Pz (cV s b) b:=λa=>Vf a
def Vg(c:s.t=0)(a:eD b=true):Pz (fS s b) b:=by
 unfold fS;exact cJ (λ_=>iw (by rwa[wO]) (CK a)) λ_=>ko
def Lu(a:s.t=0):Pz (dR s b) b:=by
 unfold dR;refine cJ (λg=>iw a (yw g)) λ_=>cJ (λg=>?_) λ_=>ko;intro _;rw[ai0,a];exact lV (by simp at g;omega)
def Vh(a:s.t=0):Pz (fI s b) b:=by
 unfold fI;exact cJ (λg=>iw a (yw g)) λ_=>cJ (λg=>iw a (lV<|by simp at g;omega)) λ_=>ko
def Vi(a:s.t=0):Pz (gh s b) b:=by
 unfold gh;exact cJ (λg=>iw a (yw g)) λ_=>cJ (λg=>iw (by rwa[ai2]) (lV<|by simp at g;omega)) λ_=>ko
def Vj(a:s.t=0):Pz (dN s b) b:=by
 unfold dN;refine cJ (λg=>iw (by rwa[Vd]) (lV<|by omega)) λ_=>cJ (λg=>?_) λ_=>cJ (λg=>iw a (lV<|by omega)) λ_=>yx;exact cJ (λ_=>iw (by rwa[wO]) (lV<|by omega)) λ_=>ko
def ai3(a:0<=b)(c:b<256){l:U}(h:Mk.u8 b∈l):∃x∈l,(x.toNat:Int)=b:=⟨_,h,iQ a c⟩
def ai4{v:Int}(j:a=10\/a=16)(h:nN b a=some v):Pn b 0:=by
 unfold nN Mk.Ap tj at h;by_cases c:48<=b/\b<=57
 .exact lV (by omega)
 by_cases d:65<=b/\b<=70
 .exact lV (by omega)
 by_cases e:97<=b/\b<=102
 .exact lV (by omega)
 exfalso;have f:(decide (48<=b)&&decide (b<=57))=false:=by simpa using c
 have g:(decide (65<=b)&&decide (b<=70))=false:=by simpa using d
 have i:(decide (97<=b)&&decide (b<=102))=false:=by simpa using e
 simp[f,g,i]at h
def FJ{c p:Int}{z:Mk.Rf}(d:a=10\/a=16)(h:iN c b a p=some z):Pn b 0:=by
 unfold iN at h;cases hd:nN b a with
 |none=>rw[hd]at h;cases h
 |some v=>exact ai4 d hd
def Vk{n:U}{z:Mk.Rf}(d:0<=b)(e:b<256)(h:pP n b=some z):Pn b 0:=by
 unfold pP at h;obtain⟨y,c,f⟩:=KQ _ _ z h;obtain⟨x,hx,a⟩:=ai3 d e (f (Mk.u8 b)<|by simp);simp only[Mk.fG,oN,qm,uD]at c;refine lV ?_;obtain rfl|rfl|rfl|rfl|rfl:=c<;>simp at hx<;>(obtain rfl|rfl|rfl|rfl|rfl:=hx<;>(simp at a;omega))<;>done
def ai5(d:s.t=0)(e:0<=b)(f:b<256):Pz (fD s b) b:=by
 intro c;unfold fD at c⊢;cases a:dJ ⟨s.rp,s.rn,s.rc⟩ b with
 |none=>simp only[a]at c;cases c
 |some z=>
  have h:Pn b 0:=by
   unfold dJ at a;split at a
   .split at a
    .rename_i g;exact lV (by simp at g;omega)
    exact Vk e f a
   split at a
   .exact Vk e f a
   split at a
   .split at a
    .rename_i g;exact lV (by simp at g;omega)
    exact FJ (.inl rfl) a
   split at a
   .unfold jl at a;split at a
    .rename_i g;exact lV (by simp at g;omega)
    exact FJ (.inl rfl) a
   split at a
   .exact FJ (.inr rfl) a
   split at a
   .unfold jl at a;split at a
    .rename_i g;exact lV (by simp at g;omega)
    exact FJ (.inr rfl) a
   cases a
  dsimp only;split
  .show Pn b s.t;rwa[d]
  show Pn b (bV (Mk.kZ s z) z.code).t;rw[wO];show Pn b s.t;rwa[d]
def ai6(j:W s)(a:s.t=0)(A:0<=b)(B:b<256):Pz (bU s b) b:=by
 have c:∀n:Int,(n=9\/n=10\/n=13\/(32<=n/\n<128))->b=n->Pn b 0:=λn u g=>by rw[g];exact lV u
 unfold bU;refine cJ (λ_=>?_) λ_=>cJ (λ_=>?_) λ_=>cJ (λ_=>?_) λ_=>cJ (λv=>?_) λ_=>cJ (λ_=>?_) λ_=>cJ (λ_=>?_) λ_=>cJ (λ_=>?_) λ_=>cJ (λk=>?_) λ_=>cJ (λ_=>?_) λ_=>?_
 .unfold Mk.eG;refine cJ (λg=>iw a (c 33 (by omega) (by simpa using g))) λ_=>cJ (λg=>iw a (c 63 (by omega) (by simpa using g))) λ_=>cJ (λg=>iw a (c 47 (by omega) g.1)) λ_=>cJ (λg=>?_) λ_=>ko;unfold Mk.mg;refine cJ (λ_=>ko) λ_=>iw (by rwa[wO]) ?_;have:dP b=true:=by simp at g;exact g.1
  exact CK (by rw[eD,this];rfl)
 .unfold Mk.gF;exact cJ (λg=>iw a (c 45 (by omega) (by simpa using g))) λ_=>cJ (λg=>iw a (c 91 (by omega) g.1)) λ_=>ko
 .unfold Mk.iO;exact cJ (λg=>iw a (c 45 (by omega) (by simpa using g))) λ_=>ko
 .unfold Mk.dQ;have m:s.H=6:=by simpa using v
  obtain⟨w,y⟩:=j.m6 m;refine cJ (λ_=>ko) λg=>?_;have o:lK.getD s.aW.toNat 0=b:=by
   by_cases q:lK.getD s.aW.toNat 0=b
   .exact q
   exact aj6 (.inr q) g
  have d:Pn b 0:=by
   rw[<-o];have:s.aW.toNat<6:=by omega
   generalize s.aW.toNat=i at this;have p:∀i,i<6->32<=lK.getD i 0/\lK.getD i 0<128:=by decide
   have:=p i this;exact lV (by omega)
  exact cJ (λ_=>iw a d) λ_=>iw a d
 .unfold Mk.cN;refine cJ (λ_=>ko) λ_=>cJ (λg=>Vg a g) λ_=>cJ (λ_=>ko) λg=>cJ (λ_=>ko) λ_=>iw a ?_;by_cases q:b=63
  .exact c 63 (by omega) q
  have:Mk.bJ b=true:=by
   cases z:Mk.bJ b
   .exfalso;apply g;simp[q,z]
   rfl
  exact yw this
 .unfold Mk.jD;exact cJ (λg=>iw (by rwa[Vd]) (c 62 (by omega) (by simpa using g))) λ_=>ko
 .unfold Mk.jK;exact cJ (λg=>iw a (yw g)) λ_=>Vj (s:={s with H:=11}) a
 .unfold Mk.iC;have e:s.H=20:=by simpa using k
  obtain⟨w,y⟩:=j.rQ e;have f:=j.o1 (.inr (.inr (.inr (.inl e))));refine cJ (λC=>cJ (λ_=>ko) λg=>iw a ?_) λ_=>cJ (λ_=>ko) λ_=>Vi a;have o:((bP s).getD s.aW.toNat 0).toNat=b:=by
   by_cases q:(((bP s).getD s.aW.toNat 0).toNat:Int)=b
   .exact q
   exact aj6 q g
  have h:bP s∈s.I:=by
   unfold bP;obtain⟨l,x,r⟩:∃l x,s.I=l++[x]:=⟨s.I.dropLast,s.I.getLast f,(tF f).symm⟩;rw[r];simp
  have t:s.aW.toNat<(bP s).length:=by omega
  have hx:(bP s).getD s.aW.toNat 0∈bP s:=by
   simp only[List.getD,l_ t,AK];exact iZ t
  have:=(j.xP _ h).1 _ hx;rw[o]at this;exact CK this
 .exact Vi a
 unfold Mk.dV;refine cJ (λ_=>?_) λ_=>cJ (λ_=>?_) λ_=>cJ (λ_=>?_) λ_=>cJ (λ_=>Vh a) λ_=>cJ (λ_=>?_) λ_=>cJ (λ_=>Lu a) λ_=>?_
 .unfold Mk.iP;exact cJ (λg=>Vg a g) λ_=>Lu (s:={bH s with B:=s.i}) a
 .unfold Mk.gV;refine cJ (λ_=>Lu a) λg=>cJ (λ_=>ko) λ_=>iw (by rwa[wO]) ?_;have:dP b=true:=by simpa using g
  exact CK (by rw[eD,this];rfl)
 .unfold Mk.fU;refine cJ (λg=>?_) λ_=>cJ (λ_=>ko) λ_=>cJ (λ_=>ko) λ_=>Vh (s:={bH s with attr:=s.i}) a;unfold Mk.mh;exact cJ (λ_=>cJ (λ_=>ko) λ_=>iw (by rwa[wO]) (CK g)) λ_=>ko
 .unfold Mk.gW;exact cJ (λg=>iw a (yw g)) λ_=>cJ (λg=>iw a (lV<|by simp at g;omega)) λ_=>ko
 unfold Mk.jL;refine cJ (λ_=>ko) λg=>iw (by show(bZ (bX s) s.B).t=0;rwa[Vb,U_]) (lV<|by simp at g;omega)
def ai7(i:W s)(a:s.t=0)(j:0<=b)(k:b<256):Pz (aP s b) b:=by
 have d:∀n:Int,(n=9\/n=10\/n=13\/(32<=n/\n<128))->b=n->Pn b 0:=λn l g=>by rw[g];exact lV l
 rw[aP,M];refine cJ (λ_=>ai5 a j k) λ_=>cJ (λ_=>?_) λ_=>cJ (λ_=>?_) λ_=>cJ (λ_=>?_) λ_=>cJ (λ_=>?_) λ_=>cJ (λ_=>Vj a) λ_=>cJ (λf=>?_) λ_=>ai6 i a j k
 .unfold Mk.h_;exact cJ (λg=>iw a (yw g)) λ_=>cJ (λg=>iw a (d 60 (by omega) (by simpa using g))) λ_=>ko
 .unfold Mk.fw;refine cJ (λg=>iw a (d 60 (by omega) (by simpa using g))) λ_=>cJ (λg=>iw a (d 38 (by omega) (by simpa using g))) λ_=>cJ (λ_=>cJ (λ_=>ko) λ_=>yx) λ_=>cJ (λ_=>yx) λ_=>yx
 .unfold Mk.fH;exact cJ (λg=>iw a (d 62 (by omega) g.1)) λ_=>cJ (λg=>iw (by rwa[wO]) (d 93 (by omega) g.1)) λ_=>cJ (λg=>iw a (d 93 (by omega) g)) λ_=>yx
 .unfold Mk.fu;exact cJ (λg=>iw (by rwa[ai1]) (d 62 (by omega) g.2)) λ_=>cJ (λ_=>ko) λ_=>cJ (λg=>iw a (d 45 (by omega) g)) λ_=>yx
 unfold Mk.fA;have o:=i.uS (by simpa using f);refine cJ (λg=>iw a ?_) λ_=>cJ (λ_=>ko) λ_=>cJ (λg=>cJ (λ_=>iw a (d 38 (by omega) (by simpa using g))) λ_=>ko) λ_=>cJ (λg=>?_) λ_=>yx
 .have:b=s.aj2:=by simpa using g
  exact lV (by omega)
 intro m;obtain⟨c,h⟩:=Vf m;have e:eF 32=some (32,0):=by decide
 rw[e]at h;simp only[Option.some.injEq,Prod.mk.injEq]at h;rw[<-h.2];exact lV (by simp at g;omega)
def ai8(d:0<s.t)(c:(aP s b).2=0):(aP s b).1.t=s.t - 1/\128<=b/\b<=191:=by
 rw[yh d]at c⊢;unfold Mk.fT at c⊢;cases a:eO s.pc s.t b with
 |none=>simp only[a]at c;cases c
 |some p=>
  simp only[a];rw[UX];unfold eO at a;split at a
  .cases a
  split at a
  .simp only[Option.some.injEq]at a;rw[<-a];exact⟨rfl,by omega,by omega⟩
  cases a
def At(a:Z)(s:U)(p:Nat):Z:=aQ a (s.take p)
def FK{s:U}{p:Nat}(h:p<s.length):At m0 s (p+1)=aS (At m0 s p) (s.getD p 0):=by
 unfold At;have:s.take (p+1)=s.take p++[s.getD p 0]:=by
  rw[qM,l_ h];simp[List.getD,h]
 rw[this,qj];rfl
def Vl{m:Z}{b:UInt8}(h:(aS m b).j=0):m.j=0:=by
 by_cases g:m.j=0
 .exact g
 rw[aS,M g]at h;exact aj6 h g
def FL{a:Z}{s:U}(b:n<=s.length)(h:(At a s n).j=0):∀p,p<=n->(At a s p).j=0:=by
 intro p c;obtain⟨d,rfl⟩:∃d,n=p+d:=⟨n - p,by omega⟩;clear c;induction d with
 |zero=>exact h
 |succ d ih=>
  have e:At a s (p+(d+1))=aS (At a s (p+d)) (s.getD (p+d) 0):=FK (Nat.lt_of_succ_le b);rw[e]at h;exact ih (Nat.le_of_succ_le b) (Vl h)
def Vm{m:Z}{b:UInt8}(D:W m)(B:(aS m b).j=0)(E:¬(b=10/\m.O=true)):
 (aS m b).O=decide (b=13)/\
 (m.t=0->(nb b=10->(aS m b).t=0/\(aS m b).K=m.K+1/\(aS m b).aN=1)/\(nb b≠10->Pn (nb b) (aS m b).t/\(aS m b).K=m.K/\(aS m b).aN=if(aS m b).t=0 then m.aN+1 else m.aN))/\
 (0<m.t->(aS m b).t=m.t - 1/\(aS m b).K=m.K/\((aS m b).aN=if m.t - 1=0 then m.aN+1 else m.aN)/\b≠13/\b≠10):=by
 obtain⟨X,v⟩:∃X:Z,X={m with A:=m.A+1,O:=decide (b=13)}:=⟨_,rfl⟩;have h:X.t=m.t/\X.K=m.K/\X.aN=m.aN/\X.O=decide (b=13):=by rw[v];exact⟨rfl,rfl,rfl,rfl⟩
 have w:W X:=by rw[v];exact{D with}
 have j:=KA (Vl B) E;rw[<-v]at j;dsimp only at j;have k:(aP X (nb b)).2=0:=by
  have:=B;rwa[j]at this
 rw[J k,k]at j;obtain⟨a,p⟩:=aj8 ((aP X (nb b)).1);rw[<-p]at j;have o:a.K=m.K:=by rw[p,MY];exact h.2.1
 have q:a.aN=m.aN:=by rw[p,MZ];exact h.2.2.1
 have y:a.O=decide (b=13):=by rw[p,Yi];exact h.2.2.2
 have r:∀(z:Z) (x:Int),(gX z x).t=z.t/\(gX z x).O=z.O:=by
  intro z x;unfold gX;split
  .exact⟨rfl,rfl⟩
  split<;>exact⟨rfl,rfl⟩
 have l:(aS m b).t=a.t:=by rw[j];exact(r a (nb b)).1
 have t:(aS m b).O=a.O:=by rw[j];exact(r a (nb b)).2
 have f:(aS m b).K=(gX a (nb b)).K:=by rw[j]
 have i:(aS m b).aN=(gX a (nb b)).aN:=by rw[j]
 have n:0<=nb b/\nb b<256:=by
  have:=b.toNat_lt;unfold nb;split<;>omega
 refine⟨by rw[t,y],λF=>?_,λF=>?_⟩
 .have A:Pn (nb b) a.t:=by rw[p];exact ai7 w (by rwa[h.1]) n.1 n.2 k
  refine⟨λd=>?_,λd=>?_⟩
  .have G:a.t=0:=by
    obtain⟨c,u⟩:=A;rw[d]at u;have e:eF 10=some (10,0):=by decide
    rw[e]at u;simp only[Option.some.injEq,Prod.mk.injEq]at u;exact u.2.symm
   refine⟨by rwa[l],?_,?_⟩
   .rw[f];rw[gX,J<|by simpa using d];rw[o]
   rw[i];rw[gX,J<|by simpa using d]
  refine⟨by rwa[l],?_,?_⟩
  .rw[f];rw[gX,M<|by simpa using d];split<;>exact o
  rw[i,l];rw[gX,M<|by simpa using d];by_cases g:a.t=0
  .rw[J<|by simpa using g,J g];rw[q]
  rwa[M<|by simpa using g,M g]
 obtain⟨C,H,I⟩:=ai8 (s:=X) (b:=nb b) (by rwa[h.1]) k;rw[<-p,h.1]at C;have d:nb b≠10:=by omega
 refine⟨by rwa[l],?_,?_,?_,?_⟩
 .rw[f];rw[gX,M<|by simpa using d];split<;>exact o
 .rw[i];rw[gX,M<|by simpa using d,C];by_cases g:m.t - 1=0
  .rw[J<|by simpa using g,J g];rw[q]
  rwa[M<|by simpa using g,M g]
 .rintro rfl;exact d rfl
 rintro rfl;exact d rfl
def Vn{s:U}(a:∀p,p<=n->W (At m0 s p))(q:n<=s.length)(c:(At m0 s n).j=0):
 ∀(j p:Nat),p+j<=n->(At m0 s p).O=false->(j:Int)<=(At m0 s p).t->(At m0 s (p+j)).t=(At m0 s p).t - j/\(At m0 s (p+j)).K=(At m0 s p).K/\(At m0 s (p+j)).aN=(if 0<j/\(j:Int)=(At m0 s p).t then(At m0 s p).aN+1 else(At m0 s p).aN)/\(At m0 s (p+j)).O=false:=by
 intro j;induction j with
 |zero=>
  intro p _ d _;refine⟨by show(At m0 s p).t=_;omega,rfl,?_,d⟩;rw[M];rfl
 |succ j ih=>
  intro p y d z;have f:p<s.length:=by omega
  have e:=FK (m0:=m0) (s:=s) f;have h:(aS (At m0 s p) (s.getD p 0)).j=0:=by rw[<-e];exact FL q c (p+1) (by omega)
  obtain⟨l,_,r⟩:=Vm (a p<|by omega) h (by rw[d];rintro⟨_,g⟩;cases g);obtain⟨b,m,o,t,A⟩:=r (by omega);rw[<-e]at l b m o;have i:(At m0 s (p+1)).O=false:=by rw[l];simpa using t
  obtain⟨u,v,w,x⟩:=ih (p+1) (by omega) i (by rw[b];omega);rw[show p+(j+1)=p+1+j by omega];refine⟨by rw[u,b];omega,by rw[v,m],?_,x⟩;rw[w,b,o];by_cases k:j=0
  .subst k;rw[M];by_cases g:(At m0 s p).t=1
   .rw[J,J]
   rw[M,M]
  by_cases g:((j+1:Nat):Int)=(At m0 s p).t
  .rw[J,M,J]
  rw[M,M,M]
def ai9{b:UInt8}{p:Int}(h:Pn (b.toNat:Int) p):Rf.kr [b]=p:=by
 obtain⟨c,a⟩:=h;rw[zu,a]
def ai_{s:U}(a:∀p,p<=n->W (At m0 s p))(w:n<=s.length)(d:(At m0 s n).j=0):
 ∀(f p:Nat),p<=n->n<p+f->(At m0 s p).t=0->((At m0 s p).O=true->p<n->s.getD p 0≠10)->nk s n f p (At m0 s p).K (At m0 s p).aN=((At m0 s n).K,(At m0 s n).aN):=by
 intro f;induction f using Nat.strongRecOn with
 |_ f ih=>
  intro p hp hf E F;cases f with
  |zero=>omega
  |succ f=>
   unfold nk;by_cases h:p<n
   .rw[J h];dsimp only;have X:p<s.length:=by omega
    have e:=FK (m0:=m0) (s:=s) X;have G:(aS (At m0 s p) (s.getD p 0)).j=0:=by rw[<-e];exact FL w d (p+1) (by omega)
    obtain⟨z,t2,_⟩:=Vm (a p<|by omega) G λg=>F g.2 h g.1;obtain⟨m,o⟩:=t2 E;rw[<-e]at z m o;have r:∀(x:UInt8) (y:Nat),y<256->((x.toNat:Int)=y↔x=UInt8.ofNat y):=by
     intro x y hy;constructor
     .intro g;rw[<-(show x.toNat=y by omega)];simp
     rintro rfl;simp;omega
    by_cases b:nb (s.getD p 0)=10
    .obtain⟨a1,N,O⟩:=m b;have i:s.getD p 0=10\/s.getD p 0=13:=by
      unfold nb at b;split at b
      .rename_i g;exact .inr g
      exact .inl ((r _ 10<|by decide).1 b)
     have H:((((s.getD p 0).toNat:Int)==13)||(((s.getD p 0).toNat:Int)==10))=true:=by obtain g|g:=i<;>rw[g]<;>decide
     rw[J H];by_cases j:s.getD p 0=13/\p+1<n/\s.getD (p+1) 0=10
     .have k:((((s.getD p 0).toNat:Int)==13)&&decide (p+1<n)&&(((s.getD (p+1) 0).toNat:Int)==10))=true:=by rw[j.1,j.2.2,nR j.2.1];decide
      rw[J k];have P:=FK (m0:=m0) (s:=s) (show p+1<s.length by omega);have t:(At m0 s (p+1)).O=true:=by rw[z,j.1];decide
      rw[j.2.2,(Aa (FL w d (p+1)<|by omega) t)]at P;have A:(At m0 s (p+1+1)).K=(At m0 s (p+1)).K/\(At m0 s (p+1+1)).aN=(At m0 s (p+1)).aN/\(At m0 s (p+1+1)).t=(At m0 s (p+1)).t/\(At m0 s (p+1+1)).O=false:=by rw[P];exact⟨rfl,rfl,rfl,rfl⟩
      have:=ih f (by omega) (p+1+1) (by omega) (by omega) (by rwa[A.2.2.1]) (λg=>by rw[A.2.2.2]at g;cases g);rwa[A.1,A.2.1,N,O]at this
     have k:((((s.getD p 0).toNat:Int)==13)&&decide (p+1<n)&&(((s.getD (p+1) 0).toNat:Int)==10))=false:=by
      rw[wU];intro g;rw[nQ,nQ,ajP,ajP,wS]at g;exact j ⟨(r _ 13<|by decide).1 g.1.1,g.1.2,(r _ 10<|by decide).1 g.2⟩
     rw[k,M]
     have:=ih f (by omega) (p+1) (by omega) (by omega) a1 (λg u g2=>by
      rw[z]at g
      exact j ⟨by simpa using g,u,g2⟩)
     rwa[N,O]at this
    obtain⟨Q,R,S⟩:=o b;have l:s.getD p 0≠13:=by intro g;apply b;rw[g];rfl
    have I:s.getD p 0≠10:=by intro g;apply b;rw[g];rfl
    have H:((((s.getD p 0).toNat:Int)==13)||(((s.getD p 0).toNat:Int)==10))=false:=by
     rw[uq,d_,d_];exact⟨λg=>l ((r _ 13<|by decide).1 g),λg=>I ((r _ 10<|by decide).1 g)⟩
    rw[H,M];rw[qI l]at Q;have T:0<=(At m0 s (p+1)).t:=(a (p+1)<|by omega).p0;have v:(At m0 s (p+1)).O=false:=by rw[z];simpa using l
    rw[(ai9 Q)];obtain⟨q,c⟩:∃q:Nat,(At m0 s (p+1)).t=(q:Int):=⟨(At m0 s (p+1)).t.toNat,by omega⟩;by_cases B:n<=p+q
    .rw[J<|by rw[c];simp;omega];obtain⟨K,C,D,L⟩:=Vn a w d (n - (p+1)) (p+1) (by omega) v (by rw[c];omega);rw[show p+1+(n - (p+1))=n by omega]at K C D L;rw[C,D,M<|by rw[c];omega,R,S,M<|by rw[c];omega]
    rw[M<|by rw[c];simp;omega];obtain⟨K,C,D,L⟩:=Vn a w d q (p+1) (by omega) v (by rw[c];omega);have:=ih f (by omega) (p+1+q) (by omega) (by omega) (by rw[K,c];omega) (λg=>by rw[L]at g;cases g);rw[c,CN];rw[C,D,R,S]at this;by_cases g0:q=0
    .rwa[M,J<|by rw[c];omega]at this
    rwa[J ⟨by omega,c.symm⟩,M<|by rw[c];omega]at this
   rw[M h];have:p=n:=by omega
   subst this;rfl
def Vp{c:Int}{on:Bool}(f:1<=a)(h:8<=c)(i:b<=32)(s:U)(n:Nat)(e:n<=s.length)(d:(aQ (bB a b c on) (s.take n)).j=0):
 Rf.place s n=((aQ (bB a b c on) (s.take n)).K,(aQ (bB a b c on) (s.take n)).aN):=by
 have j:∀p,p<=n->W (At (bB a b c on) s p):=λp k=>zL _ (BO a b c on f h i) (FL e d p k);have e0:At (bB a b c on) s 0=bB a b c on:=by rw[At,List.take_zero];rfl
 have:=ai_ j e d (n+1) 0 (by omega) (by omega) (by rw[e0];rfl) (λg=>by rw[e0]at g;cases g);rwa[e0]at this
