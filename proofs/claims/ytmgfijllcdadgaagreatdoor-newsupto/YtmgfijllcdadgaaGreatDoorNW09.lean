import Derived.Test.YtmgfijllcdadgaaGreatDoorNW08
import Derived.Test.YtmgfijllcdadgaaGreatDoorNW07
import Derived.Test.YtmgfijllcdadgaaGreatDoorNW06
set_option linter.unusedVariables false
set_option linter.unusedSimpArgs false
set_option maxHeartbeats 1000000
namespace Go.Proofs.YtmgfijllcdadgaaGreatDoor
open Go.RowKit
open Mk (St Bs Ev aD)
open Tryz
open Mk (kF gG Pu iz gm aY Pv dR gT gU fA dM gP cT jL lf jr fu cW ju)
variable {w:World}{b:Nat}{s:St}{L:Lay}
theorem FN(s:St)(c:Int):(Mk.put s c).am=s.am∧(Mk.put s c).aC=s.aC:=by unfold Mk.put;split<;>exact⟨rfl,rfl⟩
theorem FO(h:aK w b s L)(A:Bd s)(x:Int)(H:0≤x)(I:x≤255):
 Calls Tryz.prog 223 #[.pointer (some ⟨b,0,none⟩),.int .u8 x] w (Does w b s L (kF s x)):=by
 have m:=h.cell;have z:=h.frozen;have J:=h.lt;have N:=aB h;have j:=aB (vu h A x H I);have E:=aB A;unfold cellsOf at m;clear h A;cases o:Mk.fits s 1
 .have F:kF s x=(s,7):=by simp[kF,o]
  have p:gG s x=(s,7):=by simp[gG,o]
  rw[F];rw[p]at j;clear F p m z;go_enter func223,ntmps223
  go_wp2_with(go_at_call 193;refine(aA j).mono ?_;rintro e w1 ⟨rfl,d,a⟩;have K:=aB a;clear a)
  go_ret;exact⟨rfl,d,aA K⟩
 have p:gG s x=(Mk.put s x,0):=by simp[gG,o]
 rw[p]at j;have M:=uU s x;have B:=FN s x;have q:=aA E;have k:0≤(Mk.put s x).count:=by have:=q.c0;omega
 have l:(Mk.put s x).count≤1000000000000:=by have:=q.c1;omega
 have r:(Mk.put s x).am=false:=by rw[B.1];exact q.am
 have t:(Mk.put s x).aC.length≤100000000:=by rw[B.2];exact Nat.le_trans q.ha (by decide)
 have u:kF s x=(if(!Mk.fits (Mk.put s x) 1&&Pu (Mk.put s x) (Mk.put s x).token)then(Mk.put s x,7)else(Mk.put s x,0)):=by simp[kF,o]
 rw[u];clear p M B q E u o;generalize Mk.put s x=g at *;cases C:Mk.fits g 1
 .cases G:Pu g g.token
  .rw[if_neg (by simp)];clear m z;go_enter func223,ntmps223
   go_wp2_with fail
   refine(aA j).mono ?_;rintro e w1 ⟨rfl,d,a⟩;have i:=a.rd.cell;have v:=a.rd.lt;have f:=aB (mJ a.rd 1 k l (by decide) (by decide));rw[C]at f;have y:=aB (fun n=>qz (a.rd.drewN n) r t g.token);rw[G]at y;have D:=fun n=>lT (w:=w1.drewN n) ((a.rd.drewN n).rows.own (bQ g d) (by simp[rowsOf]))
   have c:=aB a;unfold cellsOf at i;clear a r t k l
   go_wp2_with(first
    |(go_at_call 137;refine(aA f).mono ?_;rintro e w' ⟨rfl,n,rfl⟩)
    |(go_at_call 224;refine(aA y n).mono ?_;rintro e w' ⟨rfl,rfl⟩))
   go_ret;exact⟨rfl,d,(aA c).drewN _⟩
  rw[if_pos (by simp)];clear m z;go_enter func223,ntmps223
  go_wp2_with fail
  refine(aA j).mono ?_;rintro e w1 ⟨rfl,d,a⟩;have i:=a.rd.cell;have v:=a.rd.lt;have f:=aB (mJ a.rd 1 k l (by decide) (by decide));rw[C]at f;have y:=aB (fun n=>qz (a.rd.drewN n) r t g.token);rw[G]at y;have D:=fun n=>lT (w:=w1.drewN n) ((a.rd.drewN n).rows.own (bQ g d) (by simp[rowsOf]))
  have c:=aB a;unfold cellsOf at i;clear a r t k l
  go_wp2_with(first
   |(go_at_call 137;refine(aA f).mono ?_;rintro e w' ⟨rfl,n,rfl⟩)
   |(go_at_call 224;refine(aA y n).mono ?_;rintro e w' ⟨rfl,rfl⟩))
  go_ret;exact⟨rfl,d,(aA c).drewN _⟩
 rw[if_neg (by simp)];clear m z;go_enter func223,ntmps223
 go_wp2_with fail
 refine(aA j).mono ?_;rintro e w1 ⟨rfl,d,a⟩;have f:=aB (mJ a.rd 1 k l (by decide) (by decide));rw[C]at f;have c:=aB a;clear a r t k l;go_wp2_with(go_at_call 137;refine(aA f).mono ?_;rintro e w' ⟨rfl,n,rfl⟩)
 go_ret;exact⟨rfl,d,(aA c).drewN _⟩
theorem FP(h:aK w b s L)(n:Bd s)(x:Int)(z:0≤x)(A:x≤255):
 Calls Tryz.prog 199 #[.pointer (some ⟨b,0,none⟩),.int .u8 x] w (Does w b s L (iz s x)):=by
 have B:=h.cell;have F:=h.frozen;have H:=h.lt;have C:=aB h;have t:=aB (FO h n x z A);have j:=aB (qz h n.am (Nat.le_trans n.ha (by decide)) s.token);have o:=aB (oZ h);have p:=lT (h.rows.own (bQ s L) (by simp[rowsOf]));have u:=aB n;unfold cellsOf at B;clear h n;cases v:gm x
 .cases d:(x !=61&& !Mk.cB x)
  .cases y:Pu s s.token
   .have f:iz s x=Mk.gS {aY s with attr:=s.token} x:=by simp only[iz,v,d,y];rfl
    rw[f];rw[y]at j;clear f t;cases i:(x==61)
    .have g:(x !=61)=true:=by simp at i⊢;exact i
     have G:Mk.cB x=true:=by simpa[g]using d
     clear d;go_enter func199,ntmps199
     go_wp2_with(first|(go_at_call 192;refine(dU _ _).mono ?_;rintro e w1 ⟨rfl,rfl⟩)|(go_at_call 132;refine(bY _ _).mono ?_;rintro e w1 ⟨rfl,rfl⟩)|(go_at_call 224;refine(aA j).mono ?_;rintro e w' ⟨rfl,rfl⟩))
     refine(aA o).mono ?_;rintro e w1 ⟨rfl,k,a⟩;have l:=a.rd.cell;have D:=a.rd.frozen;have q:=a.rd.lt;have c:=a.store 12 (.string ⟨s.token.toArray⟩) {aY s with attr:=s.token} rfl rfl rfl;have E:=aB (vw c.rd {aA u with ht:=by simp[aY],c0:=by simp[aY],c1:=by simp[aY]} x z A);have m:=aB c;unfold cellsOf at l;clear a c u B F p;go_wp2_with(go_at_call 200;refine(aA E).mono ?_;rintro e w1 ⟨rfl,k,a⟩;have r:=aB a;clear a)
     go_ret;exact⟨rfl,k,(aA m).call (aA r)⟩
    have g:(x !=61)=false:=by simp at i⊢;exact i
    clear d;go_enter func199,ntmps199
    go_wp2_with(first|(go_at_call 192;refine(dU _ _).mono ?_;rintro e w1 ⟨rfl,rfl⟩)|(go_at_call 132;refine(bY _ _).mono ?_;rintro e w1 ⟨rfl,rfl⟩)|(go_at_call 224;refine(aA j).mono ?_;rintro e w' ⟨rfl,rfl⟩))
    refine(aA o).mono ?_;rintro e w1 ⟨rfl,k,a⟩;have l:=a.rd.cell;have D:=a.rd.frozen;have q:=a.rd.lt;have c:=a.store 12 (.string ⟨s.token.toArray⟩) {aY s with attr:=s.token} rfl rfl rfl;have E:=aB (vw c.rd {aA u with ht:=by simp[aY],c0:=by simp[aY],c1:=by simp[aY]} x z A);have m:=aB c;unfold cellsOf at l;clear a c u B F p;go_wp2_with(go_at_call 200;refine(aA E).mono ?_;rintro e w1 ⟨rfl,k,a⟩;have r:=aB a;clear a)
    go_ret;exact⟨rfl,k,(aA m).call (aA r)⟩
   have f:iz s x=(s,6):=by simp only[iz,v,d,y];rfl
   rw[f];rw[y]at j;clear f t o;cases i:(x==61)
   .have g:(x !=61)=true:=by simp at i⊢;exact i
    have G:Mk.cB x=true:=by simpa[g]using d
    clear d;go_enter func199,ntmps199
    go_wp2_with(first|(go_at_call 192;refine(dU _ _).mono ?_;rintro e w1 ⟨rfl,rfl⟩)|(go_at_call 132;refine(bY _ _).mono ?_;rintro e w1 ⟨rfl,rfl⟩)|(go_at_call 224;refine(aA j).mono ?_;rintro e w' ⟨rfl,rfl⟩))
    go_ret;exact⟨rfl,L,(aA C).start⟩
   have g:(x !=61)=false:=by simp at i⊢;exact i
   clear d;go_enter func199,ntmps199
   go_wp2_with(first|(go_at_call 192;refine(dU _ _).mono ?_;rintro e w1 ⟨rfl,rfl⟩)|(go_at_call 132;refine(bY _ _).mono ?_;rintro e w1 ⟨rfl,rfl⟩)|(go_at_call 224;refine(aA j).mono ?_;rintro e w' ⟨rfl,rfl⟩))
   go_ret;exact⟨rfl,L,(aA C).start⟩
  have f:iz s x=(s,3):=by simp only[iz,v,d];rfl
  rw[f];have i:(x !=61)=true:=by simp at d;simp[d]
  have G:Mk.cB x=false:=by simp at d;simp[d]
  clear f t o j d;go_enter func199,ntmps199
  go_wp2_with(first|(go_at_call 192;refine(dU _ _).mono ?_;rintro e w1 ⟨rfl,rfl⟩)|(go_at_call 132;refine(bY _ _).mono ?_;rintro e w1 ⟨rfl,rfl⟩))
  go_ret;exact⟨rfl,L,(aA C).start⟩
 have f:iz s x=kF s x:=by simp only[iz,v];rfl
 rw[f];clear f o j;go_enter func199,ntmps199
 go_wp2_with(first|(go_at_call 192;refine(dU _ _).mono ?_;rintro e w1 ⟨rfl,rfl⟩)|(go_at_call 223;refine(aA t).mono ?_;rintro e w1 ⟨rfl,k,a⟩;have r:=aB a;clear a))
 go_ret;exact⟨rfl,k,aA r⟩
theorem zo(h:aK w b s L)(d:s.opn≠[]):∃(l:List Bs) (x:Bs) (g:Nat),s.opn=l++[x]∧s.opn.length=l.length+1∧L.oa=some ⟨g,0,none⟩∧l.length+1≤L.oc∧w.cell? ⟨g,l.length,none⟩=some (.string ⟨x.toArray⟩):=by
 have hrow:=h.rows.own (bE s L) (by simp[rowsOf]);have a:s.opn.length=s.opn.dropLast.length+1:=by
  have:=List.length_pos_iff.2 d;rw[List.length_dropLast];omega
 obtain⟨g,cap,o,_,_⟩:=World.ownsRow.form hrow (by show 0<s.opn.length;omega);have f:Value.slice L.oa s.opn.length L.oc=.slice (some ⟨g,0,none⟩) s.opn.length cap:=o;injection f with m t u;have n:s.opn.length≤L.oc:=by
  rcases hrow.2 with⟨v,e⟩|⟨p,c,q,i,_,_,j,_⟩
  .simp[bE]at e;exact absurd e d
  have k:Value.slice L.oa s.opn.length L.oc=.slice (some ⟨p,0,none⟩) s.opn.length c:=i;injection k with _ _ r;rw[r];exact j
 refine⟨s.opn.dropLast,s.opn.getLast d,g,(List.dropLast_concat_getLast d).symm,a,m,by omega,?_⟩;have e:w.ownsRow (b - 1) 9 1 (.slice (some ⟨g,0,none⟩) s.opn.length L.oc) s.opn.length (s.opn.map sv):=by rw[←m];exact hrow
 rw[qx e s.opn.dropLast.length (by omega)];rw[List.getElem?_map,List.getElem?_eq_getElem (by omega)];simp only[Option.map_some,sv];congr 4
 rw[List.getLast_eq_getElem];congr 1
 omega
theorem vz(h:aK w b s L)(i:s.opn.length≤100000000):
 Calls Tryz.prog 177 #[.pointer (some ⟨b,0,none⟩)] w fun e w' =>e=.returned (.string ⟨(Mk.innermost s).toArray⟩)∧∃n,w' =w.drewN n:=by
 have f:=h.cell;unfold cellsOf at f;by_cases a:s.opn=[]
 .have c:Mk.innermost s=[]:=by simp[Mk.innermost,a]
  have j:s.opn.length=0:=by simp[a]
  rw[c];clear h c a;go_enter func177,ntmps177
  go_wp2
  go_ret;exact⟨rfl,0,rfl⟩
 obtain⟨l,x,g,d,k,m,o,p⟩:=zo h a;have c:Mk.innermost s=x:=by simp[Mk.innermost,d]
 rw[c];have e0:((l.length:Int)+1==0)=false:=by rw[beq_eq_false_iff_ne];omega
 clear h c d a;go_enter func177,ntmps177
 go_wp2
 go_quiet(fail)
 go_wp2
 go_ret;exact⟨rfl,_,rfl⟩
section
variable {w0 w:World}{b:Nat}{f0:List Nat}{s:St}{L:Lay}
theorem Mv.FQ(m:Mv w0 b f0 w s L)(l:List Bs)(x:Bs)(i:s.opn=l++[x]):
 Mv w0 b f0 (w.setCell ⟨b,5,none⟩ (.slice L.oa l.length L.oc)) {s with opn:=l} L:=by
 have hrow:=m.rd.rows.own (bE s L) (by simp[rowsOf]);have j:s.opn.length=l.length+1:=by simp[i]
 have hown:(bE {s with opn:=l} L).owned w (b - 1):=by
  rcases hrow.2 with⟨A,n⟩|⟨g,cap,a,o,p,q,d,t,e,c⟩
  .have B:s.opn.length=0:=n;omega
  have f:Value.slice L.oa s.opn.length L.oc=.slice (some ⟨g,0,none⟩) s.opn.length cap:=o;injection f with u _ y;have k:s.opn.length≤cap:=d;refine⟨by simp[bE],.inr ⟨g,cap,a,?_,p,q,?_,t,e,?_⟩⟩
  .simp[bE,u,y]
  .show l.length≤cap;omega
  have z:a.toList.take (s.opn.length*1)=s.opn.map sv:=c;show a.toList.take (l.length*1)=l.map sv;have:a.toList.take (l.length*1)=(a.toList.take (s.opn.length*1)).take l.length:=by rw[List.take_take];congr 1;omega
  rw[this,z,i,List.map_append];simp
 have h:w.grownBy w (bE s L).v.ownBlock:=⟨rfl,rfl,rfl,Nat.le_refl _,fun _ _ _=>rfl⟩;exact m.grow (s' :={s with opn:=l}) (L' :=L) (r:=bE s L) (r' :=bE {s with opn:=l} L) (rs:=bQ s L::bD s L::bJ s L::cA s L::bM s L::bS s L::L.es.map aN) 5 _ (.refl _) (.refl _) hown h (.inl (by simp[bE];cases L.oa<;>rfl)) rfl m.rd.evs
end
theorem FR(h:aK w b s L)(m:Bd s)(p:Sl s)(f:(Mk.innermost s).length≤100000000):
 Calls Tryz.prog 196 #[.pointer (some ⟨b,0,none⟩)] w fun e w' =>e=.returned (.tuple #[])∧∃L', Mv w b (aJ s L) w' (Pv s) L' :=by
 have j:=aB (vz h m.ho);have ho:=m.ho;have B:=aB h;have q:=aB m;obtain⟨nm,c⟩:∃nm,Mk.innermost s=nm:=⟨_,rfl⟩;rw[c]at f;have C:=p.l;by_cases k:s.opn=[]
 .have H:s.opn.length=0:=by simp[k]
  have o:Pv s=dR s nm:=by
   unfold Pv;rw[c,k];have:({s with opn:=[].dropLast}:St)=s:=by rw[List.dropLast_nil,←k]
   rw[this]
  rw[o];rw[c]at j;clear h k o c m;go_enter func196,ntmps196
  go_wp2_with fail
  refine(aA j).mono ?_;rintro e w1 ⟨rfl,n,rfl⟩;have d:=(aA B).start.drewN n;have r:=d.rd.cell;have t:=d.rd.lt;have u:=aB (vk d.rd (aA q) (by omega) nm f);have i:=aB d;unfold cellsOf at r;clear d j q;go_wp2_with(go_at_call 222;refine(aA u).mono ?_;rintro e w2 ⟨rfl,v,a⟩;have y:=aB a;clear a)
  go_end0
  exact⟨rfl,v,(aA i).call (aA y)⟩
 obtain⟨l,x,g,z,I,D,J,E⟩:=zo h k;have o:Pv s=dR {s with opn:=l} nm:=by
  unfold Pv;rw[c,z];simp
 rw[o];rw[c]at j;have F:=aB z;have G:=aB D;clear h k o c m z E;go_enter func196,ntmps196
 go_wp2_with fail
 refine(aA j).mono ?_;rintro e w1 ⟨rfl,n,rfl⟩;have d:=(aA B).start.drewN n;have r:=d.rd.cell;have K:=d.rd.frozen;have t:=d.rd.lt;have i:=aB d;unfold cellsOf at r;clear d j;generalize w.drewN n=w1 at *;go_wp2
 go_region
 all_goals
  have a:=((aA i).FQ l x (aA F)).drew;rw[aA G]at a;have u:=aB (vk a.rd {aA q with ho:=by simp;omega} (by show s.list.length+100≤_;omega) nm f);have A:=aB a;clear a;go_wp2_with(go_at_call 222;refine(aA u).mono ?_;rintro e w2 ⟨rfl,v,a⟩;have y:=aB a;clear a)
  go_end0
  exact⟨rfl,v,(aA A).call (aA y)⟩
theorem zq(h:aK w b s L)(j:Bd s)(d:Sl s)(f:(Mk.innermost s).length≤100000000)(x:Int):
 Calls Tryz.prog 147 #[.pointer (some ⟨b,0,none⟩),.int .u8 x] w (Does w b s L (gT s x)):=by
 have m:=h.cell;have q:=h.frozen;have n:=h.lt;have k:=aB h;have g:=aB (FR h j d f);unfold cellsOf at m;clear h j;cases i:Mk.cB x
 .cases l:(x==62)
  .have a:gT s x=(s,3):=by simp[gT,i,l]
   rw[a];clear a g;go_enter func147,ntmps147
   go_wp2_with(go_at_call 132;refine(bY _ _).mono ?_;rintro e w1 ⟨rfl,rfl⟩)
   go_ret;exact⟨rfl,L,(aA k).start⟩
  have a:gT s x=(Pv s,0):=by simp[gT,i,l]
  rw[a];clear a;go_enter func147,ntmps147
  go_wp2_with(first|(go_at_call 132;refine(bY _ _).mono ?_;rintro e w1 ⟨rfl,rfl⟩)|(go_at_call 196;refine(aA g).mono ?_;rintro e w2 ⟨rfl,o,c⟩;have p:=aB c;clear c))
  go_ret;exact⟨rfl,o,aA p⟩
 have a:gT s x=({s with state:=21},0):=by simp[gT,i]
 rw[a];clear a g;go_enter func147,ntmps147
 go_wp2_with(go_at_call 132;refine(bY _ _).mono ?_;rintro e w1 ⟨rfl,rfl⟩)
 go_ret;exact⟨rfl,L,(aA k).start.store 4 _ _ rfl rfl rfl⟩
theorem FT(h:aK w b s L)(l:Bd s)(u:Sl s)(x:Int)(q:(Mk.innermost s).length≤100000000):
 Calls Tryz.prog 146 #[.pointer (some ⟨b,0,none⟩),.int .u8 x] w (Does w b s L (gU s x)):=by
 have g:=aB (vz h l.ho);have t:=aB h;have B:=aB l;have G:=l.m0;have H:=l.m1;obtain⟨nm,c⟩:∃nm,Mk.innermost s=nm:=⟨_,rfl⟩;have v:=aB q;rw[c]at g q;by_cases p:s.matched<nm.length
 .obtain⟨k,A⟩:∃k:Nat,s.matched=(k:Int):=⟨s.matched.toNat,by omega⟩;have i:k<nm.length:=by omega
  cases j:(((nm[k].toNat:Nat):Int) !=x)
  .have f:gU s x=({s with matched:=(k:Int)+1},0):=by
    have y:((nm[k].toNat:Nat):Int)=x:=by simpa using j
    unfold gU;rw[c,if_pos p,A];simp[i,y]
   rw[f];have z:((((⟨nm.toArray⟩:ByteArray)[k]'(by simpa[ByteArray.size]using i)).toNat:Int) !=x)=false:=j;clear f h l c j;go_enter func146,ntmps146
   go_wp2_with fail
   refine(aA g).mono ?_;rintro e w1 ⟨rfl,n,rfl⟩;have a:=(aA t).start.drewN n;have m:=a.rd.cell;have I:=a.rd.frozen;have o:=a.rd.lt;have d:=aB a;unfold cellsOf at m;clear a g;generalize w.drewN n=w1 at *;go_wp2
   go_ret;exact⟨rfl,L,(aA d).store 17 _ _ rfl rfl rfl⟩
  have f:gU s x=(s,5):=by
   have y:((nm[k].toNat:Nat):Int)≠x:=by simpa using j
   unfold gU;rw[c,if_pos p,A];simp[i,y]
  rw[f];have z:((((⟨nm.toArray⟩:ByteArray)[k]'(by simpa[ByteArray.size]using i)).toNat:Int) !=x)=true:=j;clear f h l c j;go_enter func146,ntmps146
  go_wp2_with fail
  refine(aA g).mono ?_;rintro e w1 ⟨rfl,n,rfl⟩;have a:=(aA t).start.drewN n;have m:=a.rd.cell;have o:=a.rd.lt;have d:=aB a;unfold cellsOf at m;clear a g;generalize w.drewN n=w1 at *;go_wp2
  go_ret;exact⟨rfl,L,aA d⟩
 have C:decide (s.matched<(nm.length:Int))=false:=by simp;omega
 cases j:gm x
 .have f:gU s x=gT s x:=by
   unfold gU;rw[c,if_neg p,j];simp
  rw[f];clear f h l c p;go_enter func146,ntmps146
  go_wp2_with fail
  refine(aA g).mono ?_;rintro e w1 ⟨rfl,n,rfl⟩;have a:=(aA t).start.drewN n;have m:=a.rd.cell;have o:=a.rd.lt;have D:=aB (zq a.rd (aA B) u (aA v) x);have d:=aB a;unfold cellsOf at m;clear a g;generalize w.drewN n=w1 at *;go_wp2_with(first|(go_at_call 192;refine(dU _ _).mono ?_;rintro e w1 ⟨rfl,rfl⟩)|(go_at_call 147;refine(aA D).mono ?_;rintro e w2 ⟨rfl,E,r⟩;have F:=aB r;clear r))
  go_ret;exact⟨rfl,E,(aA d).call (aA F)⟩
 have f:gU s x=(s,5):=by
  unfold gU;rw[c,if_neg p,j];simp
 rw[f];clear f h l c p;go_enter func146,ntmps146
 go_wp2_with fail
 refine(aA g).mono ?_;rintro e w1 ⟨rfl,n,rfl⟩;have a:=(aA t).start.drewN n;have m:=a.rd.cell;have o:=a.rd.lt;have d:=aB a;unfold cellsOf at m;clear a g;generalize w.drewN n=w1 at *;go_wp2_with(go_at_call 192;refine(dU _ _).mono ?_;rintro e w1 ⟨rfl,rfl⟩)
 go_ret;exact⟨rfl,L,aA d⟩
theorem FU(h:aK w b s L)(l:Bd s)(x:Int)(p:0≤x)(q:x≤255):
 Calls Tryz.prog 139 #[.pointer (some ⟨b,0,none⟩),.int .u8 x] w (Does w b s L (fA s x)):=by
 have r:=h.cell;have y:=h.frozen;have t:=h.lt;have f:=aB h;have z:=l.ho;have d:=aB (Ft h l x p q);unfold cellsOf at r;clear h l;cases g:(x==33)
 .cases j:(x==63)
  .cases o:(x==47)
   .have c:x≠47:=by simpa using o
    cases k:dM x
    .have a:fA s x=(s,3):=by simp[fA,g,j,c,k]
     rw[a];clear a d c;go_enter func139,ntmps139
     go_wp2_with(go_at_call 190;refine(eF _ _).mono ?_;rintro e w1 ⟨rfl,rfl⟩)
     go_ret;exact⟨rfl,L,(aA f).start⟩
    cases m:s.over
    .have a:fA s x=Mk.kE s x:=by simp[fA,g,j,c,k,m]
     rw[a];clear a c;go_enter func139,ntmps139
     go_wp2_with(first|(go_at_call 190;refine(eF _ _).mono ?_;rintro e w1 ⟨rfl,rfl⟩)|(go_at_call 191;refine(aA d).mono ?_;rintro e w1 ⟨rfl,u,i⟩;have v:=aB i;clear i))
     go_ret;exact⟨rfl,u,aA v⟩
    have a:fA s x=(s,3):=by simp[fA,g,j,c,k,m]
    rw[a];clear a d c;go_enter func139,ntmps139
    go_wp2_with(go_at_call 190;refine(eF _ _).mono ?_;rintro e w1 ⟨rfl,rfl⟩)
    go_ret;exact⟨rfl,L,(aA f).start⟩
   have c:x=47:=by simpa using o
   by_cases n:0<s.opn.length
   .have a:fA s x=({s with state:=20,matched:=0},0):=by simp[fA,c,n]
    rw[a];clear a d c;go_enter func139,ntmps139
    go_wp2
    go_ret;exact⟨rfl,L,((aA f).start.store 4 (.int .i64 20) {s with state:=20} rfl rfl rfl).store 17 _ _ rfl rfl rfl⟩
   have k:dM x=false:=by rw[c];decide
   have a:fA s x=(s,3):=by simp[fA,c,n,show dM 47=false by decide]
   rw[a];have m:s.opn.length=0:=by omega
   clear a d c n;go_enter func139,ntmps139
   go_wp2_with(go_at_call 190;refine(eF _ _).mono ?_;rintro e w1 ⟨rfl,rfl⟩)
   go_ret;exact⟨rfl,L,(aA f).start⟩
  have a:fA s x=({s with state:=8},0):=by simp[fA,g,j]
  rw[a];clear a d;go_enter func139,ntmps139
  go_wp2
  go_ret;exact⟨rfl,L,(aA f).start.store 4 _ _ rfl rfl rfl⟩
 have a:fA s x=({s with state:=4},0):=by simp[fA,g]
 rw[a];clear a d;go_enter func139,ntmps139
 go_wp2
 go_ret;exact⟨rfl,L,(aA f).start.store 4 _ _ rfl rfl rfl⟩
theorem FV(h:aK w b s L)(f:Bd s)(x:Int)(l:0≤x)(m:x≤255):
 Calls Tryz.prog 140 #[.pointer (some ⟨b,0,none⟩),.int .u8 x] w (Does w b s L (gP s x)):=by
 have j:=h.cell;have n:=h.frozen;have k:=h.lt;have d:=aB h;have o:=f.ho;unfold cellsOf at j;clear h f;cases g:(x==45)
 .cases i:(x==91)
  .have c:x≠91:=by simpa using i
   have a:gP s x=(s,3):=by simp[gP,g,c]
   rw[a];clear a c;go_enter func140,ntmps140
   go_wp2
   go_ret;exact⟨rfl,L,(aA d).start⟩
  have c:x=91:=by simpa using i
  by_cases e:0<s.opn.length
  .have a:gP s x=({s with state:=6,matched:=0},0):=by simp[gP,c,e]
   rw[a];clear a c;go_enter func140,ntmps140
   go_wp2
   go_ret;exact⟨rfl,L,((aA d).start.store 4 (.int .i64 6) {s with state:=6} rfl rfl rfl).store 17 _ _ rfl rfl rfl⟩
  have a:gP s x=(s,3):=by simp[gP,c,e]
  rw[a];have p:s.opn.length=0:=by omega
  clear a c e;go_enter func140,ntmps140
  go_wp2
  go_ret;exact⟨rfl,L,(aA d).start⟩
 have a:gP s x=({s with state:=5},0):=by simp[gP,g]
 rw[a];clear a;go_enter func140,ntmps140
 go_wp2
 go_ret;exact⟨rfl,L,(aA d).start.store 4 _ _ rfl rfl rfl⟩
theorem FW(h:aK w b s L)(i:Bd s)(x:Int)(m:0≤x)(n:x≤255):
 Calls Tryz.prog 142 #[.pointer (some ⟨b,0,none⟩),.int .u8 x] w (Does w b s L (cT s x)):=by
 have j:=h.cell;have o:=h.frozen;have k:=h.lt;have e:=aB h;have p:=i.m0;unfold cellsOf at j;clear h i;by_cases l:6≤s.matched
 .have a:cT s x=(s,3):=by simp[cT,l]
  rw[a];clear a;go_enter func142,ntmps142
  go_wp2
  go_ret;exact⟨rfl,L,(aA e).start⟩
 rcases(by omega:s.matched=0∨s.matched=1∨s.matched=2∨s.matched=3∨s.matched=4∨s.matched=5)with g|g|g|g|g|g
 .cases d:(x==67)
  .have c:x≠67:=by simpa using d
   have a:cT s x=(s,3):=by simp[cT,g,jL];omega
   rw[a];have f:((((⟨#[67,68,65,84,65,91]⟩:ByteArray)[0]'(by decide)).toNat:Int) !=x)=true:=by show((67:Int) !=x)=true;simp;omega
   clear a c;go_enter func142,ntmps142
   go_wp2
   go_ret;exact⟨rfl,L,(aA e).start⟩
  have c:x=67:=by simpa using d
  have a:cT s x=({s with matched:=1},0):=by simp[cT,g,c,jL]
  rw[a];clear a;subst c;go_enter func142,ntmps142
  go_wp2
  go_ret;exact⟨rfl,L,((aA e).start.store 17 (.int .i64 1) {s with matched:=1} rfl rfl rfl)⟩
 .cases d:(x==68)
  .have c:x≠68:=by simpa using d
   have a:cT s x=(s,3):=by simp[cT,g,jL];omega
   rw[a];have f:((((⟨#[67,68,65,84,65,91]⟩:ByteArray)[1]'(by decide)).toNat:Int) !=x)=true:=by show((68:Int) !=x)=true;simp;omega
   clear a c;go_enter func142,ntmps142
   go_wp2
   go_ret;exact⟨rfl,L,(aA e).start⟩
  have c:x=68:=by simpa using d
  have a:cT s x=({s with matched:=2},0):=by simp[cT,g,c,jL]
  rw[a];clear a;subst c;go_enter func142,ntmps142
  go_wp2
  go_ret;exact⟨rfl,L,((aA e).start.store 17 (.int .i64 2) {s with matched:=2} rfl rfl rfl)⟩
 .cases d:(x==65)
  .have c:x≠65:=by simpa using d
   have a:cT s x=(s,3):=by simp[cT,g,jL];omega
   rw[a];have f:((((⟨#[67,68,65,84,65,91]⟩:ByteArray)[2]'(by decide)).toNat:Int) !=x)=true:=by show((65:Int) !=x)=true;simp;omega
   clear a c;go_enter func142,ntmps142
   go_wp2
   go_ret;exact⟨rfl,L,(aA e).start⟩
  have c:x=65:=by simpa using d
  have a:cT s x=({s with matched:=3},0):=by simp[cT,g,c,jL]
  rw[a];clear a;subst c;go_enter func142,ntmps142
  go_wp2
  go_ret;exact⟨rfl,L,((aA e).start.store 17 (.int .i64 3) {s with matched:=3} rfl rfl rfl)⟩
 .cases d:(x==84)
  .have c:x≠84:=by simpa using d
   have a:cT s x=(s,3):=by simp[cT,g,jL];omega
   rw[a];have f:((((⟨#[67,68,65,84,65,91]⟩:ByteArray)[3]'(by decide)).toNat:Int) !=x)=true:=by show((84:Int) !=x)=true;simp;omega
   clear a c;go_enter func142,ntmps142
   go_wp2
   go_ret;exact⟨rfl,L,(aA e).start⟩
  have c:x=84:=by simpa using d
  have a:cT s x=({s with matched:=4},0):=by simp[cT,g,c,jL]
  rw[a];clear a;subst c;go_enter func142,ntmps142
  go_wp2
  go_ret;exact⟨rfl,L,((aA e).start.store 17 (.int .i64 4) {s with matched:=4} rfl rfl rfl)⟩
 .cases d:(x==65)
  .have c:x≠65:=by simpa using d
   have a:cT s x=(s,3):=by simp[cT,g,jL];omega
   rw[a];have f:((((⟨#[67,68,65,84,65,91]⟩:ByteArray)[4]'(by decide)).toNat:Int) !=x)=true:=by show((65:Int) !=x)=true;simp;omega
   clear a c;go_enter func142,ntmps142
   go_wp2
   go_ret;exact⟨rfl,L,(aA e).start⟩
  have c:x=65:=by simpa using d
  have a:cT s x=({s with matched:=5},0):=by simp[cT,g,c,jL]
  rw[a];clear a;subst c;go_enter func142,ntmps142
  go_wp2
  go_ret;exact⟨rfl,L,((aA e).start.store 17 (.int .i64 5) {s with matched:=5} rfl rfl rfl)⟩
 cases d:(x==91)
 .have c:x≠91:=by simpa using d
  have a:cT s x=(s,3):=by simp[cT,g,jL];omega
  rw[a];have f:((((⟨#[67,68,65,84,65,91]⟩:ByteArray)[5]'(by decide)).toNat:Int) !=x)=true:=by show((91:Int) !=x)=true;simp;omega
  clear a c;go_enter func142,ntmps142
  go_wp2
  go_ret;exact⟨rfl,L,(aA e).start⟩
 have c:x=91:=by simpa using d
 have a:cT s x=({s with matched:=6,state:=2},0):=by simp[cT,g,c,jL]
 rw[a];clear a;subst c;go_enter func142,ntmps142
 go_wp2
 go_ret;exact⟨rfl,L,((aA e).start.store 17 (.int .i64 6) {s with matched:=6} rfl rfl rfl).store 4 _ _ rfl rfl rfl⟩
theorem zu(h:aK w b s L)(o:Bd s):
 Calls Tryz.prog 136 #[.pointer (some ⟨b,0,none⟩)] w fun e w' =>e=.returned (.tuple #[])∧∃L', Mv w b (aJ s L) w' (lf s) L' :=by
 have p:=h.cell;have u:=h.frozen;have v:=h.lt;have f:=h.start.store 15 (.string ⟨#[]⟩) {s with held:=[]} rfl rfl rfl;have q:=aB (oZ f.rd);have i:=aB f;unfold cellsOf at p;clear h f;go_enter func136,ntmps136
 go_wp2_with fail
 refine(aA q).mono ?_;rintro e w1 ⟨rfl,A,g⟩;have c:=g.drew;have j:=g.rd.cell;have r:=aB (add_nil c.rd ⟨5,s.name,[],s.token,[]⟩ rfl (Nat.le_trans o.hx (by decide)) (Nat.le_trans o.hl (by decide)));have k:=aB ((aA i).call c);unfold cellsOf at j;clear g q i p u c;go_wp2_with fail
 go_region_with (go_at_call 188;refine(aA r).mono ?_;rintro e w2 ⟨rfl,x,d⟩)
 all_goals
  have l:=d.rd.cell;have y:=d.rd.frozen;have t:=d.rd.lt;have a:=((aA k).call d).store 11 (.string ⟨#[]⟩) {Mk.add (aY {s with held:=[]}) ⟨5,s.name,[],s.token,[]⟩with name:=[]} rfl rfl rfl;have z:=aB (qo a.rd);have m:=aB a;unfold cellsOf at l;clear d a r k j;go_wp2_with(go_at_call 189;refine(aA z).mono ?_;rintro e w3 ⟨rfl,a⟩;have n:=aB a;clear a)
  go_end0
  exact⟨rfl,x,(aA m).call (aA n)⟩
theorem FX(h:aK w b s L)(i:Bd s)(x:Int):
 Calls Tryz.prog 144 #[.pointer (some ⟨b,0,none⟩),.int .u8 x] w (Does w b s L (jr s x)):=by
 have j:=aB h;have k:=aB (zu h i);clear h i;cases a:(x==62)
 .have d:jr s x=(s,3):=by simp[jr,a]
  rw[d];have f:(x !=62)=true:=by simp at a⊢;exact a
  go_enter func144,ntmps144
  go_wp2
  go_ret;exact⟨rfl,L,(aA j).start⟩
 have d:jr s x=(lf s,0):=by simp[jr,a]
 rw[d];have f:(x !=62)=false:=by simp at a⊢;exact a
 go_enter func144,ntmps144
 go_wp2_with(go_at_call 136;refine(aA k).mono ?_;rintro e w1 ⟨rfl,l,c⟩;have g:=aB c;clear c)
 go_ret;exact⟨rfl,l,aA g⟩
theorem zw(h:aK w b s L)(i:Bd s)(x:Int)(A:0≤x)(B:x≤255):
 Calls Tryz.prog 100 #[.pointer (some ⟨b,0,none⟩),.int .u8 x] w (Does w b s L (fu s x)):=by
 have C:=h.cell;have E:=h.frozen;have D:=h.lt;have u:=aB h;have l:=aB (zu h i);have m:=aB (mL h i x A B);have k:=aB (mJ h 1 i.c0 (Int.le_trans i.c1 (by decide)) (by decide) (by decide));have o:=aB (fun n=>oV (h.drewN n) 63 (by decide) (by decide) (Nat.le_trans i.hx (by decide)) (Nat.le_trans i.ht (by decide)) i.c0 (Int.le_trans i.c1 (by decide)));unfold cellsOf at C;clear h i;cases z:(x==62)
 .have f:x≠62:=by simpa using z
  cases v:(x==63)
  .have j:x≠63:=by simpa using v
   have a:fu s x=cW s x:=by simp[fu,f,j]
   rw[a];clear a f j l k o;go_enter func100,ntmps100
   go_wp2_with(go_at_call 134;refine(aA m).mono ?_;rintro e w1 ⟨rfl,p,c⟩;have g:=aB c;clear c)
   go_ret;exact⟨rfl,p,aA g⟩
  have j:x=63:=by simpa using v
  cases q:(s.held==[63])
  .have d:s.held≠[63]:=by simpa using q
   have a:fu s x=({s with held:=[63]},0):=by simp[fu,f,j,d]
   rw[a];clear a f j d l k o m;go_enter func100,ntmps100
   go_wp2
   go_ret;exact⟨rfl,L,(aA u).start.store 15 _ _ rfl rfl rfl⟩
  have d:s.held=[63]:=by simpa using q
  cases t:Mk.fits s 1
  .have a:fu s x=(s,7):=by simp[fu,j,d,t]
   rw[a];rw[t]at k;clear a f j d l o m;go_enter func100,ntmps100
   go_wp2_with(go_at_call 137;refine(aA k).mono ?_;rintro e w' ⟨rfl,n,rfl⟩)
   go_ret;exact⟨rfl,L,(aA u).start.drewN _⟩
  have a:fu s x=(Mk.put s 63,0):=by simp[fu,j,d,t]
  rw[a];rw[t]at k;clear a f j d l m;go_enter func100,ntmps100
  go_wp2_with(first|(go_at_call 137;refine(aA k).mono ?_;rintro e w' ⟨rfl,n,rfl⟩)|(go_at_call 130;refine(aA o n).mono ?_;rintro e w' ⟨rfl,L', r⟩;have y:=aB r;clear r))
  go_ret;exact⟨rfl,L', ((aA u).start.drewN _).call (aA y)⟩
 have f:x=62:=by simpa using z
 cases q:(s.held==[63])
 .have d:s.held≠[63]:=by simpa using q
  have a:fu s x=cW s x:=by simp[fu,f,d]
  rw[a];have v:(x==63)=false:=by simp[f]
  clear a d l k o f;go_enter func100,ntmps100
  go_wp2_with(go_at_call 134;refine(aA m).mono ?_;rintro e w1 ⟨rfl,p,c⟩;have g:=aB c;clear c)
  go_ret;exact⟨rfl,p,aA g⟩
 have d:s.held=[63]:=by simpa using q
 have a:fu s x=(lf s,0):=by simp[fu,f,d]
 rw[a];clear a f d k o m;go_enter func100,ntmps100
 go_wp2_with(go_at_call 136;refine(aA l).mono ?_;rintro e w1 ⟨rfl,p,c⟩;have g:=aB c;clear c)
 go_ret;exact⟨rfl,p,aA g⟩
theorem FY(h:aK w b s L)(i:Bd s)(x:Int)(l:0≤x)(m:x≤255):
 Calls Tryz.prog 145 #[.pointer (some ⟨b,0,none⟩),.int .u8 x] w (Does w b s L (ju s x)):=by
 have n:=h.cell;have r:=h.frozen;have o:=h.lt;have d:=h.start.store 4 (.int .i64 11) {s with state:=11} rfl rfl rfl;have p:=aB h;have f:=aB d;have j:=aB (zw d.rd {i with} x l m);unfold cellsOf at n;clear h d i;cases k:Mk.cB x
 .have a:ju s x=fu {s with state:=11} x:=by simp[ju,k]
  rw[a];clear a;go_enter func145,ntmps145
  go_wp2_with(first
   |(go_at_call 132;refine(bY _ _).mono ?_;rintro e w1 ⟨rfl,rfl⟩)
   |(go_at_call 100;refine(aA j).mono ?_;rintro e w1 ⟨rfl,q,c⟩;have g:=aB c;clear c))
  go_ret;exact⟨rfl,q,(aA f).call (aA g)⟩
 have a:ju s x=(s,0):=by simp[ju,k]
 rw[a];clear a j;go_enter func145,ntmps145
 go_wp2_with(go_at_call 132;refine(bY _ _).mono ?_;rintro e w1 ⟨rfl,rfl⟩)
 go_ret;exact⟨rfl,L,(aA p).start⟩
end Go.Proofs.YtmgfijllcdadgaaGreatDoor
