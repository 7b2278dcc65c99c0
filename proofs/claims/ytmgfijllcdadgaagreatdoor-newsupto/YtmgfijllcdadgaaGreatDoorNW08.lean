import Derived.Test.YtmgfijllcdadgaaGreatDoorNW04
import Derived.Test.YtmgfijllcdadgaaGreatDoorNW02
import Derived.Test.YtmgfijllcdadgaaGreatDoorNW07
set_option linter.unusedVariables false
set_option linter.unusedSimpArgs false
set_option maxHeartbeats 2000000
set_option maxRecDepth 100000
namespace Go.Proofs.YtmgfijllcdadgaaGreatDoor
open Go.RowKit
open Mk (St Bs Ev aD)
open Tryz
open Mk (gG dO dM gm aY jM fO jb jN dR cH gS iA fC cW)
variable {w:World}{b:Nat}{s:St}{L:Lay}
theorem sJ{base:Nat}{a:Option Addr}{c:Nat}{l:Bs}(h:w.ownsRow base 5 1 (.slice a l.length c) l.length (l.map bv)):
 Calls Tryz.prog 194 #[.slice a l.length c] w fun e w' =>e=.returned (.bool (Mk.jq l))∧w' =w:=by
 by_cases f:l.length=3
 .match l,f,h with
  |[x,y,z],_,h=>
   rcases h.2 with⟨_,p⟩|⟨g,cap,k,q,A,m,r,_,s,b⟩
   .cases p
   cases q;have i:∀j,j<3→w.cell? ⟨g,j,none⟩=some (([x,y,z].map bv).getD j undef):=by
    intro j n;rw[cell_of_row w g j k _ _ m];have o:([x,y,z].map bv)[j]?=some (([x,y,z].map bv).getD j undef):=by
     match j,n with
     |0,_=>rfl
     |1,_=>rfl
     |2,_=>rfl
    rw[←b,List.getElem?_take_of_lt (by simpa using n)]at o;rw[←b];simpa using o
   have t:=i 0 (by decide);have u:=i 1 (by decide);have v:=i 2 (by decide);simp[bv]at t u v;clear i b m h;have d:Mk.jq [x,y,z]=(((x.toNat:Int)==120||(x.toNat:Int)==88)&&((y.toNat:Int)==109||(y.toNat:Int)==77)&&((z.toNat:Int)==108||(z.toNat:Int)==76)):=rfl;rw[d];clear d;generalize(x.toNat:Int)=x at *;generalize(y.toNat:Int)=y at *;generalize(z.toNat:Int)=z at *;go_enter func194,ntmps194
   go_wp2
   all_goals(go_ret;exact⟨Pq (by simp_all),rfl⟩)
 have e0:((l.length:Int)==3)=false:=by rw[beq_eq_false_iff_ne];omega
 have d:Mk.jq l=false:=by
  match l,f with
  |[],_=>rfl
  |[_],_=>rfl
  |[_,_],_=>rfl
  |[_,_,_],f=>exact absurd rfl f
  |_::_::_::_::_,_=>rfl
 rw[d];clear d h;go_enter func194,ntmps194
 go_wp2
 go_ret;exact⟨rfl,rfl⟩
theorem vu(h:aK w b s L)(a:Bd s)(x:Int)(c:0≤x)(d:x≤255):
 Calls Tryz.prog 193 #[.pointer (some ⟨b,0,none⟩),.int .u8 x] w (Does w b s L (gG s x)):=
 EJ h x c d (Nat.le_trans a.hx (by decide)) (Nat.le_trans a.ht (by decide)) a.c0 (Int.le_trans a.c1 (by decide))
theorem FH(h:aK w b s L)(A:Bd s)(x:Int)(C:0≤x)(D:x≤255):
 Calls Tryz.prog 143 #[.pointer (some ⟨b,0,none⟩),.int .u8 x] w (Does w b s L (dO s x)):=by
 have y:=h.cell;have G:=h.frozen;have E:=h.lt;have r:=aB h;have m:=aB (vu h A x C D);have l:=aB (sJ (h.rows.own (bQ s L) (by simp[rowsOf])));have n:=aB (oZ h);have k:=aB (uP s.token A.ht w);have F:=lT (h.rows.own (bQ s L) (by simp[rowsOf]));unfold cellsOf at y;clear h A;cases g:(s.count==0&& !dM x)
 .cases t:gm x
  .cases q:Mk.jq s.token
   .rw[q]at l;cases o:(x==63)
    .have B:(x !=63)=true:=by simp at o⊢;exact o
     cases z:Mk.cB x
     .skip;have i:dO s x=(s,3):=by simp only[dO,bne,Bool.not_true,Bool.not_false,Bool.or_true,Bool.true_or,Bool.or_false,Bool.false_or,Bool.and_true,Bool.and_false,Bool.false_and,Bool.true_and,Bool.false_eq_true,if_true,if_false,g,t,q,o,z]
      rw[i];cases e0:(s.count==0)
      .skip;clear i g;go_enter func143,ntmps143
       go_wp2_with(first
        |(go_at_call 190;refine(eF _ _).mono ?_;rintro e w1 ⟨rfl,rfl⟩)
        |(go_at_call 192;refine(dU _ _).mono ?_;rintro e w1 ⟨rfl,rfl⟩)
        |(go_at_call 132;refine(bY _ _).mono ?_;rintro e w1 ⟨rfl,rfl⟩)
        |(go_at_call 194;refine(aA l).mono ?_;rintro e w1 ⟨rfl,rfl⟩)
        |(go_at_call 195;refine(aA k).mono ?_;rintro e w1 ⟨rfl,rfl⟩)
        |(go_at_call 193;refine(aA m).mono ?_;rintro e w1 ⟨rfl,f,a⟩;have c:=aB a;clear a)
        |(go_at_call 187;refine(aA n).mono ?_;rintro e w1 ⟨rfl,f,a⟩;have d:=a.rd.cell;have j:=a.rd.frozen;have c:=aB a;clear a;unfold cellsOf at d))
       go_ret;exact⟨rfl,L,(aA r).start⟩
      have u:dM x=true:=by simpa[e0]using g
      clear i g;go_enter func143,ntmps143
      go_wp2_with(first
       |(go_at_call 190;refine(eF _ _).mono ?_;rintro e w1 ⟨rfl,rfl⟩)
       |(go_at_call 192;refine(dU _ _).mono ?_;rintro e w1 ⟨rfl,rfl⟩)
       |(go_at_call 132;refine(bY _ _).mono ?_;rintro e w1 ⟨rfl,rfl⟩)
       |(go_at_call 194;refine(aA l).mono ?_;rintro e w1 ⟨rfl,rfl⟩)
       |(go_at_call 195;refine(aA k).mono ?_;rintro e w1 ⟨rfl,rfl⟩)
       |(go_at_call 193;refine(aA m).mono ?_;rintro e w1 ⟨rfl,f,a⟩;have c:=aB a;clear a)
       |(go_at_call 187;refine(aA n).mono ?_;rintro e w1 ⟨rfl,f,a⟩;have d:=a.rd.cell;have j:=a.rd.frozen;have c:=aB a;clear a;unfold cellsOf at d))
      go_ret;exact⟨rfl,L,(aA r).start⟩
     cases p:s.on
     .rw[p]at y;have i:dO s x=({aY s with name:=s.token,state:=10},0):=by simp only[dO,bne,Bool.not_true,Bool.not_false,Bool.or_true,Bool.true_or,Bool.or_false,Bool.false_or,Bool.and_true,Bool.and_false,Bool.false_and,Bool.true_and,Bool.false_eq_true,if_true,if_false,g,t,q,o,z,p]
      rw[i];cases e0:(s.count==0)
      .skip;clear i g;go_enter func143,ntmps143
       go_wp2_with(first
        |(go_at_call 190;refine(eF _ _).mono ?_;rintro e w1 ⟨rfl,rfl⟩)
        |(go_at_call 192;refine(dU _ _).mono ?_;rintro e w1 ⟨rfl,rfl⟩)
        |(go_at_call 132;refine(bY _ _).mono ?_;rintro e w1 ⟨rfl,rfl⟩)
        |(go_at_call 194;refine(aA l).mono ?_;rintro e w1 ⟨rfl,rfl⟩)
        |(go_at_call 195;refine(aA k).mono ?_;rintro e w1 ⟨rfl,rfl⟩)
        |(go_at_call 193;refine(aA m).mono ?_;rintro e w1 ⟨rfl,f,a⟩;have c:=aB a;clear a)
        |(go_at_call 187;refine(aA n).mono ?_;rintro e w1 ⟨rfl,f,a⟩;have d:=a.rd.cell;have j:=a.rd.frozen;have c:=aB a;clear a;unfold cellsOf at d))
       go_ret;exact⟨rfl,f,((aA c).store 11 _ {aY s with name:=s.token} rfl rfl rfl).store 4 _ _ rfl rfl rfl⟩
      have u:dM x=true:=by simpa[e0]using g
      clear i g;go_enter func143,ntmps143
      go_wp2_with(first
       |(go_at_call 190;refine(eF _ _).mono ?_;rintro e w1 ⟨rfl,rfl⟩)
       |(go_at_call 192;refine(dU _ _).mono ?_;rintro e w1 ⟨rfl,rfl⟩)
       |(go_at_call 132;refine(bY _ _).mono ?_;rintro e w1 ⟨rfl,rfl⟩)
       |(go_at_call 194;refine(aA l).mono ?_;rintro e w1 ⟨rfl,rfl⟩)
       |(go_at_call 195;refine(aA k).mono ?_;rintro e w1 ⟨rfl,rfl⟩)
       |(go_at_call 193;refine(aA m).mono ?_;rintro e w1 ⟨rfl,f,a⟩;have c:=aB a;clear a)
       |(go_at_call 187;refine(aA n).mono ?_;rintro e w1 ⟨rfl,f,a⟩;have d:=a.rd.cell;have j:=a.rd.frozen;have c:=aB a;clear a;unfold cellsOf at d))
      go_ret;exact⟨rfl,f,((aA c).store 11 _ {aY s with name:=s.token} rfl rfl rfl).store 4 _ _ rfl rfl rfl⟩
     rw[p]at y;cases v:Mk.dN s.token
     .rw[v]at k;have i:dO s x=({aY s with name:=s.token,state:=10},0):=by simp only[dO,bne,Bool.not_true,Bool.not_false,Bool.or_true,Bool.true_or,Bool.or_false,Bool.false_or,Bool.and_true,Bool.and_false,Bool.false_and,Bool.true_and,Bool.false_eq_true,if_true,if_false,g,t,q,o,z,p,v]
      rw[i];cases e0:(s.count==0)
      .skip;clear i g;go_enter func143,ntmps143
       go_wp2_with(first
        |(go_at_call 190;refine(eF _ _).mono ?_;rintro e w1 ⟨rfl,rfl⟩)
        |(go_at_call 192;refine(dU _ _).mono ?_;rintro e w1 ⟨rfl,rfl⟩)
        |(go_at_call 132;refine(bY _ _).mono ?_;rintro e w1 ⟨rfl,rfl⟩)
        |(go_at_call 194;refine(aA l).mono ?_;rintro e w1 ⟨rfl,rfl⟩)
        |(go_at_call 195;refine(aA k).mono ?_;rintro e w1 ⟨rfl,rfl⟩)
        |(go_at_call 193;refine(aA m).mono ?_;rintro e w1 ⟨rfl,f,a⟩;have c:=aB a;clear a)
        |(go_at_call 187;refine(aA n).mono ?_;rintro e w1 ⟨rfl,f,a⟩;have d:=a.rd.cell;have j:=a.rd.frozen;have c:=aB a;clear a;unfold cellsOf at d))
       go_ret;exact⟨rfl,f,((aA c).store 11 _ {aY s with name:=s.token} rfl rfl rfl).store 4 _ _ rfl rfl rfl⟩
      have u:dM x=true:=by simpa[e0]using g
      clear i g;go_enter func143,ntmps143
      go_wp2_with(first
       |(go_at_call 190;refine(eF _ _).mono ?_;rintro e w1 ⟨rfl,rfl⟩)
       |(go_at_call 192;refine(dU _ _).mono ?_;rintro e w1 ⟨rfl,rfl⟩)
       |(go_at_call 132;refine(bY _ _).mono ?_;rintro e w1 ⟨rfl,rfl⟩)
       |(go_at_call 194;refine(aA l).mono ?_;rintro e w1 ⟨rfl,rfl⟩)
       |(go_at_call 195;refine(aA k).mono ?_;rintro e w1 ⟨rfl,rfl⟩)
       |(go_at_call 193;refine(aA m).mono ?_;rintro e w1 ⟨rfl,f,a⟩;have c:=aB a;clear a)
       |(go_at_call 187;refine(aA n).mono ?_;rintro e w1 ⟨rfl,f,a⟩;have d:=a.rd.cell;have j:=a.rd.frozen;have c:=aB a;clear a;unfold cellsOf at d))
      go_ret;exact⟨rfl,f,((aA c).store 11 _ {aY s with name:=s.token} rfl rfl rfl).store 4 _ _ rfl rfl rfl⟩
     rw[v]at k;have i:dO s x=(s,8):=by simp only[dO,bne,Bool.not_true,Bool.not_false,Bool.or_true,Bool.true_or,Bool.or_false,Bool.false_or,Bool.and_true,Bool.and_false,Bool.false_and,Bool.true_and,Bool.false_eq_true,if_true,if_false,g,t,q,o,z,p,v]
     rw[i];cases e0:(s.count==0)
     .skip;clear i g;go_enter func143,ntmps143
      go_wp2_with(first
       |(go_at_call 190;refine(eF _ _).mono ?_;rintro e w1 ⟨rfl,rfl⟩)
       |(go_at_call 192;refine(dU _ _).mono ?_;rintro e w1 ⟨rfl,rfl⟩)
       |(go_at_call 132;refine(bY _ _).mono ?_;rintro e w1 ⟨rfl,rfl⟩)
       |(go_at_call 194;refine(aA l).mono ?_;rintro e w1 ⟨rfl,rfl⟩)
       |(go_at_call 195;refine(aA k).mono ?_;rintro e w1 ⟨rfl,rfl⟩)
       |(go_at_call 193;refine(aA m).mono ?_;rintro e w1 ⟨rfl,f,a⟩;have c:=aB a;clear a)
       |(go_at_call 187;refine(aA n).mono ?_;rintro e w1 ⟨rfl,f,a⟩;have d:=a.rd.cell;have j:=a.rd.frozen;have c:=aB a;clear a;unfold cellsOf at d))
      go_ret;exact⟨rfl,L,(aA r).start⟩
     have u:dM x=true:=by simpa[e0]using g
     clear i g;go_enter func143,ntmps143
     go_wp2_with(first
      |(go_at_call 190;refine(eF _ _).mono ?_;rintro e w1 ⟨rfl,rfl⟩)
      |(go_at_call 192;refine(dU _ _).mono ?_;rintro e w1 ⟨rfl,rfl⟩)
      |(go_at_call 132;refine(bY _ _).mono ?_;rintro e w1 ⟨rfl,rfl⟩)
      |(go_at_call 194;refine(aA l).mono ?_;rintro e w1 ⟨rfl,rfl⟩)
      |(go_at_call 195;refine(aA k).mono ?_;rintro e w1 ⟨rfl,rfl⟩)
      |(go_at_call 193;refine(aA m).mono ?_;rintro e w1 ⟨rfl,f,a⟩;have c:=aB a;clear a)
      |(go_at_call 187;refine(aA n).mono ?_;rintro e w1 ⟨rfl,f,a⟩;have d:=a.rd.cell;have j:=a.rd.frozen;have c:=aB a;clear a;unfold cellsOf at d))
     go_ret;exact⟨rfl,L,(aA r).start⟩
    have B:(x !=63)=false:=by simp at o⊢;exact o
    cases p:s.on
    .rw[p]at y;have i:dO s x=({aY s with name:=s.token,state:=9},0):=by simp only[dO,bne,Bool.not_true,Bool.not_false,Bool.or_true,Bool.true_or,Bool.or_false,Bool.false_or,Bool.and_true,Bool.and_false,Bool.false_and,Bool.true_and,Bool.false_eq_true,if_true,if_false,g,t,q,o,p]
     rw[i];cases e0:(s.count==0)
     .skip;clear i g;go_enter func143,ntmps143
      go_wp2_with(first
       |(go_at_call 190;refine(eF _ _).mono ?_;rintro e w1 ⟨rfl,rfl⟩)
       |(go_at_call 192;refine(dU _ _).mono ?_;rintro e w1 ⟨rfl,rfl⟩)
       |(go_at_call 132;refine(bY _ _).mono ?_;rintro e w1 ⟨rfl,rfl⟩)
       |(go_at_call 194;refine(aA l).mono ?_;rintro e w1 ⟨rfl,rfl⟩)
       |(go_at_call 195;refine(aA k).mono ?_;rintro e w1 ⟨rfl,rfl⟩)
       |(go_at_call 193;refine(aA m).mono ?_;rintro e w1 ⟨rfl,f,a⟩;have c:=aB a;clear a)
       |(go_at_call 187;refine(aA n).mono ?_;rintro e w1 ⟨rfl,f,a⟩;have d:=a.rd.cell;have j:=a.rd.frozen;have c:=aB a;clear a;unfold cellsOf at d))
      go_ret;exact⟨rfl,f,(((aA c).store 11 _ {aY s with name:=s.token} rfl rfl rfl).store 4 _ {aY s with name:=s.token,state:=10} rfl rfl rfl).store 4 _ _ rfl rfl rfl⟩
     have u:dM x=true:=by simpa[e0]using g
     clear i g;go_enter func143,ntmps143
     go_wp2_with(first
      |(go_at_call 190;refine(eF _ _).mono ?_;rintro e w1 ⟨rfl,rfl⟩)
      |(go_at_call 192;refine(dU _ _).mono ?_;rintro e w1 ⟨rfl,rfl⟩)
      |(go_at_call 132;refine(bY _ _).mono ?_;rintro e w1 ⟨rfl,rfl⟩)
      |(go_at_call 194;refine(aA l).mono ?_;rintro e w1 ⟨rfl,rfl⟩)
      |(go_at_call 195;refine(aA k).mono ?_;rintro e w1 ⟨rfl,rfl⟩)
      |(go_at_call 193;refine(aA m).mono ?_;rintro e w1 ⟨rfl,f,a⟩;have c:=aB a;clear a)
      |(go_at_call 187;refine(aA n).mono ?_;rintro e w1 ⟨rfl,f,a⟩;have d:=a.rd.cell;have j:=a.rd.frozen;have c:=aB a;clear a;unfold cellsOf at d))
     go_ret;exact⟨rfl,f,(((aA c).store 11 _ {aY s with name:=s.token} rfl rfl rfl).store 4 _ {aY s with name:=s.token,state:=10} rfl rfl rfl).store 4 _ _ rfl rfl rfl⟩
    rw[p]at y;cases v:Mk.dN s.token
    .rw[v]at k;have i:dO s x=({aY s with name:=s.token,state:=9},0):=by simp only[dO,bne,Bool.not_true,Bool.not_false,Bool.or_true,Bool.true_or,Bool.or_false,Bool.false_or,Bool.and_true,Bool.and_false,Bool.false_and,Bool.true_and,Bool.false_eq_true,if_true,if_false,g,t,q,o,p,v]
     rw[i];cases e0:(s.count==0)
     .skip;clear i g;go_enter func143,ntmps143
      go_wp2_with(first
       |(go_at_call 190;refine(eF _ _).mono ?_;rintro e w1 ⟨rfl,rfl⟩)
       |(go_at_call 192;refine(dU _ _).mono ?_;rintro e w1 ⟨rfl,rfl⟩)
       |(go_at_call 132;refine(bY _ _).mono ?_;rintro e w1 ⟨rfl,rfl⟩)
       |(go_at_call 194;refine(aA l).mono ?_;rintro e w1 ⟨rfl,rfl⟩)
       |(go_at_call 195;refine(aA k).mono ?_;rintro e w1 ⟨rfl,rfl⟩)
       |(go_at_call 193;refine(aA m).mono ?_;rintro e w1 ⟨rfl,f,a⟩;have c:=aB a;clear a)
       |(go_at_call 187;refine(aA n).mono ?_;rintro e w1 ⟨rfl,f,a⟩;have d:=a.rd.cell;have j:=a.rd.frozen;have c:=aB a;clear a;unfold cellsOf at d))
      go_ret;exact⟨rfl,f,(((aA c).store 11 _ {aY s with name:=s.token} rfl rfl rfl).store 4 _ {aY s with name:=s.token,state:=10} rfl rfl rfl).store 4 _ _ rfl rfl rfl⟩
     have u:dM x=true:=by simpa[e0]using g
     clear i g;go_enter func143,ntmps143
     go_wp2_with(first
      |(go_at_call 190;refine(eF _ _).mono ?_;rintro e w1 ⟨rfl,rfl⟩)
      |(go_at_call 192;refine(dU _ _).mono ?_;rintro e w1 ⟨rfl,rfl⟩)
      |(go_at_call 132;refine(bY _ _).mono ?_;rintro e w1 ⟨rfl,rfl⟩)
      |(go_at_call 194;refine(aA l).mono ?_;rintro e w1 ⟨rfl,rfl⟩)
      |(go_at_call 195;refine(aA k).mono ?_;rintro e w1 ⟨rfl,rfl⟩)
      |(go_at_call 193;refine(aA m).mono ?_;rintro e w1 ⟨rfl,f,a⟩;have c:=aB a;clear a)
      |(go_at_call 187;refine(aA n).mono ?_;rintro e w1 ⟨rfl,f,a⟩;have d:=a.rd.cell;have j:=a.rd.frozen;have c:=aB a;clear a;unfold cellsOf at d))
     go_ret;exact⟨rfl,f,(((aA c).store 11 _ {aY s with name:=s.token} rfl rfl rfl).store 4 _ {aY s with name:=s.token,state:=10} rfl rfl rfl).store 4 _ _ rfl rfl rfl⟩
    rw[v]at k;have i:dO s x=(s,8):=by simp only[dO,bne,Bool.not_true,Bool.not_false,Bool.or_true,Bool.true_or,Bool.or_false,Bool.false_or,Bool.and_true,Bool.and_false,Bool.false_and,Bool.true_and,Bool.false_eq_true,if_true,if_false,g,t,q,o,p,v]
    rw[i];cases e0:(s.count==0)
    .skip;clear i g;go_enter func143,ntmps143
     go_wp2_with(first
      |(go_at_call 190;refine(eF _ _).mono ?_;rintro e w1 ⟨rfl,rfl⟩)
      |(go_at_call 192;refine(dU _ _).mono ?_;rintro e w1 ⟨rfl,rfl⟩)
      |(go_at_call 132;refine(bY _ _).mono ?_;rintro e w1 ⟨rfl,rfl⟩)
      |(go_at_call 194;refine(aA l).mono ?_;rintro e w1 ⟨rfl,rfl⟩)
      |(go_at_call 195;refine(aA k).mono ?_;rintro e w1 ⟨rfl,rfl⟩)
      |(go_at_call 193;refine(aA m).mono ?_;rintro e w1 ⟨rfl,f,a⟩;have c:=aB a;clear a)
      |(go_at_call 187;refine(aA n).mono ?_;rintro e w1 ⟨rfl,f,a⟩;have d:=a.rd.cell;have j:=a.rd.frozen;have c:=aB a;clear a;unfold cellsOf at d))
     go_ret;exact⟨rfl,L,(aA r).start⟩
    have u:dM x=true:=by simpa[e0]using g
    clear i g;go_enter func143,ntmps143
    go_wp2_with(first
     |(go_at_call 190;refine(eF _ _).mono ?_;rintro e w1 ⟨rfl,rfl⟩)
     |(go_at_call 192;refine(dU _ _).mono ?_;rintro e w1 ⟨rfl,rfl⟩)
     |(go_at_call 132;refine(bY _ _).mono ?_;rintro e w1 ⟨rfl,rfl⟩)
     |(go_at_call 194;refine(aA l).mono ?_;rintro e w1 ⟨rfl,rfl⟩)
     |(go_at_call 195;refine(aA k).mono ?_;rintro e w1 ⟨rfl,rfl⟩)
     |(go_at_call 193;refine(aA m).mono ?_;rintro e w1 ⟨rfl,f,a⟩;have c:=aB a;clear a)
     |(go_at_call 187;refine(aA n).mono ?_;rintro e w1 ⟨rfl,f,a⟩;have d:=a.rd.cell;have j:=a.rd.frozen;have c:=aB a;clear a;unfold cellsOf at d))
    go_ret;exact⟨rfl,L,(aA r).start⟩
   rw[q]at l;have i:dO s x=(s,3):=by simp only[dO,bne,Bool.not_true,Bool.not_false,Bool.or_true,Bool.true_or,Bool.or_false,Bool.false_or,Bool.and_true,Bool.and_false,Bool.false_and,Bool.true_and,Bool.false_eq_true,if_true,if_false,g,t,q]
   rw[i];cases e0:(s.count==0)
   .skip;clear i g;go_enter func143,ntmps143
    go_wp2_with(first
     |(go_at_call 190;refine(eF _ _).mono ?_;rintro e w1 ⟨rfl,rfl⟩)
     |(go_at_call 192;refine(dU _ _).mono ?_;rintro e w1 ⟨rfl,rfl⟩)
     |(go_at_call 132;refine(bY _ _).mono ?_;rintro e w1 ⟨rfl,rfl⟩)
     |(go_at_call 194;refine(aA l).mono ?_;rintro e w1 ⟨rfl,rfl⟩)
     |(go_at_call 195;refine(aA k).mono ?_;rintro e w1 ⟨rfl,rfl⟩)
     |(go_at_call 193;refine(aA m).mono ?_;rintro e w1 ⟨rfl,f,a⟩;have c:=aB a;clear a)
     |(go_at_call 187;refine(aA n).mono ?_;rintro e w1 ⟨rfl,f,a⟩;have d:=a.rd.cell;have j:=a.rd.frozen;have c:=aB a;clear a;unfold cellsOf at d))
    go_ret;exact⟨rfl,L,(aA r).start⟩
   have u:dM x=true:=by simpa[e0]using g
   clear i g;go_enter func143,ntmps143
   go_wp2_with(first
    |(go_at_call 190;refine(eF _ _).mono ?_;rintro e w1 ⟨rfl,rfl⟩)
    |(go_at_call 192;refine(dU _ _).mono ?_;rintro e w1 ⟨rfl,rfl⟩)
    |(go_at_call 132;refine(bY _ _).mono ?_;rintro e w1 ⟨rfl,rfl⟩)
    |(go_at_call 194;refine(aA l).mono ?_;rintro e w1 ⟨rfl,rfl⟩)
    |(go_at_call 195;refine(aA k).mono ?_;rintro e w1 ⟨rfl,rfl⟩)
    |(go_at_call 193;refine(aA m).mono ?_;rintro e w1 ⟨rfl,f,a⟩;have c:=aB a;clear a)
    |(go_at_call 187;refine(aA n).mono ?_;rintro e w1 ⟨rfl,f,a⟩;have d:=a.rd.cell;have j:=a.rd.frozen;have c:=aB a;clear a;unfold cellsOf at d))
   go_ret;exact⟨rfl,L,(aA r).start⟩
  have i:dO s x=gG s x:=by simp only[dO,bne,Bool.not_true,Bool.not_false,Bool.or_true,Bool.true_or,Bool.or_false,Bool.false_or,Bool.and_true,Bool.and_false,Bool.false_and,Bool.true_and,Bool.false_eq_true,if_true,if_false,g,t]
  rw[i];cases e0:(s.count==0)
  .skip;clear i g;go_enter func143,ntmps143
   go_wp2_with(first
    |(go_at_call 190;refine(eF _ _).mono ?_;rintro e w1 ⟨rfl,rfl⟩)
    |(go_at_call 192;refine(dU _ _).mono ?_;rintro e w1 ⟨rfl,rfl⟩)
    |(go_at_call 132;refine(bY _ _).mono ?_;rintro e w1 ⟨rfl,rfl⟩)
    |(go_at_call 194;refine(aA l).mono ?_;rintro e w1 ⟨rfl,rfl⟩)
    |(go_at_call 195;refine(aA k).mono ?_;rintro e w1 ⟨rfl,rfl⟩)
    |(go_at_call 193;refine(aA m).mono ?_;rintro e w1 ⟨rfl,f,a⟩;have c:=aB a;clear a)
    |(go_at_call 187;refine(aA n).mono ?_;rintro e w1 ⟨rfl,f,a⟩;have d:=a.rd.cell;have j:=a.rd.frozen;have c:=aB a;clear a;unfold cellsOf at d))
   go_ret;exact⟨rfl,f,aA c⟩
  have u:dM x=true:=by simpa[e0]using g
  clear i g;go_enter func143,ntmps143
  go_wp2_with(first
   |(go_at_call 190;refine(eF _ _).mono ?_;rintro e w1 ⟨rfl,rfl⟩)
   |(go_at_call 192;refine(dU _ _).mono ?_;rintro e w1 ⟨rfl,rfl⟩)
   |(go_at_call 132;refine(bY _ _).mono ?_;rintro e w1 ⟨rfl,rfl⟩)
   |(go_at_call 194;refine(aA l).mono ?_;rintro e w1 ⟨rfl,rfl⟩)
   |(go_at_call 195;refine(aA k).mono ?_;rintro e w1 ⟨rfl,rfl⟩)
   |(go_at_call 193;refine(aA m).mono ?_;rintro e w1 ⟨rfl,f,a⟩;have c:=aB a;clear a)
   |(go_at_call 187;refine(aA n).mono ?_;rintro e w1 ⟨rfl,f,a⟩;have d:=a.rd.cell;have j:=a.rd.frozen;have c:=aB a;clear a;unfold cellsOf at d))
  go_ret;exact⟨rfl,f,aA c⟩
 have i:dO s x=(s,3):=by simp only[dO,g,if_true]
 rw[i];have e0:(s.count==0)=true:=by simp at g;simp[g]
 have u:dM x=false:=by simp at g;simp[g]
 clear i g;go_enter func143,ntmps143
 go_wp2_with(go_at_call 190;refine(eF _ _).mono ?_;rintro e w1 ⟨rfl,rfl⟩)
 go_ret;exact⟨rfl,L,(aA r).start⟩
theorem FI(h:aK w b s L)(k:Bd s)(x:Int)(y:0≤x)(z:x≤255)(d:Sl s):
 Calls Tryz.prog 197 #[.pointer (some ⟨b,0,none⟩),.int .u8 x] w (Does w b s L (jM s x)):=by
 have m:=h.cell;have q:=h.frozen;have A:=h.lt;have D:=aB h;have r:=aB (vu h k x y z);have t:=aB (oZ h);have i:=aB k;unfold cellsOf at m;clear h k;cases u:gm x
 .have g:jM s x=fO {aY s with name:=s.token} x:=by simp[jM,u]
  rw[g];clear g r m q;go_enter func197,ntmps197
  go_wp2_with(go_at_call 192;refine(dU _ _).mono ?_;rintro e w1 ⟨rfl,rfl⟩)
  refine(aA t).mono ?_;rintro e w1 ⟨rfl,j,a⟩;have n:=a.rd.cell;have B:=a.rd.frozen;have v:=a.rd.lt;have f:=a.store 11 (.string ⟨s.token.toArray⟩) {aY s with name:=s.token} rfl rfl rfl;have C:=aB (vq f.rd {aA i with ht:=by simp[aY],c0:=by simp[aY],c1:=by simp[aY],hn:=(aA i).ht} ⟨d.l,d.b,d.c⟩ x);have o:=aB f;unfold cellsOf at n;clear a f i;go_wp2_with(go_at_call 202;refine(aA C).mono ?_;rintro e w1 ⟨rfl,j,a⟩;have p:=aB a;clear a)
  go_ret;exact⟨rfl,j,(aA o).call (aA p)⟩
 have g:jM s x=gG s x:=by simp[jM,u]
 rw[g];clear g t m q i;go_enter func197,ntmps197
 go_wp2_with(first|(go_at_call 192;refine(dU _ _).mono ?_;rintro e w1 ⟨rfl,rfl⟩)|(go_at_call 193;refine(aA r).mono ?_;rintro e w1 ⟨rfl,j,a⟩;have p:=aB a;clear a))
 go_ret;exact⟨rfl,j,aA p⟩
theorem FJ(h:aK w b s L)(d:Bd s)(x:Int)(q:0≤x)(u:x≤255)(f:Sl s):
 Calls Tryz.prog 198 #[.pointer (some ⟨b,0,none⟩),.int .u8 x] w (Does w b s L (jb s x)):=by
 have m:=h.cell;have r:=h.frozen;have t:=h.lt;have o:=aB h;have g:=aB (vq h d f x);have i:=aB (fun n=>Qa ((h.start.drewN n).store 4 (.int .i64 14) {s with state:=14} rfl rfl rfl).rd {d with} x q (by omega));have v:=d.ha;unfold cellsOf at m;clear h d;cases j:dM x
 .have c:jb s x=fO s x:=by simp[jb,j]
  rw[c];clear c i m r;go_enter func198,ntmps198
  go_wp2_with(first|(go_at_call 190;refine(eF _ _).mono ?_;rintro e w1 ⟨rfl,rfl⟩)|(go_at_call 202;refine(aA g).mono ?_;rintro e w1 ⟨rfl,k,a⟩;have l:=aB a;clear a))
  go_ret;exact⟨rfl,k,aA l⟩
 by_cases p:s.oa≤s.aC.length
 .have c:jb s x=(s,7):=by simp[jb,j,p]
  rw[c];clear c i g;go_enter func198,ntmps198
  go_wp2_with(go_at_call 190;refine(eF _ _).mono ?_;rintro e w1 ⟨rfl,rfl⟩)
  go_quiet(fail)
  go_wp2
  go_ret;exact⟨rfl,L,(aA o).start.drewN _⟩
 have c:jb s x=(Mk.put {s with state:=14} x,0):=by simp[jb,j,p]
 rw[c];have y:decide (s.oa≤(s.aC.length:Int))=false:=by simp;omega
 clear c g;go_enter func198,ntmps198
 go_wp2_with(go_at_call 190;refine(eF _ _).mono ?_;rintro e w1 ⟨rfl,rfl⟩)
 go_quiet(fail)
 go_wp2_with(go_at_call 130;refine(aA i _).mono ?_;rintro e w1 ⟨rfl,k,a⟩;have l:=aB a;clear a)
 go_ret;exact⟨rfl,k,(((aA o).start.drewN _).store 4 (.int .i64 14) {s with state:=14} rfl rfl rfl).call (aA l)⟩
theorem FK(h:aK w b s L)(m:Bd s)(x:Int)(K:0≤x)(M:x≤255)(f:Sl s):
 Calls Tryz.prog 203 #[.pointer (some ⟨b,0,none⟩),.int .u8 x] w (Does w b s L (jN s x)):=by
 have y:=h.cell;have D:=h.frozen;have E:=h.lt;have z:=aB h;have o:=aB (vh h m);have g:=vp m (by have:=f.l;omega);have F:=f.l;have p:=m.hn;unfold cellsOf at y;clear h m;cases n:(x==62)
 .have d:(x !=62)=true:=by simp at n⊢;exact n
  have i:jN s x=(s,3):=by simp only[jN,d];rfl
  rw[i];clear i o g;go_enter func203,ntmps203
  go_wp2
  go_ret;exact⟨rfl,L,(aA z).start⟩
 have d:(x !=62)=false:=by simp at n⊢;exact n
 have i:jN s x=({dR (cH s) s.name with name:=[]},0):=by simp only[jN,d];rfl
 rw[i];obtain⟨j,q,G,H⟩:=g;clear i y D;go_enter func203,ntmps203
 go_wp2_with fail
 refine(aA o).mono ?_;rintro e w1 ⟨rfl,N,a⟩;have k:=a.rd.cell;have r:=a.rd.frozen;have A:=a.rd.lt;have B:=aB (vk a.rd j (by omega) s.name p);have t:=aB a;unfold cellsOf at k;clear a j q o z;go_wp2_with fail
 refine(aA B).mono ?_;rintro e w2 ⟨rfl,I,c⟩;generalize dR (cH s) s.name=O at *;have u:=c.rd.cell;have J:=c.rd.frozen;have C:=c.rd.lt;have v:=aB c;unfold cellsOf at u;clear c B k r;go_wp2
 go_ret;exact⟨rfl,I,((aA t).call (aA v)).store 11 _ _ rfl rfl rfl⟩
theorem vw(h:aK w b s L)(g:Bd s)(x:Int)(k:0≤x)(l:x≤255):
 Calls Tryz.prog 200 #[.pointer (some ⟨b,0,none⟩),.int .u8 x] w (Does w b s L (gS s x)):=by
 have i:=h.cell;have m:=h.frozen;have j:=h.lt;have c:=aB h;unfold cellsOf at i;clear h g;cases d:Mk.cB x
 .cases f:(x==61)
  .have a:gS s x=(s,3):=by simp[gS,d,f]
   rw[a];clear a;go_enter func200,ntmps200
   go_wp2_with(go_at_call 132;refine(bY _ _).mono ?_;rintro e w1 ⟨rfl,rfl⟩)
   go_ret;exact⟨rfl,L,(aA c).start⟩
  have a:gS s x=({s with state:=16},0):=by simp[gS,d,f]
  rw[a];clear a;go_enter func200,ntmps200
  go_wp2_with(go_at_call 132;refine(bY _ _).mono ?_;rintro e w1 ⟨rfl,rfl⟩)
  go_ret;exact⟨rfl,L,(aA c).start.store 4 _ _ rfl rfl rfl⟩
 have a:gS s x=({s with state:=15},0):=by simp[gS,d]
 rw[a];clear a;go_enter func200,ntmps200
 go_wp2_with(go_at_call 132;refine(bY _ _).mono ?_;rintro e w1 ⟨rfl,rfl⟩)
 go_ret;exact⟨rfl,L,(aA c).start.store 4 _ _ rfl rfl rfl⟩
theorem FL(h:aK w b s L)(i:Bd s)(x:Int)(l:0≤x)(m:x≤255):
 Calls Tryz.prog 201 #[.pointer (some ⟨b,0,none⟩),.int .u8 x] w (Does w b s L (iA s x)):=by
 have j:=h.cell;have n:=h.frozen;have k:=h.lt;have c:=aB h;unfold cellsOf at j;clear h i;cases d:Mk.cB x
 .cases f:(x==34)
  .cases g:(x==39)
   .have a:iA s x=(s,3):=by simp[iA,d,f,g]
    rw[a];clear a;go_enter func201,ntmps201
    go_wp2_with(go_at_call 132;refine(bY _ _).mono ?_;rintro e w1 ⟨rfl,rfl⟩)
    go_ret;exact⟨rfl,L,(aA c).start⟩
   have a:iA s x=({s with quote:=x,state:=17},0):=by simp[iA,d,f,g]
   rw[a];clear a;go_enter func201,ntmps201
   go_wp2_with(go_at_call 132;refine(bY _ _).mono ?_;rintro e w1 ⟨rfl,rfl⟩)
   go_ret;exact⟨rfl,L,((aA c).start.store 14 (.int .u8 x) {s with quote:=x} rfl rfl rfl).store 4 _ _ rfl rfl rfl⟩
  have a:iA s x=({s with quote:=x,state:=17},0):=by simp[iA,d,f]
  rw[a];clear a;go_enter func201,ntmps201
  go_wp2_with(go_at_call 132;refine(bY _ _).mono ?_;rintro e w1 ⟨rfl,rfl⟩)
  go_ret;exact⟨rfl,L,((aA c).start.store 14 (.int .u8 x) {s with quote:=x} rfl rfl rfl).store 4 _ _ rfl rfl rfl⟩
 have a:iA s x=(s,0):=by simp[iA,d]
 rw[a];clear a;go_enter func201,ntmps201
 go_wp2_with(go_at_call 132;refine(bY _ _).mono ?_;rintro e w1 ⟨rfl,rfl⟩)
 go_ret;exact⟨rfl,L,(aA c).start⟩
theorem FM(h:aK w b s L)(p:Bd s)(x:Int)(B:0≤x)(C:x≤255):
 Calls Tryz.prog 101 #[.pointer (some ⟨b,0,none⟩),.int .u8 x] w (Does w b s L (fC s x)):=by
 have D:=h.cell;have G:=h.frozen;have E:=h.lt;have u:=aB h;have j:=aB (FG h p);have k:=aB (mL h p x B C);have d:=aB (mL h p 32 (by decide) (by decide));have g:=aB (mJ h 1 p.c0 (Int.le_trans p.c1 (by decide)) (by decide) (by decide));unfold cellsOf at D;clear h p;cases l:(x==s.quote)
 .cases q:(x==60)
  .cases r:(x==38)
   .cases i:(x==9)
    .cases z:(x==10)
     .have c:fC s x=cW s x:=by simp[fC,l,q,r,i,z]
      rw[c];clear c j d g;go_enter func101,ntmps101
      go_wp2_with(go_at_call 134;refine(aA k).mono ?_;rintro e w1 ⟨rfl,m,a⟩;have o:=aB a;clear a)
      go_ret;exact⟨rfl,m,aA o⟩
     have c:fC s x=cW s 32:=by simp[fC,l,q,r,i,z]
     rw[c];clear c j k g;go_enter func101,ntmps101
     go_wp2_with(go_at_call 134;refine(aA d).mono ?_;rintro e w1 ⟨rfl,m,a⟩;have o:=aB a;clear a)
     go_ret;exact⟨rfl,m,aA o⟩
    have c:fC s x=cW s 32:=by simp[fC,l,q,r,i]
    rw[c];clear c j k g;go_enter func101,ntmps101
    go_wp2_with(go_at_call 134;refine(aA d).mono ?_;rintro e w1 ⟨rfl,m,a⟩;have o:=aB a;clear a)
    go_ret;exact⟨rfl,m,aA o⟩
   cases i:Mk.fits s 1
   .have c:fC s x=(s,7):=by simp[fC,l,q,r,i]
    rw[c];rw[i]at g;clear c j k d;go_enter func101,ntmps101
    go_wp2_with(go_at_call 137;refine(aA g).mono ?_;rintro e w' ⟨rfl,n,rfl⟩)
    go_ret;exact⟨rfl,L,(aA u).start.drewN _⟩
   have c:fC s x=(Mk.setRef s ⟨1,[],0⟩,0):=by simp[fC,l,q,r,i]
   rw[c];rw[i]at g;clear c j k d;go_enter func101,ntmps101
   go_wp2_with(first
    |(go_at_call 137;refine(aA g).mono ?_;rintro e w' ⟨rfl,n,rfl⟩)
    |(go_at_call 133;refine(yP _).mono ?_;rintro e w1 ⟨rfl,t⟩;have f:=((aA u).start.drewN n).below t;have v:=f.rd.cell;have F:=f.rd.frozen;have A:=f.rd.lt;have y:=aB f;clear f;unfold cellsOf at v))
   go_ret;exact⟨rfl,L,(((aA y).store 20 (.int .i64 1) {s with rp:=1} rfl rfl rfl).store 21 (.string ⟨#[]⟩) {s with rp:=1,rn:=[]} rfl rfl rfl).store 22 _ _ rfl rfl rfl⟩
  have c:fC s x=(s,3):=by simp[fC,l,q]
  rw[c];clear c j k d g;go_enter func101,ntmps101
  go_wp2
  go_ret;exact⟨rfl,L,(aA u).start⟩
 have c:fC s x=(Mk.endValue s,0):=by simp[fC,l]
 rw[c];clear c k d g;go_enter func101,ntmps101
 go_wp2_with(go_at_call 138;refine(aA j).mono ?_;rintro e w1 ⟨rfl,m,a⟩;have o:=aB a;clear a)
 go_ret;exact⟨rfl,m,aA o⟩
end Go.Proofs.YtmgfijllcdadgaaGreatDoor
