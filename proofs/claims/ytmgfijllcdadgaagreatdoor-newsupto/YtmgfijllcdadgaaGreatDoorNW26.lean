import Derived.Test.YtmgfijllcdadgaaGreatDoorNW18
import Derived.Test.YtmgfijllcdadgaaGreatDoorNW23
import Derived.Test.YtmgfijllcdadgaaGreatDoorNW22
set_option linter.unusedVariables false
set_option linter.unusedSimpArgs false
set_option maxHeartbeats 16000000
set_option maxRecDepth 100000
namespace Go.Proofs.YtmgfijllcdadgaaGreatDoor.V
open Go.RowKit
open Mk (Bs Ev aD)
open Rf (R)
open Go.Proofs.Tryz
open Rf (cN fQ)
def qU(t:Bs):Bs:=if t=[10]∨t=[9]then[32]else t
section
variable {f:Nat}{r:R}{t:Bs}{c q:Int}
theorem Bt(h:¬r.at_<r.s.length):cN q (f+1) r t c=({r with stop:=1},[],false):=by
 rw[cN,if_neg h]
theorem Bu(h:r.at_<r.s.length)(a:r.byte r.at_=q):cN q (f+1) r t c=({r with at_:=r.at_+1},t,true):=by
 rw[cN,if_pos h];simp[a]
theorem Bv(h:r.at_<r.s.length)(a:r.byte r.at_≠q)(b:r.byte r.at_=60):cN q (f+1) r t c=(Rf.fail r 3,[],false):=by
 rw[cN,if_pos h];dsimp only;rw[if_neg (by simpa using a),if_pos (by simpa using b)]
theorem Bw(h:r.at_<r.s.length)(a:r.byte r.at_≠q)(b:r.byte r.at_≠60)(d:c=r.ot):cN q (f+1) r t c=(Rf.beyond r r.at_,[],false):=by
 rw[cN,if_pos h];dsimp only;rw[if_neg (by simpa using a),if_neg (by simpa using b),if_pos (by simpa using d)]
theorem Bx(h:r.at_<r.s.length)(b:r.byte r.at_≠q)(a:r.byte r.at_=38)(d:c≠r.ot):cN q (f+1) r t c=if(Rf.reference r).2.2 then cN q f (Rf.reference r).1 (t++(Rf.reference r).2.1) (c+1)else((Rf.reference r).1,[],false):=by
 rw[cN,if_pos h];dsimp only;rw[if_neg (by simpa using b),if_neg (by simp[a]),if_neg (by simpa using d)];have e:(r.byte r.at_==38)=true:=by simpa using a
 simp only[e,if_true]
theorem Bz(h:r.at_<r.s.length)(a:r.byte r.at_≠q)(b:r.byte r.at_≠60)(d:r.byte r.at_≠38)(g:c≠r.ot):cN q (f+1) r t c=if(Rf.character r).2.2 then cN q f (Rf.character r).1 (t++qU (Rf.character r).2.1) (c+1)else((Rf.character r).1,[],false):=by
 rw[cN,if_pos h];dsimp only;rw[if_neg (by simpa using a),if_neg (by simpa using b),if_neg (by simpa using g)];have e:(r.byte r.at_==38)=false:=by simpa using d
 simp only[e,Bool.false_eq_true,if_false];rfl
end
section
variable {w w' :World}{b:Nat}{s:R}{L:aH}
theorem RD(h:aI w b s L)(hl:bT s)(hi:s.at_<s.s.length)(hq:s.byte s.at_=34)(af:s.s.length≤100000000)(hG:bG w)(a5:0<b):Calls Tryz.prog 158 #[.pointer (some ⟨b,0,none⟩)] w (kM w b s L (cN 34 (s.s.length+1) {s with at_:=s.at_+1} [] 0)):=by
 have HM:=aB h;have HL:=aB hl;have h1:=hl.len;have a6:=aB (Kp.to (r:=s) (k:=s.at_+1) (by omega) (by omega));obtain⟨a0,N⟩:∃a0,a0=cN 34 (s.s.length+1) {s with at_:=s.at_+1} [] 0:=⟨_,rfl⟩;rw[←N];have ag:=h.lt;have hc:=h.cell;have hf:=h.frozen;unfold aF at hc;have G:=aB N;have HG:=aB hG;have a7:(s.at_:Int)<(s.s.length:Int):=by omega
 obtain⟨y0,a1,a8,ah⟩:=bH s s.at_ hi;rw[hq]at a1;have ai:(y0.toNat:Int)=34:=a1.symm;have a9:Hid (∀n,aL w b (aR s L) ((w.drewN n).setCell ⟨b,5,none⟩ (.int .i64 ((s.at_:Int)+1))) {s with at_:=s.at_+1} L):=fun n=>((aA HM).start.drewN n).store 5 _ {s with at_:=s.at_+1} (by simp[aF]) rfl rfl rfl
 have aj:wrap64 ((s.at_:Int)+1)=((s.at_+1:Nat):Int):=by unfold wrap64;omega
 clear h N hl hG hq ah a1;go_enter func158,ntmps158
 go_wp2
 go_quiet(fail)
 go_wp2_with fail
 go_loopg [5,6] (s.s.length+1) (fun g s5 s6 wx=>∃(r:R) (t:Bs) (c:Int) (L1:aH),s5=.string ⟨t.toArray⟩∧s6=.int .i64 c∧0≤c∧c≤r.ot∧a0=cN 34 g r t c∧s.s.length - r.at_<g∧Kp s r∧t.length≤4*r.at_∧aL w b (aR s L) wx r L1)
 case atStart=>exact⟨{s with at_:=s.at_+1},[],0,L,rfl,rfl,by omega,(aA HL).t0,aA G,by show s.s.length - (s.at_+1)<_;omega,aA a6,by simp,aA a9 _⟩
 case round=>
  obtain⟨r,t,c,L1,rfl,rfl,p,q,hfin,hg,u,v,hm⟩:=hrel;have O:=u.ok (aA HL);obtain⟨f,rfl⟩:∃f,gk=f+1:=⟨gk - 1,by omega⟩;have h1:=O.len;have h2:=O.at_;have z:r.s.length≤100000000:=by rw[u.s];exact af
  have X:=aB (gy hm.rd O);have C:=aB hm;have Y:=aB O;have d:r.s.length - r.at_<f+1:=by rw[u.s];exact hg
  have Z:=aB u;have ak:=aB z;clear hm O hg G a9 a6 hc hf ag a7 a8 ai aj hi;by_cases H:r.at_<r.s.length
  .rw[show Rf.ends r=(r,false) by simp[Rf.ends,H]]at X;obtain⟨y,D,ao,hy⟩:=bH r r.at_ H;have a7:(r.at_:Int)<(r.s.length:Int):=by omega
   by_cases I:(y.toNat:Int)=34
   .rw[Bu H (by rw[D];exact I)]at hfin;have e1:((y.toNat:Int)==34)=true:=by simpa using I
    have G:=aB hfin;have ap:wrap64 ((r.at_:Int)+1)=((r.at_+1:Nat):Int):=by unfold wrap64;omega
    clear hfin D hy u d v p q z I;go_wp2_with(go_at_call 105;refine(aA X).mono ?_;rintro e w1 ⟨rfl,L2,a⟩;have i:=aB ((aA C).call a);have l:=a.rd.cell;have M:=a.rd.frozen;have x:=a.rd.lt;clear a;unfold aF at l)
    go_quiet(fail)
    go_wp2
    go_ret2;rw[aA G];exact⟨rfl,L2,((aA i).drewN _).store 5 _ {r with at_:=r.at_+1} (by simp[aF]) rfl rfl rfl⟩
   have e1:((y.toNat:Int)==34)=false:=by simpa using I
   by_cases P:(y.toNat:Int)=60
   .rw[Bv H (by rw[D];exact I) (by rw[D];exact P)]at hfin;have e2:((y.toNat:Int)==60)=true:=by simpa using P
    have G:=aB hfin;clear hfin D hy u d v p q z I P;go_wp2_with(go_at_call 105;refine(aA X).mono ?_;rintro e w1 ⟨rfl,L2,a⟩;have i:=aB ((aA C).call a);have l:=a.rd.cell;have M:=a.rd.frozen;have x:=a.rd.lt;clear a;unfold aF at l)
    go_quiet(fail)
    go_wp2_with(go_at_call 83;refine(bW ((aA i).drewN _).rd 3).mono ?_;rintro e w2 ⟨rfl,Q,m⟩)
    go_ret2;rw[aA G];exact⟨rfl,Q,((aA i).drewN _).call m⟩
   have e2:((y.toNat:Int)==60)=false:=by simpa using P
   by_cases J:c=r.ot
   .rw[Bw H (by rw[D];exact I) (by rw[D];exact P) J]at hfin;have e3:(c==r.ot)=true:=by simpa using J
    have G:=aB hfin;have HH:=aB H;clear hfin D hy u d v p q z I P J;go_wp2_with(go_at_call 105;refine(aA X).mono ?_;rintro e w1 ⟨rfl,L2,a⟩;have i:=aB ((aA C).call a);have l:=a.rd.cell;have M:=a.rd.frozen;have x:=a.rd.lt;clear a;unfold aF at l)
    go_quiet(fail)
    go_wp2_with(go_at_call 154;refine(pG ((aA i).drewN _).rd (aA Y) r.at_ (aA HH)).mono ?_;rintro e w2 ⟨rfl,Q,m⟩)
    go_ret2;rw[aA G];exact⟨rfl,Q,((aA i).drewN _).call m⟩
   have e3:(c==r.ot)=false:=by simpa using J
   have aa:wrap64 (c+1)=c+1:=by
    have:=(aA Y).t1;unfold wrap64;omega
   by_cases h7:(y.toNat:Int)=38
   .rw[Bx H (by rw[D];exact I) (by rw[D];exact h7) J]at hfin;have e4:((y.toNat:Int)==38)=true:=by simpa using h7
    have o:=PD H;have HC:=aB (fun(W:World) (L' :aH) (hW:aI W b r L') (al:bG W)=>wA hW (aA Y) H (aA ak) al a5);have ab:=aB (fun(W:World) (r' :R) (L' :aH) (hm:aL w b (aR s L) W r' L')=>(aA HG).mv (aA HM) hm a5);generalize S:Rf.reference r=ch at *;obtain⟨r3,K,o3⟩:=ch;cases o3 with
    |false=>
     simp only[Bool.false_eq_true,if_false]at hfin;have G:=aB hfin;clear hfin D hy u d v p q z I P J h7 o S;go_wp2_with(go_at_call 105;refine(aA X).mono ?_;rintro e w1 ⟨rfl,L2,a⟩;have i:=aB ((aA C).call a);have l:=a.rd.cell;have M:=a.rd.frozen;have x:=a.rd.lt;clear a;unfold aF at l)
     go_quiet(fail)
     go_wp2_with(go_at_call 166;refine(aA HC _ _ ((aA i).drewN _).rd (aA ab _ _ _ ((aA i).drewN _))).mono ?_;rintro e w2 ⟨rfl,Q,m⟩)
     go_ret2;rw[aA G];exact⟨rfl,Q,((aA i).drewN _).call m⟩
    |true=>
     simp only[if_true]at hfin;obtain⟨k,F,j,A,B⟩:=o.2 rfl;have ad:=lD t K;have ae:t.length≤400000000:=by omega
     have am:K.length≤100000000:=by simp only at B;omega
     have HZ:=aB (And.intro hfin (And.intro o.1 (And.intro F (And.intro j (And.intro A (And.intro B (And.intro d (And.intro v (And.intro p (And.intro q J))))))))));clear hfin D hy u d v p q z I P J h7 o S F j A B;go_wp2_with(go_at_call 105;refine(aA X).mono ?_;rintro e w1 ⟨rfl,L2,a⟩;have i:=aB ((aA C).call a);have l:=a.rd.cell;have M:=a.rd.frozen;have x:=a.rd.lt;clear a;unfold aF at l)
     go_quiet(fail)
     go_wp2_with(go_at_call 166;refine(aA HC _ _ ((aA i).drewN _).rd (aA ab _ _ _ ((aA i).drewN _))).mono ?_;rintro e w2 ⟨rfl,Q,m⟩;have a2:=aB (((aA i).drewN _).call m);clear m)
     obtain⟨hfin,o,F,j,A,B,d,v,p,q,J⟩:=aA HZ;have T:r.s=s.s:=(aA Z).s;have a3:r3.ot=r.ot:=by rw[A]
     have E:r3.at_=k:=by rw[A]
     go_roundg f
     case measure=>omega
     case rel=>exact⟨r3,t++K,c+1,Q,rfl,by rw[aa],by omega,by rw[a3];omega,hfin,by rw[E,←T];omega,(aA Z).trans o,by rw[E,List.length_append];omega,aA a2⟩
   rw[Bz H (by rw[D];exact I) (by rw[D];exact P) (by rw[D];exact h7) J]at hfin;have e4:((y.toNat:Int)==38)=false:=by simpa using h7
   have o:=gX H;have HC:=aB (fun(W:World) (L' :aH) (hW:aI W b r L')=>nR hW (aA Y) H);generalize S:Rf.character r=ch at *;obtain⟨r3,K,o3⟩:=ch;have a4:qU K=if(K==[10])||(K==[9])then[32]else K:=by simp[qU]
   simp only[a4]at hfin;cases o3 with
   |false=>
    simp only[Bool.false_eq_true,if_false]at hfin;have G:=aB hfin;cases v1:(K==[10])<;>cases v2:(K==[9])
    all_goals
     clear hfin D hy u d v p q z I P J h7 o S a4;go_wp2_with(go_at_call 105;refine(aA X).mono ?_;rintro e w1 ⟨rfl,L2,a⟩;have i:=aB ((aA C).call a);have l:=a.rd.cell;have M:=a.rd.frozen;have x:=a.rd.lt;clear a;unfold aF at l)
     go_quiet(fail)
     go_wp2_with(go_at_call 155;refine(aA HC _ _ ((aA i).drewN _).rd).mono ?_;rintro e w2 ⟨rfl,Q,m⟩)
     go_ret2;rw[aA G];exact⟨rfl,Q,((aA i).drewN _).call m⟩
   |true=>
    simp only[if_true]at hfin;obtain⟨k,F,j,A,B⟩:=o.2 rfl;have ad:=lD t K;have an:=lD t [32];have ae:t.length≤400000000:=by omega
    have am:K.length≤100000000:=by simp only at B;omega
    have HZ:=aB (And.intro hfin (And.intro o.1 (And.intro F (And.intro j (And.intro A (And.intro B (And.intro d (And.intro v (And.intro p (And.intro q J))))))))));cases v1:(K==[10])<;>cases v2:(K==[9])
    all_goals
     clear hfin D hy u d v p q z I P J h7 o S F j A B a4;go_wp2_with(go_at_call 105;refine(aA X).mono ?_;rintro e w1 ⟨rfl,L2,a⟩;have i:=aB ((aA C).call a);have l:=a.rd.cell;have M:=a.rd.frozen;have x:=a.rd.lt;clear a;unfold aF at l)
     go_quiet(fail)
     go_wp2_with(go_at_call 155;refine(aA HC _ _ ((aA i).drewN _).rd).mono ?_;rintro e w2 ⟨rfl,Q,m⟩;have a2:=aB (((aA i).drewN _).call m);clear m)
     obtain⟨hfin,o,F,j,A,B,d,v,p,q,J⟩:=aA HZ;rw[v1,v2]at hfin;simp only[Bool.or_false,Bool.or_true,Bool.false_eq_true,if_false,if_true]at hfin;have T:r.s=s.s:=(aA Z).s;have a3:r3.ot=r.ot:=by rw[j]
     have E:r3.at_=r.at_+k:=by rw[j]
     go_roundg f
     case measure=>omega
     case rel=>exact⟨r3,_,c+1,Q,rfl,by rw[aa],by omega,by rw[a3];omega,hfin,by rw[E,←T];omega,(aA Z).trans o,by rw[E,List.length_append];(try simp only[List.length_cons,List.length_nil]);omega,aA a2⟩
  rw[show Rf.ends r=({r with stop:=1},true) by simp[Rf.ends,H]]at X;rw[Bt H]at hfin;have G:=aB hfin;clear hfin u d v p q z;go_wp2_with(go_at_call 105;refine(aA X).mono ?_;rintro e w1 ⟨rfl,L2,a⟩)
  go_ret2;rw[aA G];exact⟨rfl,L2,(aA C).call a⟩
theorem J_(h:aI w b s L)(hl:bT s)(hi:s.at_<s.s.length)(hq:s.byte s.at_=39)(af:s.s.length≤100000000)(hG:bG w)(a5:0<b):Calls Tryz.prog 158 #[.pointer (some ⟨b,0,none⟩)] w (kM w b s L (cN 39 (s.s.length+1) {s with at_:=s.at_+1} [] 0)):=by
 have HM:=aB h;have HL:=aB hl;have h1:=hl.len;have a6:=aB (Kp.to (r:=s) (k:=s.at_+1) (by omega) (by omega));obtain⟨a0,N⟩:∃a0,a0=cN 39 (s.s.length+1) {s with at_:=s.at_+1} [] 0:=⟨_,rfl⟩;rw[←N];have ag:=h.lt;have hc:=h.cell;have hf:=h.frozen;unfold aF at hc;have G:=aB N;have HG:=aB hG;have a7:(s.at_:Int)<(s.s.length:Int):=by omega
 obtain⟨y0,a1,a8,ah⟩:=bH s s.at_ hi;rw[hq]at a1;have ai:(y0.toNat:Int)=39:=a1.symm;have a9:Hid (∀n,aL w b (aR s L) ((w.drewN n).setCell ⟨b,5,none⟩ (.int .i64 ((s.at_:Int)+1))) {s with at_:=s.at_+1} L):=fun n=>((aA HM).start.drewN n).store 5 _ {s with at_:=s.at_+1} (by simp[aF]) rfl rfl rfl
 have aj:wrap64 ((s.at_:Int)+1)=((s.at_+1:Nat):Int):=by unfold wrap64;omega
 clear h N hl hG hq ah a1;go_enter func158,ntmps158
 go_wp2
 go_quiet(fail)
 go_wp2_with fail
 go_loopg [5,6] (s.s.length+1) (fun g s5 s6 wx=>∃(r:R) (t:Bs) (c:Int) (L1:aH),s5=.string ⟨t.toArray⟩∧s6=.int .i64 c∧0≤c∧c≤r.ot∧a0=cN 39 g r t c∧s.s.length - r.at_<g∧Kp s r∧t.length≤4*r.at_∧aL w b (aR s L) wx r L1)
 case atStart=>exact⟨{s with at_:=s.at_+1},[],0,L,rfl,rfl,by omega,(aA HL).t0,aA G,by show s.s.length - (s.at_+1)<_;omega,aA a6,by simp,aA a9 _⟩
 case round=>
  obtain⟨r,t,c,L1,rfl,rfl,p,q,hfin,hg,u,v,hm⟩:=hrel;have O:=u.ok (aA HL);obtain⟨f,rfl⟩:∃f,gk=f+1:=⟨gk - 1,by omega⟩;have h1:=O.len;have h2:=O.at_;have z:r.s.length≤100000000:=by rw[u.s];exact af
  have X:=aB (gy hm.rd O);have C:=aB hm;have Y:=aB O;have d:r.s.length - r.at_<f+1:=by rw[u.s];exact hg
  have Z:=aB u;have ak:=aB z;clear hm O hg G a9 a6 hc hf ag a7 a8 ai aj hi;by_cases H:r.at_<r.s.length
  .rw[show Rf.ends r=(r,false) by simp[Rf.ends,H]]at X;obtain⟨y,D,ao,hy⟩:=bH r r.at_ H;have a7:(r.at_:Int)<(r.s.length:Int):=by omega
   by_cases I:(y.toNat:Int)=39
   .rw[Bu H (by rw[D];exact I)]at hfin;have e1:((y.toNat:Int)==39)=true:=by simpa using I
    have G:=aB hfin;have ap:wrap64 ((r.at_:Int)+1)=((r.at_+1:Nat):Int):=by unfold wrap64;omega
    clear hfin D hy u d v p q z I;go_wp2_with(go_at_call 105;refine(aA X).mono ?_;rintro e w1 ⟨rfl,L2,a⟩;have i:=aB ((aA C).call a);have l:=a.rd.cell;have M:=a.rd.frozen;have x:=a.rd.lt;clear a;unfold aF at l)
    go_quiet(fail)
    go_wp2
    go_ret2;rw[aA G];exact⟨rfl,L2,((aA i).drewN _).store 5 _ {r with at_:=r.at_+1} (by simp[aF]) rfl rfl rfl⟩
   have e1:((y.toNat:Int)==39)=false:=by simpa using I
   by_cases P:(y.toNat:Int)=60
   .rw[Bv H (by rw[D];exact I) (by rw[D];exact P)]at hfin;have e2:((y.toNat:Int)==60)=true:=by simpa using P
    have G:=aB hfin;clear hfin D hy u d v p q z I P;go_wp2_with(go_at_call 105;refine(aA X).mono ?_;rintro e w1 ⟨rfl,L2,a⟩;have i:=aB ((aA C).call a);have l:=a.rd.cell;have M:=a.rd.frozen;have x:=a.rd.lt;clear a;unfold aF at l)
    go_quiet(fail)
    go_wp2_with(go_at_call 83;refine(bW ((aA i).drewN _).rd 3).mono ?_;rintro e w2 ⟨rfl,Q,m⟩)
    go_ret2;rw[aA G];exact⟨rfl,Q,((aA i).drewN _).call m⟩
   have e2:((y.toNat:Int)==60)=false:=by simpa using P
   by_cases J:c=r.ot
   .rw[Bw H (by rw[D];exact I) (by rw[D];exact P) J]at hfin;have e3:(c==r.ot)=true:=by simpa using J
    have G:=aB hfin;have HH:=aB H;clear hfin D hy u d v p q z I P J;go_wp2_with(go_at_call 105;refine(aA X).mono ?_;rintro e w1 ⟨rfl,L2,a⟩;have i:=aB ((aA C).call a);have l:=a.rd.cell;have M:=a.rd.frozen;have x:=a.rd.lt;clear a;unfold aF at l)
    go_quiet(fail)
    go_wp2_with(go_at_call 154;refine(pG ((aA i).drewN _).rd (aA Y) r.at_ (aA HH)).mono ?_;rintro e w2 ⟨rfl,Q,m⟩)
    go_ret2;rw[aA G];exact⟨rfl,Q,((aA i).drewN _).call m⟩
   have e3:(c==r.ot)=false:=by simpa using J
   have aa:wrap64 (c+1)=c+1:=by
    have:=(aA Y).t1;unfold wrap64;omega
   by_cases h7:(y.toNat:Int)=38
   .rw[Bx H (by rw[D];exact I) (by rw[D];exact h7) J]at hfin;have e4:((y.toNat:Int)==38)=true:=by simpa using h7
    have o:=PD H;have HC:=aB (fun(W:World) (L' :aH) (hW:aI W b r L') (al:bG W)=>wA hW (aA Y) H (aA ak) al a5);have ab:=aB (fun(W:World) (r' :R) (L' :aH) (hm:aL w b (aR s L) W r' L')=>(aA HG).mv (aA HM) hm a5);generalize S:Rf.reference r=ch at *;obtain⟨r3,K,o3⟩:=ch;cases o3 with
    |false=>
     simp only[Bool.false_eq_true,if_false]at hfin;have G:=aB hfin;clear hfin D hy u d v p q z I P J h7 o S;go_wp2_with(go_at_call 105;refine(aA X).mono ?_;rintro e w1 ⟨rfl,L2,a⟩;have i:=aB ((aA C).call a);have l:=a.rd.cell;have M:=a.rd.frozen;have x:=a.rd.lt;clear a;unfold aF at l)
     go_quiet(fail)
     go_wp2_with(go_at_call 166;refine(aA HC _ _ ((aA i).drewN _).rd (aA ab _ _ _ ((aA i).drewN _))).mono ?_;rintro e w2 ⟨rfl,Q,m⟩)
     go_ret2;rw[aA G];exact⟨rfl,Q,((aA i).drewN _).call m⟩
    |true=>
     simp only[if_true]at hfin;obtain⟨k,F,j,A,B⟩:=o.2 rfl;have ad:=lD t K;have ae:t.length≤400000000:=by omega
     have am:K.length≤100000000:=by simp only at B;omega
     have HZ:=aB (And.intro hfin (And.intro o.1 (And.intro F (And.intro j (And.intro A (And.intro B (And.intro d (And.intro v (And.intro p (And.intro q J))))))))));clear hfin D hy u d v p q z I P J h7 o S F j A B;go_wp2_with(go_at_call 105;refine(aA X).mono ?_;rintro e w1 ⟨rfl,L2,a⟩;have i:=aB ((aA C).call a);have l:=a.rd.cell;have M:=a.rd.frozen;have x:=a.rd.lt;clear a;unfold aF at l)
     go_quiet(fail)
     go_wp2_with(go_at_call 166;refine(aA HC _ _ ((aA i).drewN _).rd (aA ab _ _ _ ((aA i).drewN _))).mono ?_;rintro e w2 ⟨rfl,Q,m⟩;have a2:=aB (((aA i).drewN _).call m);clear m)
     obtain⟨hfin,o,F,j,A,B,d,v,p,q,J⟩:=aA HZ;have T:r.s=s.s:=(aA Z).s;have a3:r3.ot=r.ot:=by rw[A]
     have E:r3.at_=k:=by rw[A]
     go_roundg f
     case measure=>omega
     case rel=>exact⟨r3,t++K,c+1,Q,rfl,by rw[aa],by omega,by rw[a3];omega,hfin,by rw[E,←T];omega,(aA Z).trans o,by rw[E,List.length_append];omega,aA a2⟩
   rw[Bz H (by rw[D];exact I) (by rw[D];exact P) (by rw[D];exact h7) J]at hfin;have e4:((y.toNat:Int)==38)=false:=by simpa using h7
   have o:=gX H;have HC:=aB (fun(W:World) (L' :aH) (hW:aI W b r L')=>nR hW (aA Y) H);generalize S:Rf.character r=ch at *;obtain⟨r3,K,o3⟩:=ch;have a4:qU K=if(K==[10])||(K==[9])then[32]else K:=by simp[qU]
   simp only[a4]at hfin;cases o3 with
   |false=>
    simp only[Bool.false_eq_true,if_false]at hfin;have G:=aB hfin;cases v1:(K==[10])<;>cases v2:(K==[9])
    all_goals
     clear hfin D hy u d v p q z I P J h7 o S a4;go_wp2_with(go_at_call 105;refine(aA X).mono ?_;rintro e w1 ⟨rfl,L2,a⟩;have i:=aB ((aA C).call a);have l:=a.rd.cell;have M:=a.rd.frozen;have x:=a.rd.lt;clear a;unfold aF at l)
     go_quiet(fail)
     go_wp2_with(go_at_call 155;refine(aA HC _ _ ((aA i).drewN _).rd).mono ?_;rintro e w2 ⟨rfl,Q,m⟩)
     go_ret2;rw[aA G];exact⟨rfl,Q,((aA i).drewN _).call m⟩
   |true=>
    simp only[if_true]at hfin;obtain⟨k,F,j,A,B⟩:=o.2 rfl;have ad:=lD t K;have an:=lD t [32];have ae:t.length≤400000000:=by omega
    have am:K.length≤100000000:=by simp only at B;omega
    have HZ:=aB (And.intro hfin (And.intro o.1 (And.intro F (And.intro j (And.intro A (And.intro B (And.intro d (And.intro v (And.intro p (And.intro q J))))))))));cases v1:(K==[10])<;>cases v2:(K==[9])
    all_goals
     clear hfin D hy u d v p q z I P J h7 o S F j A B a4;go_wp2_with(go_at_call 105;refine(aA X).mono ?_;rintro e w1 ⟨rfl,L2,a⟩;have i:=aB ((aA C).call a);have l:=a.rd.cell;have M:=a.rd.frozen;have x:=a.rd.lt;clear a;unfold aF at l)
     go_quiet(fail)
     go_wp2_with(go_at_call 155;refine(aA HC _ _ ((aA i).drewN _).rd).mono ?_;rintro e w2 ⟨rfl,Q,m⟩;have a2:=aB (((aA i).drewN _).call m);clear m)
     obtain⟨hfin,o,F,j,A,B,d,v,p,q,J⟩:=aA HZ;rw[v1,v2]at hfin;simp only[Bool.or_false,Bool.or_true,Bool.false_eq_true,if_false,if_true]at hfin;have T:r.s=s.s:=(aA Z).s;have a3:r3.ot=r.ot:=by rw[j]
     have E:r3.at_=r.at_+k:=by rw[j]
     go_roundg f
     case measure=>omega
     case rel=>exact⟨r3,_,c+1,Q,rfl,by rw[aa],by omega,by rw[a3];omega,hfin,by rw[E,←T];omega,(aA Z).trans o,by rw[E,List.length_append];(try simp only[List.length_cons,List.length_nil]);omega,aA a2⟩
  rw[show Rf.ends r=({r with stop:=1},true) by simp[Rf.ends,H]]at X;rw[Bt H]at hfin;have G:=aB hfin;clear hfin u d v p q z;go_wp2_with(go_at_call 105;refine(aA X).mono ?_;rintro e w1 ⟨rfl,L2,a⟩)
  go_ret2;rw[aA G];exact⟨rfl,L2,(aA C).call a⟩
theorem qm(h:aI w b s L)(i:bT s)(j:s.at_<s.s.length)(f:s.s.length≤100000000)(l:bG w)(g:0<b):Calls Tryz.prog 158 #[.pointer (some ⟨b,0,none⟩)] w (kM w b s L (Rf.value s)):=by
 by_cases c:s.byte s.at_=34
 .have e:Rf.value s=cN 34 (s.s.length+1) {s with at_:=s.at_+1} [] 0:=by simp[Rf.value,c]
  rw[e];exact RD h i j c f l g
 by_cases d:s.byte s.at_=39
 .have e:Rf.value s=cN 39 (s.s.length+1) {s with at_:=s.at_+1} [] 0:=by simp[Rf.value,d]
  rw[e];exact J_ h i j d f l g
 have e:Rf.value s=(Rf.fail s 3,[],false):=by simp[Rf.value,c,d]
 rw[e];have o:=aB h;have q:=h.lt;have r:=h.cell;have v:=h.frozen;unfold aF at r;have x:=i.len;have t:(s.at_:Int)<(s.s.length:Int):=by omega
 obtain⟨k,a,p,m⟩:=bH s s.at_ j;have y:((k.toNat:Int)==34)=false:=by rw[←a];simpa using c
 have z:((k.toNat:Int)==39)=false:=by rw[←a];simpa using d
 have A:((k.toNat:Int) !=34)=true:=by rw[←a];simpa using c
 have B:((k.toNat:Int) !=39)=true:=by rw[←a];simpa using d
 clear h i j l a m c d;go_enter func158,ntmps158
 go_wp2
 go_quiet(fail)
 go_wp2_with(go_at_call 83;refine(bW ((aA o).start.drewN _).rd 3).mono ?_;rintro e w2 ⟨rfl,u,n⟩)
 go_ret2;exact⟨rfl,u,((aA o).start.drewN _).call n⟩
end
section
variable {w w' :World}{b:Nat}{s:R}{L:aH}
theorem bX.drew{w0:World}{r:R}{v:Value}{l:List aD}(h:bX w0 w b r L v l):bX w0 w.drew b r L v l:=⟨fP (r:=⟨69,3,v,l.length,aV l⟩) h.row (fun _ _=>rfl),h.nf⟩
def DoesA(w:World)(b:Nat)(s:R)(L:aH)(x:R×List aD×Bool)(e:Ending)(w' :World):Prop:=
 ∃L' v,e=.returned (.tuple #[v,.bool x.2.2])∧aL w b (aR s L) w' x.1 L' ∧bX w w' b x.1 L' v x.2.1
theorem tX(h:aI w b s L)(hl:bT s)(ad:1≤s.ot)(bb:0≤s.oa∧s.oa≤1000000)(av:s.s.length≤100000000)(hG:bG w)(ae:0<b):
 Calls Tryz.prog 110 #[.pointer (some ⟨b,0,none⟩)] w (DoesA w b s L (Rf.attributes s)):=by
 obtain⟨i0,hi,aw,ax,ay⟩:=info_parts infoAt;have HM:=aB h;have HL:=aB hl;have j:=h.lt;have az:=aB (fun(W:World) (r:R) (L' :aH) (hm:aL w b (aR s L) W r L')=>hG.mv h hm ae);have af:=Kp.refl hl.at_;obtain⟨F,M⟩:∃F,F=Rf.attributes s:=⟨_,rfl⟩;rw[←M];have C:=aB (show F=fQ (s.s.length+1) s []from M);have ag:Hid (((0:Nat):Int)≤s.oa):=(show((0:Nat):Int)≤s.oa by omega);clear h hl M hG;go_enter func110,ntmps110
 go_wp2_with fail
 go_loopg [4] (s.s.length+1) (fun g s4 wx=>∃(r:R) (L1:aH) (c:List aD),Hid (F=fQ g r c)∧s.s.length - r.at_<g∧Hid ((c.length:Int)≤s.oa)∧Hid (Kp s r)∧Hid (aL w b (aR s L) wx r L1)∧Hid (bX w wx b r L1 s4 c))
 case atStart=>exact⟨s,L,[],C,by omega,ag,aB af,aB (aA HM).start,aB (bX.nil _ _ _ _ _)⟩
 case round=>
  obtain⟨r,L1,c,ah,hg,Z,a2,t,A⟩:=hrel;have a3:=(aA a2).ok (aA HL);obtain⟨f,rfl⟩:∃f,gk=f+1:=⟨gk - 1,by omega⟩;have hfin:=aA ah;rw[qQ]at hfin;have S:=gb a3.at_;have z:=(aA a2).trans S;have a4:=aB (mU (aA t).rd a3);have b0:=(aA t).rd.cell;have bc:=(aA t).rd.frozen;unfold aF at b0;obtain⟨aa,ac,rfl⟩:=b_ (aA A).row;have be:=kO (aA A).row;obtain⟨q,hq⟩:∃q,q=Rf.aP r:=⟨_,rfl⟩;rw[←hq]at hfin a4 z S;have bf:=S.gz;have b1:=aB z;have J:=z.ok (aA HL);have a5:=aB J;have bg:=J.len;have b2:=J.at_;have bh:q.s.length=s.s.length:=by rw[z.s]
  have b3:q.oa=s.oa:=z.oa;have a0:q.ot=s.ot:=z.ot;have B:=aB (aA a4);clear a3 S z hq ah a2 C af a4 HM J ag;unfold nU at hfin;have D:=aB (fun(W:World) (L' :aH) (hW:aI W b q L') (x:Int)=>bW hW x);have K:=aB (fun(W:World) (L' :aH) (hW:aI W b q L')=>gy hW (aA a5));by_cases h3:q.at_<q.s.length
  .rw[if_pos h3]at hfin;have N:Rf.ends q=(q,false):=by unfold Rf.ends;rw[if_pos h3]
   have v:=K;rw[N]at v;clear K N;obtain⟨y,hb,bi,hy⟩:=bH q q.at_ h3;have bj:(q.at_:Int)<(q.s.length:Int):=by omega
   have bk:=lZ y;rw[hb]at hfin;cases h4:((y.toNat:Int)==47||(y.toNat:Int)==62)
   .rw[h4,if_neg (by decide)]at hfin;simp only[Bool.or_eq_false_iff]at h4;obtain⟨ai,b4⟩:=h4;have E:=aB (fun w=>pz (y.toNat:Int) w);cases h5:(decide (q.at_=r.at_)|| !Rf.eC (y.toNat:Int))
    .rw[h5,if_neg (by decide)]at hfin;simp only[Bool.or_eq_false_iff,Bool.not_eq_false']at h5;obtain⟨aj,ak⟩:=h5;rw[ak]at E;have e5:((q.at_:Int)==(r.at_:Int))=false:=by
      have:¬q.at_=r.at_:=by simpa using aj
      simp;omega
     clear aj ak;cases h6:((c.length:Int)==q.oa)
     .rw[h6,if_neg (by decide)]at hfin;have a6:=qO b2 (by rw[a0];exact ad) c;have a7:=aB (fun(W:World) (L' :aH) (hW:aI W b q L') (hB:bX w W b q L' (.slice aa c.length ac) c)=>JP hW (aA a5) h3 (by rw[a0];exact ad) c aa ac (hB.low j) hB.nf);generalize Rf.attrName q c=an at *;obtain⟨q2,nm,o⟩:=an;simp only at a6 hfin;cases o with
      |false=>
       have C:=aB (show F=(q2,[],false)from hfin);clear hfin a6 D hb hy
       go_wp2_with(first
        |(go_at_call 104;refine(aA B).mono ?_;rintro e w1 ⟨rfl,L2,d⟩;have i:=aB ((aA t).call d);have m:=aB ((aA A).call j d);clear d)
        |(go_at_call 105;refine(aA v _ _ (aA i).rd).mono ?_;rintro e w2 ⟨rfl,O,a⟩;have k:=aB ((aA i).call a).drew;have n:=aB ((aA m).call j a).drew;have hc3:=a.rd.cell;have G:=a.rd.frozen;unfold aF at hc3;clear a))
       go_region
       go_wp2_with(first
        |(go_at_call 82;refine(aA E _).mono ?_;rintro e w' ⟨rfl,P⟩;obtain rfl:=P.symm)
        |(go_at_call 157;refine(aA a7 _ _ (aA k).rd (aA n)).mono ?_;rintro e w4 ⟨rfl,T,l⟩;have p:=aB ((aA k).call l);have X:=aB ((aA n).call j l);clear l))
       go_ret2;have H:=aA C;subst H;exact⟨T,.slice none 0 0,rfl,aA p,bX.nil _ _ _ _ _⟩
      |true=>
       obtain⟨ka,kb⟩:=a6;obtain⟨k1,k2,k3⟩:=kb rfl;have a1:=ka.ok (aA a5);have Q:=(aA b1).trans ka;have al:=aB (fun(W:World) (L' :aH) (hW:aL w b (aR s L) W q2 L')=>qm hW.rd a1 (by rw[ka.s];exact k2) (by rw[Q.s];exact av) (aA az _ _ _ hW) ae);have a8:=qP (r:=q2) (by rw[ka.s];exact k2);simp only[if_true]at hfin;have a9:=Q.trans a8;have am:=a8.gz;generalize Rf.value q2=vx at *;obtain⟨q3,vv,o⟩:=vx;simp only at hfin a9 am;have b5:=aB a9;clear a1 Q a8 ka a9 kb;cases o with
       |false=>
        have C:=aB (show F=(q3,[],false)from hfin);clear hfin D hb hy
        go_wp2_with(first
         |(go_at_call 104;refine(aA B).mono ?_;rintro e w1 ⟨rfl,L2,d⟩;have i:=aB ((aA t).call d);have m:=aB ((aA A).call j d);clear d)
         |(go_at_call 105;refine(aA v _ _ (aA i).rd).mono ?_;rintro e w2 ⟨rfl,O,a⟩;have k:=aB ((aA i).call a).drew;have n:=aB ((aA m).call j a).drew;have hc3:=a.rd.cell;have G:=a.rd.frozen;unfold aF at hc3;clear a))
        go_region
        go_wp2_with(first
         |(go_at_call 82;refine(aA E _).mono ?_;rintro e w' ⟨rfl,P⟩;obtain rfl:=P.symm)
         |(go_at_call 157;refine(aA a7 _ _ (aA k).rd (aA n)).mono ?_;rintro e w4 ⟨rfl,T,l⟩;have p:=aB ((aA k).call l);have X:=aB ((aA n).call j l);clear l)
         |(go_at_call 158;refine(aA al _ _ (aA p)).mono ?_;rintro e w5 ⟨rfl,L5,I⟩;have Y:=aB ((aA p).call I);have ab:=aB ((aA X).call j I);clear I))
        go_ret2;have H:=aA C;subst H;exact⟨L5,.slice none 0 0,rfl,aA Y,bX.nil _ _ _ _ _⟩
       |true=>
        have C:=aB (show F=fQ f q3 (c++[⟨nm,[],vv⟩])from hfin);have ao:¬(c.length:Int)=q.oa:=by simpa using h6
        have ap:=aA Z;have b6:(c.length:Int)+1≤s.oa:=by rw[b3]at ao;omega
        have b7:Hid (((c++[⟨nm,[],vv⟩]:List aD).length:Int)≤s.oa):=(show _≤s.oa by rw[List.length_append];simp only[List.length_cons,List.length_nil];omega);have b8:=aB (show c.length+1≤maxLen by unfold maxLen;omega);have b9:Hid (s.s.length - q3.at_<f):=(show s.s.length - q3.at_<f by omega);have bl:c.length≤1000000:=by omega
        clear hfin D hb hy ao ap b6 am k1 k2 k3 Z hg
        go_wp2_with(first
         |(go_at_call 104;refine(aA B).mono ?_;rintro e w1 ⟨rfl,L2,d⟩;have i:=aB ((aA t).call d);have m:=aB ((aA A).call j d);clear d)
         |(go_at_call 105;refine(aA v _ _ (aA i).rd).mono ?_;rintro e w2 ⟨rfl,O,a⟩;have k:=aB ((aA i).call a).drew;have n:=aB ((aA m).call j a).drew;have hc3:=a.rd.cell;have G:=a.rd.frozen;unfold aF at hc3;clear a))
        go_region
        go_wp2_with(first
         |(go_at_call 82;refine(aA E _).mono ?_;rintro e w' ⟨rfl,P⟩;obtain rfl:=P.symm)
         |(go_at_call 157;refine(aA a7 _ _ (aA k).rd (aA n)).mono ?_;rintro e w4 ⟨rfl,T,l⟩;have p:=aB ((aA k).call l);have X:=aB ((aA n).call j l);clear l)
         |(go_at_call 158;refine(aA al _ _ (aA p)).mono ?_;rintro e w5 ⟨rfl,L5,I⟩;have Y:=aB ((aA p).call I);have ab:=aB ((aA X).call j I);clear I;have HO:=aB (World.ownsRow.alloc (aA ab).row (.cells #[.string ⟨nm.toArray⟩,.string ByteArray.empty,.string ⟨vv.toArray⟩] 69));have HB:=aB (show(w5.alloc (.cells #[.string ⟨nm.toArray⟩,.string ByteArray.empty,.string ⟨vv.toArray⟩] 69)).heap[w5.heap.size]?=_ from heap_alloc_new w5 _);have aq:=aB (show w.heap.size≤(w5.alloc (.cells #[.string ⟨nm.toArray⟩,.string ByteArray.empty,.string ⟨vv.toArray⟩] 69)).heap.size by have:=(aA Y).fr.size;simp;omega))
         |(at_builtin;refine wpList_append_lies _ rfl _ _ 63 rfl w.heap.size 69 i0 _ 3 48 underlying63 hi aw ax ay rfl (by decide) (.slice aa c.length ac) c.length (aV c) (by simp[Act.eval]) (aA HO) ⟨w5.heap.size,0,none⟩ 1 1 [.string ⟨nm.toArray⟩,.string ByteArray.empty,.string ⟨vv.toArray⟩] (by simp[Act.eval]) rfl (World.news_of_block (aA HB)) (by intro u hu;simp at hu;(repeat' (rcases hu with rfl|hu))<;>first|rfl|(subst hu;rfl)) (by decide) (aA b8) (by omega) (aA aq) (w5.heap.size+1) (by simp) ?_;intro g2 cap w6 hown hgrow ar ba;have au:=aB ((aA ab).push ⟨nm,[],vv⟩ j (aA Y) hown hgrow (by simpa using ar));clear hown hgrow ar HO HB aq))
        go_roundg f
        case measure=>omega
        case rel=>exact⟨q3,L5,c++[⟨nm,[],vv⟩],C,aA b9,b7,b5,aB (aA au).1,aB (aA au).2⟩
     .rw[h6,if_pos rfl]at hfin;have C:=aB hfin;clear hfin hb hy
      go_wp2_with(first
       |(go_at_call 104;refine(aA B).mono ?_;rintro e w1 ⟨rfl,L2,d⟩;have i:=aB ((aA t).call d);have m:=aB ((aA A).call j d);clear d)
       |(go_at_call 105;refine(aA v _ _ (aA i).rd).mono ?_;rintro e w2 ⟨rfl,O,a⟩;have k:=aB ((aA i).call a).drew;have n:=aB ((aA m).call j a).drew;have hc3:=a.rd.cell;have G:=a.rd.frozen;unfold aF at hc3;clear a))
      go_region
      go_wp2_with(first
       |(go_at_call 82;refine(aA E _).mono ?_;rintro e w' ⟨rfl,P⟩;obtain rfl:=P.symm)
       |(go_at_call 83;refine(aA D _ _ (aA k).rd _).mono ?_;rintro e w4 ⟨rfl,T,l⟩;have p:=aB ((aA k).call l);clear l))
      go_ret2;have H:=aA C;subst H;exact⟨T,.slice none 0 0,rfl,aA p,bX.nil _ _ _ _ _⟩
    .rw[h5,if_pos rfl]at hfin;have C:=aB hfin;clear hfin hb hy;by_cases h7:q.at_=r.at_
     .have e5:((q.at_:Int)==(r.at_:Int))=true:=by simp;omega
      clear h5 h7
      go_wp2_with(first
       |(go_at_call 104;refine(aA B).mono ?_;rintro e w1 ⟨rfl,L2,d⟩;have i:=aB ((aA t).call d);have m:=aB ((aA A).call j d);clear d)
       |(go_at_call 105;refine(aA v _ _ (aA i).rd).mono ?_;rintro e w2 ⟨rfl,O,a⟩;have k:=aB ((aA i).call a).drew;have n:=aB ((aA m).call j a).drew;have hc3:=a.rd.cell;have G:=a.rd.frozen;unfold aF at hc3;clear a))
      go_region
      go_wp2_with(first
       |(go_at_call 82;refine(aA E _).mono ?_;rintro e w' ⟨rfl,P⟩;obtain rfl:=P.symm)
       |(go_at_call 83;refine(aA D _ _ (aA k).rd _).mono ?_;rintro e w4 ⟨rfl,T,l⟩;have p:=aB ((aA k).call l);clear l))
      go_ret2;have H:=aA C;subst H;exact⟨T,.slice none 0 0,rfl,aA p,bX.nil _ _ _ _ _⟩
     .have e5:((q.at_:Int)==(r.at_:Int))=false:=by simp;omega
      have h8:Rf.eC (y.toNat:Int)=false:=by simpa[h7]using h5
      rw[h8]at E;clear h5 h7 h8
      go_wp2_with(first
       |(go_at_call 104;refine(aA B).mono ?_;rintro e w1 ⟨rfl,L2,d⟩;have i:=aB ((aA t).call d);have m:=aB ((aA A).call j d);clear d)
       |(go_at_call 105;refine(aA v _ _ (aA i).rd).mono ?_;rintro e w2 ⟨rfl,O,a⟩;have k:=aB ((aA i).call a).drew;have n:=aB ((aA m).call j a).drew;have hc3:=a.rd.cell;have G:=a.rd.frozen;unfold aF at hc3;clear a))
      go_region
      go_wp2_with(first
       |(go_at_call 82;refine(aA E _).mono ?_;rintro e w' ⟨rfl,P⟩;obtain rfl:=P.symm)
       |(go_at_call 83;refine(aA D _ _ (aA k).rd _).mono ?_;rintro e w4 ⟨rfl,T,l⟩;have p:=aB ((aA k).call l);clear l))
      go_ret2;have H:=aA C;subst H;exact⟨T,.slice none 0 0,rfl,aA p,bX.nil _ _ _ _ _⟩
   .rw[h4,if_pos rfl]at hfin;have C:=aB hfin;clear hfin D hb hy;cases ai:((y.toNat:Int)==47)
    .have b4:((y.toNat:Int)==62)=true:=by simpa[ai]using h4
     clear h4
     go_wp2_with(first
      |(go_at_call 104;refine(aA B).mono ?_;rintro e w1 ⟨rfl,L2,d⟩;have i:=aB ((aA t).call d);have m:=aB ((aA A).call j d);clear d)
      |(go_at_call 105;refine(aA v _ _ (aA i).rd).mono ?_;rintro e w2 ⟨rfl,O,a⟩;have k:=aB ((aA i).call a).drew;have n:=aB ((aA m).call j a).drew;have hc3:=a.rd.cell;have G:=a.rd.frozen;unfold aF at hc3;clear a))
     go_region
     go_wp2_with fail
     go_ret2;have H:=aA C;subst H;exact⟨O,.slice aa c.length ac,rfl,aA k,aA n⟩
    .clear h4
     go_wp2_with(first
      |(go_at_call 104;refine(aA B).mono ?_;rintro e w1 ⟨rfl,L2,d⟩;have i:=aB ((aA t).call d);have m:=aB ((aA A).call j d);clear d)
      |(go_at_call 105;refine(aA v _ _ (aA i).rd).mono ?_;rintro e w2 ⟨rfl,O,a⟩;have k:=aB ((aA i).call a).drew;have n:=aB ((aA m).call j a).drew;have hc3:=a.rd.cell;have G:=a.rd.frozen;unfold aF at hc3;clear a))
     go_region
     go_wp2_with fail
     go_ret2;have H:=aA C;subst H;exact⟨O,.slice aa c.length ac,rfl,aA k,aA n⟩
  rw[if_neg h3]at hfin;have C:=aB hfin;have N:Rf.ends q=({q with stop:=1},true):=by unfold Rf.ends;rw[if_neg h3]
  have v:=K;rw[N]at v;clear K N hfin D
  go_wp2_with(first
   |(go_at_call 104;refine(aA B).mono ?_;rintro e w1 ⟨rfl,L2,d⟩;have i:=aB ((aA t).call d);clear d)
   |(go_at_call 105;refine(aA v _ _ (aA i).rd).mono ?_;rintro e w2 ⟨rfl,O,a⟩;have k:=aB ((aA i).call a);clear a))
  go_ret2;have H:=aA C;subst H;exact⟨O,.slice none 0 0,rfl,aA k,bX.nil _ _ _ _ _⟩
end
end Go.Proofs.YtmgfijllcdadgaaGreatDoor.V
