import Derived.Test.YtmgfijllcdadgaaGreatDoorNW03
import Derived.Test.YtmgfijllcdadgaaGreatDoorNW02
set_option linter.unusedVariables false
set_option linter.unusedSimpArgs false
set_option maxHeartbeats 4000000
set_option maxRecDepth 100000
namespace Go.Proofs.YtmgfijllcdadgaaGreatDoor
open Go.RowKit
open Mk (Bs)
open Mk (St Bs Ev aD)
open Tryz
open Mk (eT Pp iq iM eP cQ ja iy cW jo mH gN fN)
variable {b cap:Nat}{w:World}{s:St}{L:Lay}
theorem uW(b:Int)(c:0≤b)(d:b≤255)(g:Nat)(W:World)(h:W.cell? ⟨g,0,none⟩=some (.int .u8 b)):
 (convert 74 9 (.slice (some ⟨g,0,none⟩) 1 1)).run Tryz.prog W=.ok (.string ⟨[Mk.u8 b].toArray⟩) W:=by
 refine run_convert_bytes_back W _ _ _ _ _ [Mk.u8 b] underlying74 underlying5 underlying9 fun j a=>?_
 have:j=0:=by simpa using a
 subst this;have e:((Mk.u8 b).toNat:Int)=b:=by
  unfold Mk.u8;rw[UInt8.toNat_ofNat'];omega
 simpa[Addr.add,e]using h
theorem ET(p:Int)(n:Bs)(c b:Int)(I:0≤b)(J:b≤255)(S:n.length≤20)(w:World)(K:Gl w)(T:2<w.heap.size):
 Calls Tryz.prog 181 #[.agg #[.int .i64 p,.string ⟨n.toArray⟩,.int .i64 c],.int .u8 b] w fun e w' =>e=.returned (bB (Mk.letter n b))∧Below w.heap.size w w' :=by
 obtain⟨t,g2⟩:=K;have L:1<w.heap.size:=by omega
 have M:∀f g h j,(((w.alloc f).alloc g).alloc h).cell? ⟨1,j,none⟩=w.cell? ⟨1,j,none⟩:=fun f g h j=>by
  simp only[World.cell?];rw[Below.heap_alloc _ _ _ (by simp<;>omega),Below.heap_alloc _ _ _ (by simp<;>omega),Below.heap_alloc _ _ _ (by omega)]
 have N:∀f g h j,(((w.alloc f).alloc g).alloc h).cell? ⟨2,j,none⟩=w.cell? ⟨2,j,none⟩:=fun f g h j=>by
  simp only[World.cell?];rw[Below.heap_alloc _ _ _ (by simp<;>omega),Below.heap_alloc _ _ _ (by simp<;>omega),Below.heap_alloc _ _ _ (by omega)]
 have D:0<w.heap.size:=by omega
 have E:1<w.heap.size:=by omega
 obtain⟨r,l⟩:∃r,Mk.letter n b=r:=⟨_,rfl⟩;rw[l];obtain⟨nm,a⟩:∃nm,n++[Mk.u8 b]=nm:=⟨_,rfl⟩;have F:(⟨n.toArray⟩:ByteArray)++(⟨#[Mk.u8 b]⟩:ByteArray)=⟨nm.toArray⟩:=by
  rw[←a];apply ByteArray.ext;simp
 have O:nm.length≤21:=by rw[←a];simp;omega
 unfold Mk.letter at l;rw[a]at l;have u:=aB l;clear l a;have y:=uW b I J (w.heap.size+1+1) (((w.alloc (.cells #[.int .i64 p,.string ⟨n.toArray⟩,.int .i64 c] 89)).alloc (.cells #[.int .i64 0,.string ⟨#[]⟩,.int .i64 0] 89)).alloc (.cells #[.int .u8 b] 5)) (by simp[go_sem]);go_enter func181,ntmps181
 go_wp2
 go_loop [7] (fun i=>∃k:Nat,k≤5∧i=.int .i64 k∧Hid (r=Mk.lM nm (Mk.fJ.drop k))) (fun i=>5 - (intOf i).toNat)
 case atStart=>exact⟨0,by omega,rfl,(aA u).symm⟩
 case round=>
  obtain⟨k,X,rfl,o⟩:=hrel;by_cases z:k<5
  .obtain⟨x,P,G,H,Y,A⟩:=ES nm k z;have Q:=t k;have R:=g2 k;rw[G]at Q;rw[H]at R;rw[←aA o]at A;have B:=aB A;have q:=aB (fun w=>si x nm (by omega) (by omega) w);clear G H A y t g2 u o;cases C:(x==nm)
   .cases s:nm.isPrefixOf x
    .rw[s]at q;go_wp2_with(go_at_call 214;refine(aA q _).mono ?_;rintro e w' ⟨rfl,rfl⟩)
     go_round
     case rel=>exact⟨k+1,by omega,by go_num,by have:=aA B;rw[if_neg (by simpa using C),if_neg (by simp[s])]at this;exact this⟩
     case measure=>simp[intOf];omega
    rw[s]at q;go_wp2_with(go_at_call 214;refine(aA q _).mono ?_;rintro e w' ⟨rfl,rfl⟩)
    have d:=aA B;rw[if_neg (by simpa using C),if_pos s]at d;subst d;exact bodyPost_ret (v:=bB (some ⟨2,nm,0⟩)) (by simp[results,Tryz.results181,go_sem,bB,dA]) rfl ⟨rfl,by repeat(first|exact Below.refl _ _|refine Below.alloc ?_ (by simp<;>omega) _)⟩
   go_wp2
   have d:=aA B;rw[if_pos (by simpa using C)]at d;subst d;exact bodyPost_ret (v:=bB (some ⟨7,[],P⟩)) (by simp[results,Tryz.results181,go_sem,bB,dA]) rfl ⟨rfl,by repeat(first|exact Below.refl _ _|refine Below.alloc ?_ (by simp<;>omega) _)⟩
  have m:k=5:=by omega
  have d:r=none:=by have:=aA o;rw[m]at this;exact this
  subst d;clear o u t g2 m;go_wp2
  exact bodyPost_ret (v:=bB none) (by simp[results,Tryz.results181,go_sem,bB,dA]) rfl ⟨rfl,by repeat(first|exact Below.refl _ _|refine Below.alloc ?_ (by simp<;>omega) _)⟩
theorem sj{W w1:World}(a:Below W.heap.size W w1):(∀b o,b<W.heap.size→w1.cell? ⟨b,o,none⟩=W.cell? ⟨b,o,none⟩)∧(∀b o,b<W.heap.size→w1.frozen? ⟨b,o,none⟩=W.frozen? ⟨b,o,none⟩):=
 ⟨fun b o h=>a.cell (p:=⟨b,o,none⟩) h,fun b o h=>a.frozen (p:=⟨b,o,none⟩) h⟩
theorem EU(p:Int)(n:Bs)(c b:Int)(u:0≤b)(x:b≤255)(C:n.length≤20)(z:0≤c)(A:c≤1114111)(w:World)(B:Gl w)(D:2<w.heap.size):
 Calls Tryz.prog 129 #[.agg #[.int .i64 p,.string ⟨n.toArray⟩,.int .i64 c],.int .u8 b] w fun e w' =>e=.returned (bB (eT ⟨p,n,c⟩ b))∧Below w.heap.size w w' :=by
 have k:Below w.heap.size w ((w.alloc (.cells #[.int .i64 p,.string ⟨n.toArray⟩,.int .i64 c] 89)).alloc (.cells #[.int .i64 0,.string ⟨#[]⟩,.int .i64 0] 89)):=((Below.refl _ _).alloc (Nat.le_refl _) _).alloc (by simp) _;have j:=aB k;have t:=aB (ET p n c b u x C _ (B.below D k) (by simp<;>omega));have i:=aB (fun base place d w=>yQ p n c b base place u x z A d w);have g:=aB (fun base place d w=>ER p n c b base place u x z A d w);clear B k;by_cases f:p=1
 .subst f;cases s:(b==35)
  .have a:eT ⟨1,n,c⟩ b=Mk.letter n b:=by simp[eT,s]
   rw[a];clear a i g;generalize Mk.letter n b=o at *;go_enter func129,ntmps129
   go_wp2_with(go_at_call 181;refine(aA t).mono ?_;rintro e w1 ⟨rfl,d⟩;have l:=aB d;obtain⟨m,y⟩:=sj d;have h:=d.size;simp at h;clear d;simp only[bB,dA])
   exact bodyPost_ret (v:=bB o) (by simp[results,Tryz.results129,go_sem,bB,dA,m,h]) rfl ⟨rfl,((((aA j).trans ((aA l).mono (by simp<;>omega))).setCell (by simp) _).setCell (by simp) _).setCell (by simp) _⟩
  have a:eT ⟨1,n,c⟩ b=some ⟨3,[],0⟩:=by simp[eT,s]
  rw[a];clear a i g t;go_enter func129,ntmps129
  go_wp2
  exact bodyPost_ret (v:=bB (some ⟨3,[],0⟩)) (by simp[results,Tryz.results129,go_sem,bB,dA]) rfl ⟨rfl,by repeat(first|exact Below.refl _ _|refine Below.alloc ?_ (by simp<;>omega) _)⟩
 have E:(p==1)=false:=by rw[beq_eq_false_iff_ne];exact f
 clear f;by_cases f:p=2
 .subst f
  .have a:eT ⟨2,n,c⟩ b=Mk.letter n b:=by simp[eT]
   rw[a];clear a i g;generalize Mk.letter n b=o at *;go_enter func129,ntmps129
   go_wp2_with(go_at_call 181;refine(aA t).mono ?_;rintro e w1 ⟨rfl,d⟩;have l:=aB d;obtain⟨m,y⟩:=sj d;have h:=d.size;simp at h;clear d;simp only[bB,dA])
   exact bodyPost_ret (v:=bB o) (by simp[results,Tryz.results129,go_sem,bB,dA,m,h]) rfl ⟨rfl,((((aA j).trans ((aA l).mono (by simp<;>omega))).setCell (by simp) _).setCell (by simp) _).setCell (by simp) _⟩
 have F:(p==2)=false:=by rw[beq_eq_false_iff_ne];exact f
 clear f t;by_cases f:p=3
 .subst f;cases s:(b==120)
  .have a:eT ⟨3,n,c⟩ b=Pp c b 10 5:=by simp[eT,s]
   rw[a];have q:=aB (fun w=>(aA i) 10 5 (.inl rfl) w);clear a i g;generalize Pp c b 10 5=o at *;go_enter func129,ntmps129
   go_wp2_with(go_at_call 182;refine(aA q _).mono ?_;rintro e w1 ⟨rfl,rfl⟩;simp only[bB,dA])
   exact bodyPost_ret (v:=bB o) (by simp[results,Tryz.results129,go_sem,bB,dA]) rfl ⟨rfl,by repeat(first|exact Below.refl _ _|refine Below.alloc ?_ (by simp<;>omega) _)⟩
  have a:eT ⟨3,n,c⟩ b=some ⟨4,[],0⟩:=by simp[eT,s]
  rw[a];clear a i g;go_enter func129,ntmps129
  go_wp2
  exact bodyPost_ret (v:=bB (some ⟨4,[],0⟩)) (by simp[results,Tryz.results129,go_sem,bB,dA]) rfl ⟨rfl,by repeat(first|exact Below.refl _ _|refine Below.alloc ?_ (by simp<;>omega) _)⟩
 have G:(p==3)=false:=by rw[beq_eq_false_iff_ne];exact f
 clear f;by_cases f:p=5
 .subst f
  .have a:eT ⟨5,n,c⟩ b=iq c b 10 5:=by simp[eT]
   rw[a];have r:=aB (fun w=>(aA g) 10 5 (.inl rfl) w);clear a i g;generalize iq c b 10 5=o at *;go_enter func129,ntmps129
   go_wp2_with(go_at_call 183;refine(aA r _).mono ?_;rintro e w1 ⟨rfl,d⟩;have l:=aB d;obtain⟨m,y⟩:=sj d;have h:=d.size;simp at h;clear d;simp only[bB,dA])
   exact bodyPost_ret (v:=bB o) (by simp[results,Tryz.results129,go_sem,bB,dA,m,h]) rfl ⟨rfl,((((aA j).trans ((aA l).mono (by simp<;>omega))).setCell (by simp) _).setCell (by simp) _).setCell (by simp) _⟩
 have H:(p==5)=false:=by rw[beq_eq_false_iff_ne];exact f
 clear f;by_cases f:p=4
 .subst f
  .have a:eT ⟨4,n,c⟩ b=Pp c b 16 6:=by simp[eT]
   rw[a];have q:=aB (fun w=>(aA i) 16 6 (.inr rfl) w);clear a i g;generalize Pp c b 16 6=o at *;go_enter func129,ntmps129
   go_wp2_with(go_at_call 182;refine(aA q _).mono ?_;rintro e w1 ⟨rfl,rfl⟩;simp only[bB,dA])
   exact bodyPost_ret (v:=bB o) (by simp[results,Tryz.results129,go_sem,bB,dA]) rfl ⟨rfl,by repeat(first|exact Below.refl _ _|refine Below.alloc ?_ (by simp<;>omega) _)⟩
 have I:(p==4)=false:=by rw[beq_eq_false_iff_ne];exact f
 clear f i;by_cases f:p=6
 .subst f
  .have a:eT ⟨6,n,c⟩ b=iq c b 16 6:=by simp[eT]
   rw[a];have r:=aB (fun w=>(aA g) 16 6 (.inr rfl) w);clear a g;generalize iq c b 16 6=o at *;go_enter func129,ntmps129
   go_wp2_with(go_at_call 183;refine(aA r _).mono ?_;rintro e w1 ⟨rfl,d⟩;have l:=aB d;obtain⟨m,y⟩:=sj d;have h:=d.size;simp at h;clear d;simp only[bB,dA])
   exact bodyPost_ret (v:=bB o) (by simp[results,Tryz.results129,go_sem,bB,dA,m,h]) rfl ⟨rfl,((((aA j).trans ((aA l).mono (by simp<;>omega))).setCell (by simp) _).setCell (by simp) _).setCell (by simp) _⟩
 have J:(p==6)=false:=by rw[beq_eq_false_iff_ne];exact f
 clear f g;have a:eT ⟨p,n,c⟩ b=none:=by simp[eT,E,F,G,I,H,J]
 rw[a];clear a;go_enter func129,ntmps129
 go_wp2
 exact bodyPost_ret (v:=bB none) (by simp[results,Tryz.results129,go_sem,bB,dA]) rfl ⟨rfl,by repeat(first|exact Below.refl _ _|refine Below.alloc ?_ (by simp<;>omega) _)⟩
theorem yR{c:Int}(h:iM c=true):0≤c∧c≤1114111:=by
 unfold iM at h;repeat' split at h
 all_goals simp at h
 all_goals omega
def Pt(c l:Int):Prop:=0≤c∧0≤l∧l≤3∧(l=3→c≤7)∧(l=2→c≤271)∧(l=1→c≤17407)∧c≤1114111
theorem EV{b:Int}{p:Int×Int}(a:0≤b)(c:b≤255)(h:eP b=some p):Pt p.1 p.2:=by
 unfold eP at h;repeat' split at h
 all_goals first|(cases h;simp[Pt];omega)|cases h
theorem yS{c l b:Int}{p:Int×Int}(e:Pt c l)(g:0<l)(h:cQ c l b=some p):Pt p.1 p.2:=by
 obtain⟨i,j,k,m,n,o,q⟩:=e;unfold cQ at h;split at h
 .cases h
 split at h
 .rename_i a;cases h;simp only[Pt];unfold Mk.ij at a;split at a
  .rename_i d;simp at a d;omega
  split at a
  .rename_i d;simp at a d;omega
  have:=yR a;rename_i f d;simp at d f;omega
 cases h
theorem EW(h:aK w b s L)(x:Int)(t:0≤x)(u:x≤255)(c:Pt s.pc s.pl)(v:0<s.pl)(y:s.text.length≤100000000000)(z:s.token.length≤100000000000)(A:0≤s.count)(B:s.count≤100000000000):
 Calls Tryz.prog 93 #[.pointer (some ⟨b,0,none⟩),.int .u8 x] w fun e w' =>e=.returned (.int .i64 (ja s x).2)∧∃L', Mv w b (aJ s L) w' (ja s x).1 L' :=by
 have j:=aB (yK s.pc s.pl x t u c.1 (Int.le_trans c.2.2.2.2.2.2 (by decide)) c.2.1 c.2.2.1 w);have o:=aB h;have q:=h.cell;have C:=h.lt;unfold cellsOf at q;cases g:cQ s.pc s.pl x with
 |none=>
  rw[g]at j;have i:ja s x=(s,2):=by simp[ja,g]
  rw[i];clear h i c;go_enter func93,ntmps93
  go_wp2_with(go_at_call 127;refine(aA j).mono ?_;rintro e w1 ⟨rfl,a⟩)
  go_ret;exact⟨rfl,L,(((aA o).start.below a).alloc _)⟩
 |some p=>
  have d:=yS c v g;obtain⟨pc,pl⟩:=p;rw[g]at j;obtain⟨r,i⟩:∃r,r=Mk.jK s (pc,pl):=⟨_,rfl⟩;have k:ja s x=(r,0):=by rw[i];simp[ja,g]
  rw[k];have D:=aB i;clear i k g h;go_enter func93,ntmps93
  go_wp2_with fail
  refine(aA j).mono ?_;rintro e w1 ⟨rfl,a⟩;have f:=((aA o).start.below a).alloc (.cells #[.int .i64 pc,.int .i64 pl] 87);have E:=aB (yM f.rd pc pl d.1 (fun _=>d.2.2.2.2.2.2) (Nat.le_trans y (by decide)) (Nat.le_trans z (by decide)) A (Int.le_trans B (by decide)));have m:=aB f;clear f q d j c;go_wp2_with(go_at_call 128;refine(aA E).mono ?_;rintro e w3 ⟨rfl,F,l⟩;have n:=aB l;clear l)
  go_ret;rw[aA D];exact⟨rfl,F,(aA m).call (aA n)⟩
theorem EX(h:aK w b s L)(x:Int)(C:0≤x)(D:x≤255)(B:Gl w)(E:2<b)(F:s.rn.length≤20)(G:0≤s.rc)(H:s.rc≤1114111)(I:s.text.length≤100000000000)(J:s.token.length≤100000000000)(K:0≤s.count)(M:s.count≤100000000000)
 (t:∀r,eT ⟨s.rp,s.rn,s.rc⟩ x=some r→0≤r.code∧r.code≤1114111):
 Calls Tryz.prog 95 #[.pointer (some ⟨b,0,none⟩),.int .u8 x] w fun e w' =>e=.returned (.int .i64 (iy s x).2)∧∃L', Mv w b (aJ s L) w' (iy s x).1 L' :=by
 have N:=h.lt;have l:=aB (EU s.rp s.rn s.rc x C D F G H w B (by omega));have v:=aB h;have y:=h.cell;unfold cellsOf at y;clear B;cases k:eT ⟨s.rp,s.rn,s.rc⟩ x with
 |none=>
  rw[k]at l;have o:iy s x=(s,4):=by simp[iy,k]
  rw[o];clear h o t;go_enter func95,ntmps95
  go_wp2_with(go_at_call 129;refine(aA l).mono ?_;rintro e w1 ⟨rfl,c⟩;simp only[bB,dA,Option.map_none,Option.getD_none,Option.isSome_none])
  go_ret;exact⟨rfl,L,(((aA v).start.below c).alloc _)⟩
 |some r=>
  have g:=t r k;obtain⟨rp,rn,d⟩:=r;rw[k]at l;simp only at g;cases u:Mk.isOpen rp
  .obtain⟨r,o⟩:∃r,r=Mk.put (Mk.setRef s ⟨rp,rn,d⟩) d:=⟨_,rfl⟩;have i:iy s x=(r,0):=by rw[o];simp[iy,k,u]
   rw[i];have O:=aB o;clear o i k h t;go_enter func95,ntmps95
   go_wp2_with fail
   refine(aA l).mono ?_;rintro e w1 ⟨rfl,c⟩;simp only[bB,dA,Option.map_some,Option.getD_some,Option.isSome_some];have a:=(aA v).start.below c;have m:=a.rd.cell;have z:=a.rd.frozen;have p:=a.rd.lt;have j:=((((a.store 20 (.int .i64 rp) {s with rp:=rp} rfl rfl rfl).store 21 (.string ⟨rn.toArray⟩) {s with rp:=rp,rn:=rn} rfl rfl rfl).store 22 (.int .i64 d) (Mk.setRef s ⟨rp,rn,d⟩) rfl rfl rfl).alloc (.cells #[.int .i64 rp,.string ⟨rn.toArray⟩,.int .i64 d] 89));have f:=(j.alloc (.cells #[.int .i64 rp,.string ⟨rn.toArray⟩,.int .i64 d] 89)).alloc (.cells #[.int .i64 rp,.string ⟨rn.toArray⟩,.int .i64 d] 89);have P:=aB (oV f.rd d g.1 g.2 (Nat.le_trans I (by decide)) (Nat.le_trans J (by decide)) K (Int.le_trans M (by decide)));have n:=aB f;have q:=aB (fun w=>uV rp rn d w);rw[u]at q;unfold cellsOf at m;clear a j f y g l
   go_wp2_with(first
    |(go_at_call 94;refine(aA q _).mono ?_;rintro e w2 ⟨rfl,rfl⟩)
    |(go_at_call 131;refine(EQ _ _ _ _).mono ?_;rintro e w2 ⟨rfl,rfl⟩)
    |(go_at_call 130;refine(aA P).mono ?_;rintro e w3 ⟨rfl,Q,f⟩;have A:=aB f;clear f))
   go_ret;rw[aA O];exact⟨rfl,Q,(aA n).call (aA A)⟩
  have i:iy s x=(Mk.setRef s ⟨rp,rn,d⟩,0):=by simp[iy,k,u]
  rw[i];clear i k h t;go_enter func95,ntmps95
  go_wp2_with fail
  refine(aA l).mono ?_;rintro e w1 ⟨rfl,c⟩;simp only[bB,dA,Option.map_some,Option.getD_some,Option.isSome_some];have a:=(aA v).start.below c;have m:=a.rd.cell;have z:=a.rd.frozen;have p:=a.rd.lt;have j:=((((a.store 20 (.int .i64 rp) {s with rp:=rp} rfl rfl rfl).store 21 (.string ⟨rn.toArray⟩) {s with rp:=rp,rn:=rn} rfl rfl rfl).store 22 (.int .i64 d) (Mk.setRef s ⟨rp,rn,d⟩) rfl rfl rfl).alloc (.cells #[.int .i64 rp,.string ⟨rn.toArray⟩,.int .i64 d] 89));have n:=aB (j.alloc (.cells #[.int .i64 rp,.string ⟨rn.toArray⟩,.int .i64 d] 89));have q:=aB (fun w=>uV rp rn d w);rw[u]at q;unfold cellsOf at m;clear a j y g l;go_wp2_with(go_at_call 94;refine(aA q _).mono ?_;rintro e w2 ⟨rfl,rfl⟩)
  go_ret;exact⟨rfl,L,aA n⟩
structure Bd(s:St):Prop where
 hx:s.text.length≤100000000
 ht:s.token.length≤100000000
 c0:0≤s.count
 c1:s.count≤100000000
 hl:s.list.length≤700000000
 ho:s.opn.length≤100000000
 ha:s.aC.length≤32
 hh:s.held.length≤2
 pt:Pt s.pc s.pl
 rn:s.rn.length≤5
 r0:0≤s.rc
 r1:s.rc≤1114111
 m0:0≤s.matched
 m1:s.matched≤100000000
 am:s.am=false
 hb:s.aG.length≤290000000
 hc:s.cnt.length≤100000000
 cb:∀c∈s.cnt,c≤32
 hn:s.name.length≤100000000
 an:∀a∈s.aC,a.name.length≤100000000
def Does(w:World)(b:Nat)(s:St)(L:Lay)(r:St×Int)(e:Ending)(w' :World):Prop:=
 e=.returned (.int .i64 r.2)∧∃L', Mv w b (aJ s L) w' r.1 L'
theorem mL(h:aK w b s L)(a:Bd s)(x:Int)(c:0≤x)(d:x≤255):
 Calls Tryz.prog 134 #[.pointer (some ⟨b,0,none⟩),.int .u8 x] w (Does w b s L (cW s x)):=
 EP h x c d (by have:=a.hh;omega) (by have:=a.hx;omega) (by have:=a.ht;omega) a.c0 (by have:=a.c1;omega)
theorem EY(h:aK w b s L)(x:Int):
 Calls Tryz.prog 141 #[.pointer (some ⟨b,0,none⟩),.int .u8 x] w (Does w b s L (jo s x)):=by
 have f:=h.cell;have i:=h.frozen;have g:=h.lt;have e:=aB h;unfold cellsOf at f;clear h;cases a:(x==45)
 .have c:jo s x=(s,3):=by simp[jo,a]
  rw[c];have d:(x !=45)=true:=by simp at a⊢;exact a
  go_enter func141,ntmps141
  go_wp2
  go_ret;exact⟨rfl,L,(aA e).start⟩
 have c:jo s x=({s with state:=7},0):=by simp[jo,a]
 rw[c];have d:(x !=45)=false:=by simp at a⊢;exact a
 go_enter func141,ntmps141
 go_wp2
 go_ret;exact⟨rfl,L,(aA e).start.store 4 _ _ rfl rfl rfl⟩
theorem EZ(h:aK w b s L)(l:Bd s):
 Calls Tryz.prog 135 #[.pointer (some ⟨b,0,none⟩)] w fun e w' =>e=.returned (.tuple #[])∧∃L', Mv w b (aJ s L) w' (mH s) L' :=by
 have m:=h.cell;have p:=h.frozen;have q:=h.lt;have a:=h.start.store 15 (.string ⟨#[]⟩) {s with held:=[]} rfl rfl rfl;have n:=aB (oZ a.rd);have f:=aB a;unfold cellsOf at m;clear h a;go_enter func135,ntmps135
 go_wp2_with fail
 refine(aA n).mono ?_;rintro e w1 ⟨rfl,u,c⟩;have o:=aB (add_nil c.rd ⟨4,[],[],s.token,[]⟩ rfl (Nat.le_trans l.hx (by decide)) (Nat.le_trans l.hl (by decide)));have g:=aB ((aA f).call c);clear c n f m p;go_wp2_with fail
 refine(aA o).mono ?_;rintro e w2 ⟨rfl,r,d⟩;have t:=aB (qo d.rd);have j:=aB ((aA g).call d);clear d o g;go_wp2_with(go_at_call 189;refine(aA t).mono ?_;rintro e w3 ⟨rfl,i⟩;have k:=aB i;clear i)
 go_end0
 exact⟨rfl,r,(aA j).call (aA k)⟩
theorem yT(l:Bs)(x:UInt8):(⟨l.toArray⟩:ByteArray)++(⟨#[x]⟩:ByteArray)=⟨(l++[x]).toArray⟩:=by
 apply ByteArray.ext;simp
theorem QG(h:aK w b s L)(f:Bd s)(x:Int)(p:0≤x)(q:x≤255):
 Calls Tryz.prog 99 #[.pointer (some ⟨b,0,none⟩),.int .u8 x] w (Does w b s L (gN s x)):=by
 have r:=h.cell;have u:=h.frozen;have t:=h.lt;have v:=f.hh;have m:=aB h;have j:=aB (EZ h f);have k:=aB (mL h f x p q);have n:=yT s.held 45;unfold cellsOf at r;clear h;cases o:(s.held==[45,45])
 .have d:s.held≠[45,45]:=by simpa using o
  cases i:(x==45)
  .have a:gN s x=cW s x:=by
    have:x≠45:=by simpa using i
    simp[gN,d,this]
   rw[a];clear a d j f;go_enter func99,ntmps99
   go_wp2_with(go_at_call 134;refine(aA k).mono ?_;rintro e w1 ⟨rfl,l,c⟩;have g:=aB c;clear c)
   go_ret;exact⟨rfl,l,aA g⟩
  have a:gN s x=({s with held:=s.held++[45]},0):=by
   have:x=45:=by simpa using i
   simp[gN,d,this]
  rw[a];clear a d j f k;go_enter func99,ntmps99
  go_wp2
  go_ret;exact⟨rfl,L,(aA m).start.store 15 _ _ rfl rfl rfl⟩
 have d:s.held=[45,45]:=by simpa using o
 cases i:(x==62)
 .have a:gN s x=(s,3):=by
   have:x≠62:=by simpa using i
   simp[gN,d,this]
  rw[a];clear a d j f k;go_enter func99,ntmps99
  go_wp2
  go_ret;exact⟨rfl,L,(aA m).start⟩
 have a:gN s x=(mH s,0):=by
  have:x=62:=by simpa using i
  simp[gN,d,this]
 rw[a];clear a d f k;go_enter func99,ntmps99
 go_wp2_with(go_at_call 135;refine(aA j).mono ?_;rintro e w1 ⟨rfl,l,c⟩;have g:=aB c;clear c)
 go_ret;exact⟨rfl,l,aA g⟩
theorem qp{g:Type}(a b c d e f:g)(l:List g):(a::b::c::d::e::f::l).Perm (f::a::b::c::d::e::l):=((qi b c d e f l).cons a).trans (jd a f _)
theorem su{h:Type}(a b c d e f g:h)(l:List h):(a::b::c::d::e::f::g::l).Perm (g::a::b::c::d::e::f::l):=((qp b c d e f g l).cons a).trans (jd a g _)
section
variable {w0 w w' :World}{b:Nat}{f0:List Nat}{s:St}{L:Lay}
theorem Mv.QH(m:Mv w0 b f0 w s L)(x:Bs×Bs){g:Nat}(hown:w'.ownsRow (b - 1) 139 2 (.slice (some ⟨g,0,none⟩) (s.aG.length+1) cap) (s.aG.length+1) (dS s.aG++lS x))
 (c:w.grownBy w' (bM s L).v.ownBlock) (a:(Value.slice L.ba s.aG.length L.bc).ownBlock=some g∨g=w.heap.size):
 Mv w0 b f0 (w'.setCell ⟨b,7,none⟩ (.slice (some ⟨g,0,none⟩) (s.aG.length+1) cap)) {s with aG:=s.aG++[x]} {L with ba:=some ⟨g,0,none⟩,bc:=cap}:=by
 refine m.grow (r:=bM s L) (r' :=bM {s with aG:=s.aG++[x]} {L with ba:=some ⟨g,0,none⟩,bc:=cap}) (rs:=bE s L::bQ s L::bD s L::bJ s L::cA s L::bS s L::L.es.map aN) 7 _ (qp _ _ _ _ _ _ _) (qp _ _ _ _ _ _ _) ?_ c ?_ ?_ m.rd.evs
 .show World.ownsRow _ _ _ _ _ _ _;simp only[bM,List.length_append,List.length_cons,List.length_nil,Nat.zero_add,dS,List.flatMap_append,List.flatMap_cons,List.flatMap_nil,List.append_nil];exact hown
 .rcases a with h|h
  .exact .inl h.symm
  exact .inr (by rw[h];rfl)
 simp[cellsOf]
theorem Mv.QI(m:Mv w0 b f0 w s L)(x:Nat){g:Nat}(hown:w'.ownsRow (b - 1) 3 1 (.slice (some ⟨g,0,none⟩) (s.cnt.length+1) cap) (s.cnt.length+1) (s.cnt.map nv++[.int .i64 (x:Int)]))
 (c:w.grownBy w' (bS s L).v.ownBlock) (a:(Value.slice L.ca s.cnt.length L.cc).ownBlock=some g∨g=w.heap.size):
 Mv w0 b f0 (w'.setCell ⟨b,8,none⟩ (.slice (some ⟨g,0,none⟩) (s.cnt.length+1) cap)) {s with cnt:=s.cnt++[x]} {L with ca:=some ⟨g,0,none⟩,cc:=cap}:=by
 refine m.grow (r:=bS s L) (r' :=bS {s with cnt:=s.cnt++[x]} {L with ca:=some ⟨g,0,none⟩,cc:=cap}) (rs:=bE s L::bQ s L::bD s L::bJ s L::cA s L::bM s L::L.es.map aN) 8 _ (su _ _ _ _ _ _ _ _) (su _ _ _ _ _ _ _ _) ?_ c ?_ ?_ m.rd.evs
 .show World.ownsRow _ _ _ _ _ _ _;simp only[bS,List.length_append,List.length_cons,List.length_nil,Nat.zero_add,List.map_append,List.map_cons,List.map_nil];exact hown
 .rcases a with h|h
  .exact .inl h.symm
  exact .inr (by rw[h];rfl)
 simp[cellsOf]
end
theorem yU:(Tryz.prog.info? 139).map (fun i=>(i.zero,i.size,i.bytes))=some (some (.agg #[.string ByteArray.empty,.string ByteArray.empty]),2,32):=by kernel_rfl
theorem QJ:(Tryz.prog.info? 3).map (fun i=>(i.zero,i.size,i.bytes))=some (some (.int .i64 0),1,8):=by kernel_rfl
theorem yV(p:Bs×Bs):∀u∈lS p,u.oneCell' =true:=by
 intro u a;simp[lS]at a;rcases a with rfl|rfl<;>rfl
structure uX(w:World)(b:Nat)(s:St)(L:Lay)(iB:List (Bs×Bs)×Nat×Bool)(wx:World)(bn:List (Bs×Bs))(c i:Nat)(L1:Lay):Prop where
 mv:Mv w b (aJ s L) wx {s with aG:=bn} L1
 ea:L1.aa=L.aa
 ec:L1.ac=L.ac
 fin:iB=fN (s.aC.drop i) bn c
 le:bn.length≤s.aG.length+i
 ce:c≤i
theorem yX(h:aK w b s L)(a:s.am=false)(k:Nat)(d:k<s.aC.length):
 ∃g,L.aa=some ⟨g,0,none⟩∧g<w.heap.size∧w.cell? ⟨g,k*3,none⟩=some (.string ⟨s.aC[k].name.toArray⟩)∧w.cell? ⟨g,k*3+1,none⟩=some (.string ⟨s.aC[k].space.toArray⟩)∧w.cell? ⟨g,k*3+2,none⟩=some (.string ⟨s.aC[k].val.toArray⟩):=by
 have hrow:=h.rows.own (bD s L) (by simp[rowsOf]);have e:bD s L=⟨69,3,.slice L.aa s.aC.length L.ac,s.aC.length,aV s.aC⟩:=by simp[bD,a]
 rw[e]at hrow;obtain⟨g,f,i,c⟩:=mI (m:=3) (l:=s.aC) bZ (fun _=>rfl) (by decide) hrow k d;exact⟨g,f,i,c 0 (by decide),c 1 (by decide),c 2 (by decide)⟩
theorem QK(h:aK w b s L)(P:Bd s):
 Calls Tryz.prog 239 #[.pointer (some ⟨b,7,none⟩),.slice L.aa s.aC.length L.ac] w fun e w' =>e=.returned (.bool (Mk.declare s).2)∧∃L', Mv w b (aJ s L) w' (Mk.declare s).1 L' ∧L'.aa=L.aa∧L'.ac=L.ac:=by
 obtain⟨a,q⟩:∃a,a=fN s.aC s.aG 0:=⟨_,rfl⟩;obtain⟨t,y⟩:∃t,t=Mk.declare s:=⟨_,rfl⟩;have hd:t=if a.2.2 then({s with aG:=a.1,cnt:=s.cnt++[a.2.1]},true)else({s with aG:=a.1},false):=by rw[y,q];rfl
 rw[←y];have HD:=aB hd;have HI:Hid (uX w b s L a w s.aG 0 0 L):=⟨h.start,rfl,rfl,q,by omega,by omega⟩;have a0:=aB P.am;have Q:=aB P.an;have ak:=P.hb;have al:=P.hc;have ao:=P.ha;have ap:=h.lt;obtain⟨i0,hi,a1,a2,a3⟩:=info_parts yU;obtain⟨j0,ji,a4,a5,a6⟩:=info_parts QJ;obtain⟨aa,G⟩:∃x,x=L.aa:=⟨_,rfl⟩;rw[←G];have H:=aB G;clear h q hd P G y;go_enter func239,ntmps239
 go_wp2_with fail
 go_loopg [5,6,7] s.aC.length (fun g s5 s6 s7 wx=>∃(C:World) (k:List (Bs×Bs)) (c i:Nat) (p:Lay),C=wx∧i≤s.aC.length∧g=s.aC.length - i∧s5=.int .i64 (c:Int)∧s6=.int .i64 (i:Int)∧Hid (uX w b s L a C k c i p))
 case atStart=>exact⟨w,s.aG,0,0,L,rfl,by omega,rfl,rfl,rfl,HI⟩
 case round=>
  obtain⟨C,k,c,i,p,a7,ag,rfl,rfl,rfl,f⟩:=hrel;subst a7;clear HI;have aq:=(aA f).ce;have ah:=(aA f).le;have ai:=(aA f).mv.rd.lt;by_cases X:i<s.aC.length
  .have e1:decide ((i:Int)<(s.aC.length:Int))=true:=by simp;omega
   have ar:(i:Int)<(s.aC.length:Int):=by omega
   obtain⟨g,hg,au,c0,c1,c2⟩:=yX (aA f).mv.rd (aA a0) i X;rw[(aA f).ea,←aA H]at hg;have Y:=aB (fun w=>yF s.aC[i].name (aA Q _ (List.getElem_mem X)) w);have a8:=aB (fun w=>Ew s.aC[i].name (aA Q _ (List.getElem_mem X)) w);have m:=(aA f).fin;rw[List.drop_eq_getElem_cons X]at m;unfold fN at m;dsimp only at c0 c1 c2;generalize s.aC[i].name=n at *;generalize s.aC[i].val=v at *;clear c1;subst hg;cases e2:Mk.oM n
   .rw[e2]at Y m;simp only[Bool.not_false,if_true]at m;have a9:Hid (uX w b s L a C k c (i+1) p):=⟨(aA f).mv,(aA f).ea,(aA f).ec,m,by omega,by omega⟩;clear m f;go_wp2_with(go_at_call 245;refine(aA Y _).mono ?_;rintro e w1 ⟨rfl,rfl⟩)
    go_roundg (s.aC.length - (i+1))
    case measure=>omega
    case rel=>exact⟨_,k,c,i+1,p,rfl,by omega,rfl,rfl,by simp,a9⟩
   rw[e2]at Y m;simp only[Bool.not_true,Bool.false_eq_true,if_false]at m;have Z:=aB (fun w=>Ex (Mk.declared n) v w);generalize Mk.declared n=o at *;have E:=aB m;clear m;go_wp2_with(go_at_call 245;refine(aA Y _).mono ?_;rintro e w1 ⟨ab,ad⟩;subst ab;subst ad)
   go_cut [7] (fun s7 wz=>s7=.pointer (some ⟨w1.heap.size,0,none⟩)∧wz=(w1.alloc (.cells #[.string ⟨o.toArray⟩,.string ⟨v.toArray⟩] 139)).drew)
   case first=>
    go_region_with (go_at_call 246;refine(aA a8 _).mono ?_;rintro e w1 ⟨rfl,rfl⟩)
    all_goals
     go_wp2_with fail
     go_meet
     exact⟨rfl,rfl⟩
   case rest=>
   obtain⟨rfl,rfl⟩:=hcut;cases e3:Mk.rS o v
   .rw[e3]at Z;have hfin:a=(k,c,false):=by have:=aA E;rw[e3]at this;simpa using this
    have R:=((aA f).mv.alloc (.cells #[.string ⟨o.toArray⟩,.string ⟨v.toArray⟩] 139)).drew;have D:=aB (And.intro R (And.intro (aA f).ea (aA f).ec));have I:=aB hfin;clear R hfin E f;go_wp2_with(go_at_call 247;refine(aA Z _).mono ?_;rintro e w2 ⟨rfl,z⟩)
    go_ret;have hA:t=({s with aG:=k},false):=by rw[aA HD,aA I];rfl
    rw[hA];have D:=aA D;exact⟨rfl,p,D.1.below z,by rw[D.2.1,←aA H],D.2.2⟩
   rw[e3]at Z;have hfin:a=fN (s.aC.drop (i+1)) (k++[(o,v)]) (c+1):=by have:=aA E;rw[e3]at this;simpa using this
   have R:=((aA f).mv.alloc (.cells #[.string ⟨o.toArray⟩,.string ⟨v.toArray⟩] 139)).drew;have F:(w1.alloc (.cells #[.string ⟨o.toArray⟩,.string ⟨v.toArray⟩] 139)).drew.heap[w1.heap.size]?=some (.cells #[.string ⟨o.toArray⟩,.string ⟨v.toArray⟩] 139 (0,0)):=heap_alloc_new w1 _;have D:=aB (And.intro R (And.intro (aA f).ea (And.intro (aA f).ec F)));have I:=aB hfin;clear R hfin E f F;go_wp2_with(go_at_call 247;refine(aA Z _).mono ?_;rintro e w2 ⟨rfl,z⟩)
   have d:=(aA D).1.below z;have J:=(z.block w1.heap.size (by simp)).trans (aA D).2.2.2;have hq:∀j,w2.cell? ⟨w1.heap.size,j,none⟩=[.string ⟨o.toArray⟩,.string ⟨v.toArray⟩][j]?:=fun j=>by simp[World.cell?,J]
   have K:=d.rd.cell;have ae:=d.rd.frozen;have S:=d.rd.lt;have aj:w1.heap.size<w2.heap.size:=(Array.getElem?_eq_some_iff.1 J).1;have l:=(d.alloc (.cells #[.string ⟨o.toArray⟩,.string ⟨v.toArray⟩] 139)).drew;have HO:=aB (l.rd.rows.own (bM {s with aG:=k} p) (by simp[rowsOf]));have HB:=aB (show(w2.alloc (.cells #[.string ⟨o.toArray⟩,.string ⟨v.toArray⟩] 139)).drew.heap[w2.heap.size]?=_ from heap_alloc_new w2 _);have M:=aB (show k.length+1≤maxLen by unfold maxLen;omega);have N:=aB (show b - 1≤(w2.alloc (.cells #[.string ⟨o.toArray⟩,.string ⟨v.toArray⟩] 139)).drew.heap.size by simp;omega);have A:=aB l;unfold cellsOf at K;clear d l J z;go_region_law (refine step_append_lies _ rfl (.tmp 40) (.tmp 42) 83 rfl (b - 1) 139 i0 _ 2 32 underlying83 hi a1 a2 a3 rfl (by decide) (.slice p.ba k.length p.bc) k.length (dS k) (by simp[Act.eval]) (aA HO) ⟨w2.heap.size,0,none⟩ 1 1 (lS (o,v)) (by simp[Act.eval]) rfl (World.news_of_block (aA HB)) (yV _) (by decide) (aA M) (by omega) (aA N) (w2.heap.size+1) (by simp) ?_;intro g2 cap w3 hown hgrow B T;obtain⟨hr,af⟩:=lg ((aA A).rd.grown (r:=bM {s with aG:=k} p) hgrow (by simp[rowsOf]));unfold cellsOf at hr)
   all_goals
    have O:=aB ((aA A).QH (o,v) hown hgrow (by simpa using B));clear hown hgrow B;go_wp2
    go_roundg (s.aC.length - (i+1))
    case measure=>omega
    case rel=>exact⟨_,k++[(o,v)],c+1,i+1,_,rfl,by omega,rfl,by simp,by simp,⟨aA O,(aA D).2.1,(aA D).2.2.1,aA I,by simp;omega,by omega⟩⟩
  have e1:decide ((i:Int)<(s.aC.length:Int))=false:=by simp;omega
  have m:=(aA f).fin;rw[List.drop_of_length_le (by omega)]at m;have hA:t=({s with aG:=k,cnt:=s.cnt++[c]},true):=by rw[aA HD,m];rfl
  have HA:=aB hA;have d:=(aA f).mv;have K:=d.rd.cell;have ae:=d.rd.frozen;have S:=d.rd.lt;have l:=d.alloc (.cells #[.int .i64 (c:Int)] 3);have HO:=aB (l.rd.rows.own (bS {s with aG:=k} p) (by simp[rowsOf]));have HB:=aB (show(C.alloc (.cells #[.int .i64 (c:Int)] 3)).heap[C.heap.size]?=_ from heap_alloc_new C _);have M:=aB (show s.cnt.length+1≤maxLen by unfold maxLen;omega);have N:=aB (show b - 1≤(C.alloc (.cells #[.int .i64 (c:Int)] 3)).heap.size by simp;omega);have A:=aB l;unfold cellsOf at K;clear d l m hA;go_wp2_with(at_builtin;refine wpList_append_lies _ rfl (.tmp 52) (.tmp 54) 26 rfl (b - 1) 3 j0 _ 1 8 underlying26 ji a4 a5 a6 rfl (by decide) (.slice p.ca s.cnt.length p.cc) s.cnt.length (s.cnt.map nv) (by simp[Act.eval]) (aA HO) ⟨C.heap.size,0,none⟩ 1 1 [.int .i64 (c:Int)] (by simp[Act.eval]) rfl (World.news_of_block (aA HB)) (by intro u hu;simp at hu;subst hu;rfl) (by decide) (aA M) (by omega) (aA N) (C.heap.size+1) (by simp) ?_;intro g2 cap w3 hown hgrow B T;obtain⟨hr,af⟩:=lg ((aA A).rd.grown (r:=bS {s with aG:=k} p) hgrow (by simp[rowsOf]));unfold cellsOf at hr;have O:=aB ((aA A).QI c hown hgrow (by simpa using B));clear hown hgrow B)
  go_ret;rw[aA HA];exact⟨rfl,_,aA O,(aA f).ea.trans (aA H).symm,(aA f).ec⟩
end Go.Proofs.YtmgfijllcdadgaaGreatDoor
