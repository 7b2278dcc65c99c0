import Derived.Test.YtmgfijllcdadgaaGreatDoorNW38
import Derived.Test.YtmgfijllcdadgaaGreatDoorNW35
import Derived.Test.YtmgfijllcdadgaaGreatDoorNW36
set_option linter.unusedVariables false
set_option linter.unusedSimpArgs false
set_option maxHeartbeats 4000000
set_option maxRecDepth 100000
namespace Go.Proofs.YtmgfijllcdadgaaGreatDoor
open Go.RowKit
open Mk (St Bs Ev aD)
open Go.Proofs.Tryz
open Mk (dH fG kU ia iY dB h_ ny kV)
variable {w:World}{b:Nat}{s:St}{L:Lay}{l:Bs}
theorem MX(h:aK w b s L)(d:Bd s)(F:0≤s.quote∧s.quote≤255)(p:(Mk.innermost s).length≤100000000):
 Calls Tryz.prog 124 #[.pointer (some ⟨b,0,none⟩)] w fun e w' =>e=.returned (.string ⟨(dH s).toArray⟩)∧Below w.heap.size w w' :=by
 have S:=d.hh;have G:=d.m0;have H:=d.m1;have I:=aB (MV h d F);have J:=aB (MW h d);have K:=aB (fun n=>vz (h.drewN n) d.ho);have q:=aB (fun w=>rB [45,45,62] s.held.length (by decide) (by omega) (by omega) w);have r:=aB (fun w=>rB [93,93,62] s.held.length (by decide) (by omega) (by omega) w);have f:=aB (fun w=>rB fG s.matched (by decide) (by omega) (by omega) w);have l:=aB (fun w=>rB (Mk.innermost s) s.matched p (by omega) (by omega) w);have M:=oH fG s.matched;have C:=oH (Mk.innermost s) s.matched;have c:=h.cell;have N:=h.lt;unfold cellsOf at c;clear h d;by_cases D:s.state=0
 .have a:dH s=[]:=by unfold dH;rw[if_pos (by omega)]
  rw[a];rw[D]at c;clear a;go_enter func124,ntmps124
  go_wp2
  go_ret;exact⟨rfl,Below.refl _ _⟩
 have e0:(s.state==0)=false:=by simpa using D
 by_cases E:s.state=1
 .have a:dH s=[]:=by unfold dH;rw[if_pos (by omega)]
  rw[a];rw[E]at c;clear a;go_enter func124,ntmps124
  go_wp2
  go_ret;exact⟨rfl,Below.refl _ _⟩
 have T:(s.state==1)=false:=by simpa using E
 by_cases t:s.state=3
 .have a:dH s=[33,45,45,45,45,62]:=by unfold dH;rw[if_neg (by omega),if_pos t]
  rw[a];rw[t]at c;clear a;go_enter func124,ntmps124
  go_wp2
  go_ret;exact⟨rfl,Below.refl _ _⟩
 have X:(s.state==3)=false:=by simpa using t
 by_cases u:s.state=4
 .have a:dH s=[45,45,45,45,62]:=by unfold dH;rw[if_neg (by omega),if_neg (by omega),if_pos u]
  rw[a];rw[u]at c;clear a;go_enter func124,ntmps124
  go_wp2
  go_ret;exact⟨rfl,Below.refl _ _⟩
 have Y:(s.state==4)=false:=by simpa using u
 by_cases v:s.state=5
 .have a:dH s=[45,45,45,62]:=by unfold dH;rw[if_neg (by omega),if_neg (by omega),if_neg (by omega),if_pos v]
  rw[a];rw[v]at c;clear a;go_enter func124,ntmps124
  go_wp2
  go_ret;exact⟨rfl,Below.refl _ _⟩
 have Z:(s.state==5)=false:=by simpa using v
 by_cases x:s.state=7
 .have a:dH s=Mk.behind [45,45,62] s.held.length:=by unfold dH;rw[if_neg (by omega),if_neg (by omega),if_neg (by omega),if_neg (by omega),if_pos x]
  rw[a];rw[x]at c;generalize Mk.behind [45,45,62] s.held.length=z at *;clear a;go_enter func124,ntmps124
  go_wp2_with(go_at_call 176;refine(aA q _).mono ?_;rintro e w1 ⟨rfl,rfl⟩)
  go_ret;exact⟨rfl,Below.refl _ _⟩
 have e7:(s.state==7)=false:=by simpa using x
 by_cases y:s.state=6
 .have a:dH s=Mk.behind fG s.matched++[93,93,62]:=by unfold dH;rw[if_neg (by omega),if_neg (by omega),if_neg (by omega),if_neg (by omega),if_neg (by omega),if_pos y]
  rw[a];rw[y]at c;have O:fG.length=6:=rfl;generalize Mk.behind fG s.matched=z at *;have m:(⟨z.toArray⟩:ByteArray)++(⟨#[93,93,62]⟩:ByteArray)=⟨(z++[93,93,62]).toArray⟩:=by apply ByteArray.ext;simp
  generalize A:z++[93,93,62]=P at *;clear A a;have f:Hid (∀w,Calls Tryz.prog 176 #[.string ⟨#[67,68,65,84,65,91]⟩,.int .i64 s.matched] w fun e w' =>e=.returned (.string ⟨z.toArray⟩)∧w' =w):=aA f;go_enter func124,ntmps124
  go_wp2_with(go_at_call 176;refine(aA f _).mono ?_;rintro e w1 ⟨rfl,rfl⟩)
  go_ret;exact⟨rfl,Below.refl _ _⟩
 have e6:(s.state==6)=false:=by simpa using y
 by_cases B:s.state=2
 .have a:dH s=Mk.behind [93,93,62] s.held.length:=by unfold dH;rw[if_neg (by omega),if_neg (by omega),if_neg (by omega),if_neg (by omega),if_neg (by omega),if_neg (by omega),if_pos B]
  rw[a];rw[B]at c;generalize Mk.behind [93,93,62] s.held.length=z at *;clear a;go_enter func124,ntmps124
  go_wp2_with(go_at_call 176;refine(aA r _).mono ?_;rintro e w1 ⟨rfl,rfl⟩)
  go_ret;exact⟨rfl,Below.refl _ _⟩
 have e2:(s.state==2)=false:=by simpa using B
 by_cases g:s.state=20
 .have a:dH s=Mk.behind (Mk.innermost s) s.matched++[62]:=by unfold dH;rw[if_neg (by omega),if_neg (by omega),if_neg (by omega),if_neg (by omega),if_neg (by omega),if_neg (by omega),if_neg (by omega),if_pos g]
  rw[a];rw[g]at c;generalize Mk.behind (Mk.innermost s) s.matched=z at *;generalize Mk.innermost s=im at *;have m:(⟨z.toArray⟩:ByteArray)++(⟨#[62]⟩:ByteArray)=⟨(z++[62]).toArray⟩:=by apply ByteArray.ext;simp
  generalize A:z++[62]=P at *;clear A a;go_enter func124,ntmps124
  go_wp2_with fail
  go_region_with first|(go_at_call 177;refine(aA K _).mono ?_;rintro e w1 ⟨rfl,n,rfl⟩)|(go_at_call 176;refine(aA l _).mono ?_;rintro e w1 ⟨rfl,rfl⟩)
  all_goals
   go_wp2
   go_ret;exact⟨rfl,⟨rfl,rfl,rfl,Nat.le_refl _,fun _ _=>rfl⟩⟩
 have Q:(s.state==20)=false:=by simpa using g
 by_cases i:s.state=21
 .have a:dH s=[62]:=(by unfold dH;rw[if_neg (by omega),if_neg (by omega),if_neg (by omega),if_neg (by omega),if_neg (by omega),if_neg (by omega),if_neg (by omega),if_neg (by omega),if_pos i]);rw[a];rw[i]at c;clear a;go_enter func124,ntmps124
  go_wp2
  go_ret;exact⟨rfl,Below.refl _ _⟩
 have R:(s.state==21)=false:=by simpa using i
 have j:dH s=if kU s.state then ia s else iY s:=(by unfold dH;rw[if_neg (by omega),if_neg (by omega),if_neg (by omega),if_neg (by omega),if_neg (by omega),if_neg (by omega),if_neg (by omega),if_neg (by omega),if_neg (by omega)]);rw[j]
 cases e:kU s.state
 .have o:=aB (fun w=>xX s.state w);rw[e]at o;simp only[Bool.false_eq_true,if_false];generalize iY s=z at *;clear j;go_enter func124,ntmps124
  go_wp2_with first|(go_at_call 126;refine(aA o _).mono ?_;rintro e w1 ⟨rfl,rfl⟩)|(go_at_call 179;refine(aA J).mono ?_;rintro e w1 ⟨rfl,k⟩)
  go_ret;exact⟨rfl,k⟩
 have o:=aB (fun w=>xX s.state w);rw[e]at o;simp only[if_true];generalize ia s=z at *;clear j;go_enter func124,ntmps124
 go_wp2_with first|(go_at_call 126;refine(aA o _).mono ?_;rintro e w1 ⟨rfl,rfl⟩)|(go_at_call 178;refine(aA I).mono ?_;rintro e w1 ⟨rfl,k⟩)
 go_ret;exact⟨rfl,k⟩
theorem uG(l:Bs):Lib.strCells ⟨l.toArray⟩=l.map bv:=by unfold Lib.strCells bv;simp
structure jG(w wx:World)(v:Value)(l:Bs):Prop where
 aU:Below w.heap.size w wx
 row:wx.ownsRow w.heap.size 5 1 v l.length (l.map bv)
theorem jG.below{a b:World}{v:Value}(h:jG w a v l)(c:Below a.heap.size a b):jG w b v l:=
 ⟨h.aU.trans (c.mono h.aU.size),fP (r:=⟨5,1,v,l.length,l.map bv⟩) h.row fun k d=>c.block k (h.row.lt k d).2⟩
theorem jG.grow{c b:World}{v d:Value}{m:Bs}(h:jG w c v l)(f:b.ownsRow w.heap.size 5 1 d (l.length+m.length) (l.map bv++m.map bv))(a:c.grownBy b v.ownBlock):jG w b d (l++m):=by
 refine⟨h.aU.trans ⟨a.os,a.tape,a.output,a.size,fun k g=>a.block k (Nat.lt_of_lt_of_le g h.aU.size) fun e=>?_⟩,by simpa using f⟩;have:=(h.row.lt k e.symm).1;omega
theorem jG.slice{w b:World}{v:Value}{l:Bs}(h:jG w b v l):∃a c,v=.slice a l.length c:=slice_form h.row
theorem MY(h:aK w b s L)(k:Nat)(d:k<s.opn.length):∃g,L.oa=some ⟨g,0,none⟩∧g<w.heap.size∧w.cell? ⟨g,k,none⟩=some (.string ⟨(s.opn[k]).toArray⟩):=by
 have hrow:w.ownsRow (b - 1) 9 1 (.slice L.oa s.opn.length L.oc) s.opn.length (s.opn.flatMap fun n=>[sv n]):=by
  have:=h.rows.own (bE s L) (by simp[rowsOf]);have e:(s.opn.flatMap fun n=>[sv n])=s.opn.map sv:=by rw[List.map_eq_flatMap]
  rw[e];exact this
 obtain⟨g,f,a,c⟩:=mI (m:=1) (l:=s.opn) (fun n=>[sv n]) (fun _=>rfl) (by decide) hrow k d;refine⟨g,f,a,?_⟩;have:=c 0 (by decide);simpa[sv]using this
theorem MZ(h:aK w b s L)(hW:W s)(hB:Bd s)(hq:0≤s.quote∧s.quote≤255)(Z:∀n∈s.opn,n.length≤100000000)(hG:Gl w)(hs:2<w.heap.size)(o:(Mk.rest s).length≤1000000000000):
 Calls Tryz.prog 92 #[.pointer (some ⟨b,0,none⟩)] w fun e w' =>∃v,e=.returned v∧jG w w' v (Mk.rest s):=by
 have a9:s.pl=0∨iG s.pc s.pl:=by
  by_cases hp:0<s.pl
  .exact .inr (hW.pl hp).2.2.1
  exact .inl (by have:=hW.p0;omega)
 have T:(Mk.innermost s).length≤100000000:=by
  unfold Mk.innermost;rw[List.getLastD_eq_getLast?];cases hl:s.opn.getLast? with
  |none=>simp
  |some n=>exact Z n (List.mem_of_getLast? hl)
 have HP:=aB (fun n=>MN s.pc s.pl a9 (w.drewN n));have hc:=h.cell;have bc:=h.lt;obtain⟨i0,hi,H,I,J⟩:=info_parts oU;have HH:=aB h;have HG:=aB hG;have aa:=aB (fun w' (X:Below w.heap.size w w')=>MX (uF h X) hB hq T);have ab:=aB (fun w' (X:Below w.heap.size w w')=>MR s.rp s.rn s.rc (Nat.le_trans hB.rn (by decide)) hB.r0 hB.r1 w' (hG.below hs X) (Nat.lt_of_lt_of_le hs X.size));have ad:∀w', Below w.heap.size w w' →(∀i,w'.cell? ⟨b,i,none⟩=(cellsOf s L)[i]?):=fun w' X=>(uF h X).cell
 have a0:=aB ad;have au:=aB (fun w' (X:Below w.heap.size w w') k hk=>MY (uF h X) k hk);have av:=aB Z;have be:=hB.ho;have d:Mk.rest s=dB s.pc s.pl++h_ s.rp s.rn s.rc++dH s++Mk.endTags (ny s)++(if s.opn=[]∧s.over=false∧kU s.state=false then[60,97,47,62]else[]):=rfl;have b7:(dB s.pc s.pl).length+(h_ s.rp s.rn s.rc).length+(dH s).length≤1000000000000:=by
  rw[d]at o;simp only[List.length_append]at o;omega
 obtain⟨u,hF⟩:∃u,u=Mk.rest s:=⟨_,rfl⟩;rw[←hF]at d o⊢;obtain⟨K,aw,ax,ay⟩:∃K:Nat,K≤s.opn.length∧ny s=(s.opn.take K).reverse∧((kV s.state=true∧(s.opn.length:Int) - 1 - 1=(K:Int) - 1)∨(kV s.state=false∧(s.opn.length:Int) - 1=(K:Int) - 1)):=by
  cases he:kV s.state
  .exact⟨s.opn.length,Nat.le_refl _,by unfold ny;rw[he,List.take_length];rfl,.inr ⟨rfl,rfl⟩⟩
  have bf:s.state=20∨s.state=21:=by unfold kV at he;simpa using he
  have az:=hW.o1 (by omega);have b8:0<s.opn.length:=List.length_pos_iff.2 az;exact⟨s.opn.length - 1,by omega,by unfold ny;rw[he,List.dropLast_eq_take];rfl,.inl ⟨rfl,by omega⟩⟩
 rw[ax]at d;have ae:=aB d;have HST:=aB (fun w=>xX s.state w);have af:=aB (fun w=>MU s.state w);generalize dB s.pc s.pl=Y at *;generalize h_ s.rp s.rn s.rc=rr at *;generalize dH s=mr at *;unfold cellsOf at hc;clear h hG ad d hF Z T a9;go_enter func92,ntmps92
 go_wp2_with fail
 refine(aA HP 0).mono ?_;rintro e w1 ⟨a1,c1,rfl,y,ag⟩;have R1:jG w w1 (.slice a1 Y.length c1) Y:=⟨ag,y⟩;have ah:=aA a0 w1 R1.aU;unfold cellsOf at ah;have a2:=aB R1;clear y ag hc R1 HP;go_wp2_with fail
 refine(aA ab w1 (aA a2).aU).mono ?_;rintro e w2 ⟨rfl,ai⟩;have M:=aB ((aA a2).below ai);clear ai a2 ab ah;go_wp2_with(at_builtin;refine Lib.wpList_append_own_string _ rfl (.tmp 11) (.tmp 16) 74 9 rfl w.heap.size 5 i0 underlying74 underlying9 hi H I J (.slice a1 Y.length c1) Y.length (Y.map bv) rfl (aA M).row ⟨rr.toArray⟩ rfl (by show Y.length+rr.length≤_;unfold maxLen;omega) (by show Y.length+rr.length≤_;omega) (aA M).aU.size ?_;intro v3 w3 a4 aj _;rw[uG]at a4;have z:=aB ((aA M).grow (m:=rr) a4 aj);obtain⟨N,O⟩:∃N,Y++rr=N:=⟨_,rfl⟩;rw[O]at z;obtain⟨a3,c3,rfl⟩:=(aA z).slice;have bg:N.length≤1000000000000 - mr.length:=(by rw[←O];simp;omega);have ak:=aB O;clear a4 aj O)
 clear M;refine(aA aa w3 (aA z).aU).mono ?_;rintro e w4 ⟨rfl,al⟩;have P:=aB ((aA z).below al);clear al z aa;go_wp2_with(at_builtin;refine Lib.wpList_append_own_string _ rfl (.tmp 18) (.tmp 20) 74 9 rfl w.heap.size 5 i0 underlying74 underlying9 hi H I J (.slice a3 N.length c3) N.length (N.map bv) rfl (aA P).row ⟨mr.toArray⟩ rfl (by show N.length+mr.length≤_;unfold maxLen;omega) (by show N.length+mr.length≤_;omega) (aA P).aU.size ?_;intro v5 w5 a6 am _;rw[uG]at a6;have A:=aB ((aA P).grow (m:=mr) a6 am);obtain⟨l3,a8⟩:∃l3,N++mr=l3:=⟨_,rfl⟩;rw[a8]at A;obtain⟨a5,c5,rfl⟩:=(aA A).slice;have an:=aB a8;clear a8;have b0:=aA a0 w5 (aA A).aU;unfold cellsOf at b0;clear a6 am)
 clear P;generalize hC:(if s.opn=[]∧s.over=false∧kU s.state=false then([60,97,47,62]:Bs)else[])=C at *;have bh:C.length≤4:=by rw[←hC];split<;>simp
 have HC:=aB hC;have ao:Hid (jG w w5 (.slice a5 l3.length c5) l3∧u=l3++Mk.endTags (s.opn.take K).reverse++C):=⟨aA A,by rw[aA ae,aA ak,aA an]⟩;clear hC A ae ak an;refine(aA af _).mono ?_;rintro e w6 ⟨rfl,hw⟩;obtain rfl:=hw.symm;clear af;rcases ay with⟨he,hk⟩|⟨he,hk⟩;all_goals
  rw[he];go_wp2_with fail
  have b1:=aB hk;clear hk;go_loopg [3,5] K (fun g s3 s5 wx=>∃(wy:World) (a:Option Addr) (c:Nat) (l:Bs) (k:Nat),wy=wx∧g=k∧k≤s.opn.length∧s3=.slice a l.length c∧s5=.int .i64 ((k:Int) - 1)∧Hid (jG w wy (.slice a l.length c) l∧u=l++Mk.endTags (s.opn.take k).reverse++C))
  case atStart=>exact⟨_,a5,c5,l3,K,rfl,rfl,aw,rfl,by have:=aA b1;first|rfl|(congr 1)|(congr 1;omega),ao⟩
  case round=>
   obtain⟨wy,a,c,l,k,b2,b3,bi,rfl,rfl,x⟩:=hrel;obtain rfl:=b3.symm;subst b2;clear ao;have ap:=(aA x).1.aU.size;have B:=aA a0 wy (aA x).1.aU;unfold cellsOf at B;by_cases h0:0<k
   .obtain⟨j,rfl⟩:∃j,k=j+1:=⟨k - 1,by omega⟩;have hj:j<s.opn.length:=by omega
    have b4:((j+1:Nat):Int) - 1=(j:Int):=by omega
    rw[b4];obtain⟨g,hg,bj,b5⟩:=aA au wy (aA x).1.aU j hj;have bk:=aA av s.opn[j] (List.getElem_mem hj);have hfin:=(aA x).2;rw[uQ s.opn j hj,List.reverse_append,List.reverse_singleton,List.singleton_append]at hfin;generalize s.opn[j]=nm at *;unfold Mk.endTags at hfin;have b6:l.length+nm.length+3≤1000000000000:=by rw[hfin]at o;simp at o;omega
    rw[hg]at B;clear hg;obtain⟨z1,r⟩:∃z1:Bs,[60,47]++nm=z1:=⟨_,rfl⟩;obtain⟨G,t⟩:∃G:Bs,z1++[62]=G:=⟨_,rfl⟩;have bl:(⟨#[60,47]⟩:ByteArray)++(⟨nm.toArray⟩:ByteArray)=⟨z1.toArray⟩:=by rw[←r];apply ByteArray.ext;simp
    have bm:(⟨z1.toArray⟩:ByteArray)++(⟨#[62]⟩:ByteArray)=⟨G.toArray⟩:=by rw[←t];apply ByteArray.ext;simp
    have b9:z1.length=nm.length+2:=by rw[←r];simp<;>omega
    have ba:G.length=nm.length+3:=by rw[←t];simp<;>omega
    have D:u=(l++G)++Mk.endTags (s.opn.take j).reverse++C:=by rw[hfin,←t,←r];simp
    have f:=aB D;have e1:decide (0≤(j:Int))=true:=by simp
    have e3:(j:Int)<(s.opn.length:Int):=by omega
    clear hfin D r t;go_wp2_with(at_builtin;refine Lib.wpList_append_own_string _ rfl (.tmp 40) (.tmp 49) 74 9 rfl w.heap.size 5 i0 underlying74 underlying9 hi H I J (.slice a l.length c) l.length (l.map bv) rfl (aA x).1.row ⟨G.toArray⟩ rfl (by show l.length+G.length≤_;unfold maxLen;omega) (by show l.length+G.length≤_;omega) ap ?_;intro v7 w7 p E _;rw[uG]at p;have F:=aB ((aA x).1.grow (m:=G) p E);obtain⟨l4,aq⟩:∃l4,l++G=l4:=⟨_,rfl⟩;rw[aq]at F f;obtain⟨a7,c7,rfl⟩:=(aA F).slice;clear p E aq)
    go_roundg j
    case measure=>omega
    case rel=>exact⟨_,a7,c7,l4,j,rfl,rfl,by omega,rfl,rfl,⟨aA F,aA f⟩⟩
   obtain rfl:k=0:=by omega
   have hfin:u=l++C:=by have:=(aA x).2;simpa[Mk.endTags]using this
   have f:=aB hfin;clear hfin;have e1:decide (0≤((0:Nat):Int) - 1)=false:=by decide
   have bn:decide ((0:Int)≤ -1)=false:=by decide
   by_cases Q:s.opn=[]
   .have ar:s.opn.length=0:=by rw[Q];rfl
    rw[ar]at B;cases R:s.over
    .rw[R]at B;cases S:kU s.state
     .rw[S]at HST;have q:C=[60,97,47,62]:=by rw[←aA HC,if_pos ⟨Q,R,S⟩]
      subst q;have b6:l.length+4≤1000000000000:=by rw[aA f]at o;simpa using o
      go_wp2_with first|(go_at_call 126;refine(aA HST _).mono ?_;rintro e w8 ⟨rfl,rfl⟩)|(at_builtin;refine Lib.wpList_append_own_string _ rfl (.tmp 72) (.const (.string ⟨#[60,97,47,62]⟩)) 74 9 rfl w.heap.size 5 i0 underlying74 underlying9 hi H I J (.slice a l.length c) l.length (l.map bv) rfl (aA x).1.row ⟨#[60,97,47,62]⟩ rfl (by show l.length+4≤_;unfold maxLen;omega) (by show l.length+4≤_;omega) ap ?_;intro v7 w7 p E _;rw[uG [60,97,47,62]]at p;have F:=aB ((aA x).1.grow (m:=[60,97,47,62]) p E);clear p E)
      go_ret;rw[aA f];exact⟨_,rfl,aA F⟩
     rw[S]at HST;have q:C=[]:=by rw[←aA HC,if_neg (by rw[S];simp)]
     subst q;go_wp2_with(go_at_call 126;refine(aA HST _).mono ?_;rintro e w8 ⟨rfl,rfl⟩)
     go_ret;rw[aA f,List.append_nil];exact⟨_,rfl,(aA x).1⟩
    rw[R]at B;have q:C=[]:=by rw[←aA HC,if_neg (by rw[R];simp)]
    subst q;go_wp2
    go_ret;rw[aA f,List.append_nil];exact⟨_,rfl,(aA x).1⟩
   have bb:0<s.opn.length:=List.length_pos_iff.2 Q;have e2:((s.opn.length:Int)==0)=false:=by simp;omega
   have q:C=[]:=by rw[←aA HC,if_neg (fun g=>Q g.1)]
   subst q;go_wp2
   go_ret;rw[aA f,List.append_nil];exact⟨_,rfl,(aA x).1⟩
theorem Dj{m:Nat}:∀(l:List Bs),(∀n∈l,n.length≤m)→ic l≤l.length* (m+3)
 |[],_=>Nat.zero_le _
 |n::r,h=>by
  have b:=Dj r fun x a=>h x (List.mem_cons_of_mem _ a)
  have c:=h n List.mem_cons_self;simp only[ic,List.length_cons,Nat.add_mul,Nat.one_mul];omega
theorem Dk(h:W s)(hd:s.od≤64)(d:s.ot≤1024):(Mk.rest s).length≤70000∧(∀n∈s.opn,n.length≤1024):=by
 have a:∀n∈s.opn,n.length≤1024:=fun n b=>by have:=(h.rq n b).2;omega
 have e:=MJ h;have f:=Dj s.opn a;have g:=h.dp;have c:s.opn.length≤64:=by omega
 have i:=Nat.mul_le_mul_right (1024+3) c;exact⟨by omega,a⟩
theorem RO(h:aK w b s L)(i:s.ended=0)(f:W s)(j:Bd s)(hd:s.od≤64)(k:s.ot≤1024)(l:Gl w)(m:2<w.heap.size):
 Calls Tryz.prog 74 #[.pointer (some ⟨b,0,none⟩)] w fun e w' =>∃a c,e=.returned (.slice a (Mk.rest s).length c)∧jG w w' (.slice a (Mk.rest s).length c) (Mk.rest s):=by
 have d:=Dk f hd k;have o:=aB (MZ h f j f.q0 (fun n p=>Nat.le_trans (d.2 n p) (by decide)) l m (by have:=d.1;omega));have q:=h.cell;have r:=h.lt;have u:(s.ended !=0)=false:=by simpa using i
 generalize Mk.rest s=z at *;unfold cellsOf at q;clear h i d;go_enter func74,ntmps74
 go_wp2_with fail
 refine(aA o).mono ?_;rintro e w1 ⟨v,rfl,g⟩;obtain⟨a,c,rfl⟩:=g.slice;have t:=aB g;clear g;go_wp2
 go_ret;exact⟨a,c,rfl,aA t⟩
end Go.Proofs.YtmgfijllcdadgaaGreatDoor
namespace Go.Proofs.YtmgfijllcdadgaaGreatDoor.U
open Go.RowKit
open Mk (Bs Ev aD)
open V
open Go.Proofs.Tryz
variable {w' :World}{i:Nat}
structure Gt(w:World)(O:Nat→Nat×Nat):Prop where
 gl:Gl w
 gr:bG w
 lt:2<w.heap.size
 fr:∀k,k≤2→O k=fr
theorem Dl{w:World}(h:Gl w)(a:∀k,k≤2→w'.heap[k]?=w.heap[k]?):Gl w' :=
 ⟨fun i=>(fU (a _ (by decide))).trans (h.names i),fun i=>(fU (a _ (by decide))).trans (h.named i)⟩
theorem Gt.gA{w:World}{O O' :Nat→Nat×Nat}(h:Gt w O){X:Nat→Prop}(m:bF X O O' w w')(a:∀k,k≤2→¬X k):Gt w' O' :=by
 have hl:=h.lt;have b:∀k,k≤2→w'.heap[k]?=w.heap[k]?:=fun k q=>m.ch.block k (by omega) fun e=>by
  rcases e with e|e
  .exact e (h.fr k q)
  exact a k q e
 exact⟨Dl h.gl b,h.gr.keep (b _ (by decide)),Nat.lt_of_lt_of_le h.lt m.ch.size,fun k q=>m.tag k (by omega) (h.fr k q) (a k q)⟩
structure eM(K:Nat)(p:Pl):Prop where
 d1:1≤p.od
 d2:p.od≤64
 a1:0≤p.oa
 a2:p.oa≤32
 t1:8≤p.ot
 t2:p.ot≤1024
 inv:Inv (12*K) p.s
 dQ:0≤p.s.at_
 nP:p.s.at_≤K
 fd:p.aS.length≤K
 w:p.s.ended=0→W p.s
 sd:p.s.od≤64
 st:p.s.ot≤1024
def iH(p:Pl):Pl×Bool:=
 if p.said=0 then(if(Rf.read p.od p.oa p.ot p.on p.aS).whole then({p with s:=(Mk.close p.s).1,said:=10},(Mk.close p.s).2==0)else({p with s:=(Mk.close p.s).1,said:=9},(Mk.close p.s).2==9))else({p with s:=(Mk.close p.s).1},(Mk.close p.s).2==p.said)
def rD(p:Pl):Bool:=p.s.line==(Rf.read p.od p.oa p.ot p.on p.aS).line&&p.s.column==(Rf.read p.od p.oa p.ot p.on p.aS).column
def uH(w:World)(O:Nat→Nat×Nat)(b:Nat)(pl:List (Pl×PA))(hl:List HA)(pa:Option Addr)(pc:Nat)(ha:Option Addr)(hc i:Nat)(p' :Pl)(w' :World):Prop:=∃O' A,WI w' O' b (pl.set i (p', A)) hl pa pc ha hc∧bF (fun _=>False) O O' w w'
theorem RP(od oa ot:Int)(on:Bool)(w:World):Calls Tryz.prog 30 #[.agg #[.int .i64 od,.int .i64 oa,.int .i64 ot,.bool on]] w fun e w' =>e=.returned (.bool true)∧Below w.heap.size w w' :=by
 have HA:=aB (xJ od oa ot on);cases g:Rf.allowed od oa ot with
 |false=>
  rw[g]at HA;have l:=aB (xK od oa ot on g);go_enter func30,ntmps30
  go_wp2_with fail
  refine(aA l _).mono ?_;rintro e w1 ⟨rfl,b⟩;obtain⟨c,d⟩:=nk b;obtain⟨h,i,j⟩:=aM c;have a:=aB d;clear b d c;go_wp2_with fail
  refine(aA HA _).mono ?_;rintro e w2 ⟨rfl,f⟩;have k:=aB ((aA a).trans (f.mono (aA a).size));clear f a h i j;go_wp2_with fail
  go_ret;exact⟨rfl,aA k⟩
 |true=>
  obtain⟨n,o,p,q,r,s⟩:=PY g;rw[g]at HA;have l:=aB (vQ od oa ot on n o p q r s);clear n o p q r s;go_enter func30,ntmps30
  go_wp2_with fail
  refine(aA l _).mono ?_;rintro e w1 ⟨pb,rfl,t,b,m⟩;obtain⟨c,d⟩:=nk b;obtain⟨h,i,j⟩:=aM c;have a:=aB d;clear b d c m;go_wp2_with fail
  refine(aA HA _).mono ?_;rintro e w2 ⟨rfl,f⟩;have k:=aB ((aA a).trans (f.mono (aA a).size));clear f a h i j;go_wp2_with fail
  go_ret;exact⟨rfl,aA k⟩
section
variable {w:World}{O:Nat→Nat×Nat}{b:Nat}{pl:List (Pl×PA)}{hl:List HA}{pa ha:Option Addr}{pc hc:Nat}
theorem WI.rE(h:WI w O b pl hl pa pc ha hc)(c:i<pl.length):pl[i].2.xb≠pl[i].2.pb∧pl[i].2.xb∉aJ pl[i].1.s pl[i].2.L:=by
 have a:=h.ps i c;refine⟨fun e=>?_,fun e=>?_⟩
 .have:=a.ox;rw[e,a.op]at this;cases this
 have:=a.of _ e;rw[a.ox]at this;cases this
theorem WI.moved(h:WI w O b pl hl pa pc ha hc)(f:i<pl.length){w1:World}{s' :Mk.St}{L' :Lay}(a:Mv w pl[i].2.pb (aJ pl[i].1.s pl[i].2.L) w1 s' L')(c:Below w1.heap.size w1 w'):uH w O b pl hl pa pc ha hc i {pl[i].1 with s:=s' } w' :=by
 have g:=h.rE f;have j:=h.ps i f;have n:aK w' pl[i].2.pb s' L' :=a.rd.keep fun k q=>c.block k (by rcases q with q|q;exact q▸a.rd.lt;exact(a.rd.dF k q).2)
 have d:=cE j.blk;have q:=h.upd f (p' :={pl[i].1 with s:=s' }) (L' :=L') (w' :=w') ⟨c.os.trans a.fr.os,c.tape.trans a.fr.tape,c.output.trans a.fr.output,Nat.le_trans a.fr.size c.size,fun k l m=>(c.block k (Nat.lt_of_lt_of_le l a.fr.size)).trans (a.fr.block k l (fun e=>m (.inr (.inl e))) fun e=>m (.inr (.inr e)))⟩
  ((c.block _ (Nat.lt_of_lt_of_le d a.fr.size)).trans ((a.fr.block _ d g.1 g.2).trans j.blk)) n a.fr.aJ
 exact⟨_,_,q.1,q.2.1⟩
theorem WI.said(h:WI w O b pl hl pa pc ha hc){i:Nat}(g:i<pl.length){w1 w' :World}{s' :Mk.St}{L' :Lay}(e:Int)(a:Mv w pl[i].2.pb (aJ pl[i].1.s pl[i].2.L) w1 s' L')(c:Below w1.heap.size w1 w'):uH w O b pl hl pa pc ha hc i {pl[i].1 with s:=s', said:=e} (w'.setCell ⟨pl[i].2.xb,6,none⟩ (.int .i64 e)):=by
 have f:=h.rE g;have n:=h.ps i g;have d:=cE n.blk;have j:=(c.block _ (Nat.lt_of_lt_of_le d a.fr.size)).trans ((a.fr.block _ d f.1 f.2).trans n.blk);have l:∀k,k=pl[i].2.pb∨k∈aJ s' L' →k≠pl[i].2.xb:=fun k q e=>by
  subst e;rcases q with q|q
  .exact f.1 q
  rcases a.fr.aJ _ q with q|q
  .exact f.2 q
  omega
 have p:aK (w'.setCell ⟨pl[i].2.xb,6,none⟩ (.int .i64 e)) pl[i].2.pb s' L' :=a.rd.keep fun k q=>(heap_setCell_other w' ⟨pl[i].2.xb,6,none⟩ k _ (l k q)).trans (c.block k (by rcases q with q|q;exact q▸a.rd.lt;exact(a.rd.dF k q).2))
 have q:=h.upd g (p' :={pl[i].1 with s:=s', said:=e}) (L' :=L') (w' :=w'.setCell ⟨pl[i].2.xb,6,none⟩ (.int .i64 e)) ⟨c.os.trans a.fr.os,c.tape.trans a.fr.tape,c.output.trans a.fr.output,by have:=a.fr.size;have:=c.size;simp;omega,fun k o m=>(heap_setCell_other w' ⟨pl[i].2.xb,6,none⟩ k _ fun e=>m (.inl e)).trans ((c.block k (Nat.lt_of_lt_of_le o a.fr.size)).trans (a.fr.block k o (fun e=>m (.inr (.inl e))) fun e=>m (.inr (.inr e))))⟩
  (heap_setCell_same w' _ 6 _ _ _ j) p a.fr.aJ
 exact⟨_,_,q.1,q.2.1⟩
theorem Dm(h:WI w O b pl hl pa pc ha hc){K:Nat}(G:i<pl.length)(n:eM K pl[i].1)(hK:K≤100000000)(X:Gt w O):
 Calls Tryz.prog 26 #[.pointer (some ⟨pl[i].2.xb,0,none⟩)] w fun e w' =>e=.returned (.bool (iH pl[i].1).2)∧uH w O b pl hl pa pc ha hc i (iH pl[i].1).1 w' :=by
 have u:=h.ps i G;have HW:=aB (And.intro h (And.intro G (And.intro X n)));have H:=aB (Ae u.rd);obtain⟨d,f,c⟩:=aM u.blk;have Y:=h.rE G;have HX:=aB u.blk;have a0:=aB Y;have I:=aB (fun w1 w' L' =>h.moved G (w1:=w1) (w' :=w') (s' :=(Mk.close pl[i].1.s).1) (L' :=L'));have v:=aB (fun w1 w' L' e=>h.said G (w1:=w1) (w' :=w') (s' :=(Mk.close pl[i].1.s).1) (L' :=L') e);obtain⟨J,a⟩:∃x,x=iH pl[i].1:=⟨_,rfl⟩;rw[←a];unfold iH at a;have Z:=aB (fun(W:World) (hb:bG W)=>V.lu (on:=pl[i].1.on) n.d1 n.d2 n.a1 n.a2 n.t1 n.t2 (show pl[i].1.aS.length≤100000000 by have:=n.fd;omega) W hb);have a3:=u.rd.lt;have C:=u.rd.dF;have a4:=aB (And.intro u.lo C);have y:=aB (fun(w1:World) (s' :Mk.St) (L' :Lay) (l:Mv w pl[i].2.pb (aJ pl[i].1.s pl[i].2.L) w1 s' L')=>(show bG w1 from X.gr.keep (l.fr.block _ (by have:=X.lt;omega) (by have:=u.lo;omega) fun e=>by have:=(C _ e).1;have:=u.lo;omega)));have m:=aB (fun(w1:World) (s' :Mk.St) (L' :Lay) (l:Mv w pl[i].2.pb (aJ pl[i].1.s pl[i].2.L) w1 s' L')=>(l.fr.block _ c Y.1 Y.2).trans u.blk);unfold dL at d m;clear h n X u Y C a3 a4 HW HX a0;generalize pl[i]=q at *;obtain⟨⟨od,oa,ot,on,st,aS,said⟩,⟨xb,pb,L⟩⟩:=q;clear G;dsimp only at a d f c H I v Z y m⊢;generalize M:(Mk.close st).2=ce at *;generalize N:(Mk.close st).1=cs at *;have P:Mk.close st=(cs,ce):=by rw[←M,←N]
 rw[P]at H;clear P M N;by_cases hs:said=0
 .subst hs;rw[if_pos rfl]at a;have e0:((0:Int) !=0)=false:=rfl;generalize Rf.read od oa ot on aS=A at *;have HF:=aB a;clear a;go_enter func26,ntmps26
  go_wp2_with fail
  refine(aA H).mono ?_;rintro e w1 ⟨rfl,B,l⟩;clear d f c;obtain⟨d,f,c⟩:=aM (aA m w1 _ B l);have D:=aB (fun(W:World) (hb:Below w1.heap.size w1 W)=>aA Z W ((aA y w1 _ B l).below hb));have a5:∀o j,(w1.alloc o).cell? ⟨xb,j,none⟩=(#[.pointer (some ⟨pb,0,none⟩),.int .i64 od,.int .i64 oa,.int .i64 ot,.bool on,.string ⟨aS.toArray⟩,.int .i64 0]:Array Value)[j]?:=fun o j=>by rw[←d j];exact fU (Below.heap_alloc _ _ _ c)
  have Q:=aB (aA m w1 _ B l);have HM:=aB l;clear l H Z y m;go_wp2_with fail
  go_cut [4] (fun s4 wx=>Hid (pZ w1 wx s4 A))
  case first=>
   have E:Below w1.heap.size w1 w1.drew:=⟨rfl,rfl,rfl,Nat.le_refl _,fun _ _=>rfl⟩;have a6:∀o,Below w1.heap.size w1 (w1.alloc o).drew:=fun o=>⟨rfl,rfl,rfl,by simp,fun k n=>Below.heap_alloc _ _ _ n⟩
   go_region_with (go_at_call 45;first
    |(refine(aA D _ E).mono ?_;rintro e w4 ⟨v4,rfl,p,r⟩;obtain⟨ea,ec,z,oc,rfl,t⟩:=uy (W0:=w1) (W:=w1.drew) E p r;have a7:=uq w4 A ea ec z oc;have HO:=aB t;clear t p r)
    |(refine(aA D _ (a6 _)).mono ?_;rintro e w4 ⟨v4,rfl,p,r⟩;obtain⟨ea,ec,z,oc,rfl,HZ,t⟩:=uz (W0:=w1) (W:=w1.drew) E p r;have a7:=uw w4 w1.heap.size A ea ec z oc HZ;have HO:=aB t;clear t p r HZ))
   all_goals
    go_wp2_with fail
    go_meet
    exact HO
  case rest=>
  obtain⟨g,ea,ec,z,oc,rfl,hg,R,-,F⟩:=aA hcut;rename World=>w2
  obtain⟨a8,a9,aa⟩:=aM R;unfold fZ at a8;have S:=(F.block _ c).trans (aA Q);clear d f c R hcut a5;obtain⟨d,f,c⟩:=aM S;have HB:=aB F;clear F D S Q;cases T:A.whole with
  |true=>
   have hf:J=({od:=od,oa:=oa,ot:=ot,on:=on,s:=cs,aS:=aS,said:=10},ce==0):=by rw[aA HF,T];rfl
   clear HF;subst hf;go_wp2_with fail
   go_ret;exact⟨rfl,aA v w1 _ B 10 (aA HM) (aA HB)⟩
  |false=>
   have hf:J=({od:=od,oa:=oa,ot:=ot,on:=on,s:=cs,aS:=aS,said:=9},ce==9):=by rw[aA HF,T];rfl
   clear HF;subst hf;go_wp2_with fail
   go_ret;exact⟨rfl,aA v w1 _ B 9 (aA HM) (aA HB)⟩
 rw[if_neg hs]at a;subst a;have e0:(said !=0)=true:=by simpa using hs
 clear hs Z v y;go_enter func26,ntmps26
 go_wp2_with fail
 refine(aA H).mono ?_;rintro e w1 ⟨rfl,B,l⟩;clear d f c;obtain⟨d,f,c⟩:=aM (aA m w1 _ B l);have HM:=aB l;clear l H;go_wp2_with fail
 go_ret;exact⟨rfl,aA I w1 _ B (aA HM) (Below.refl _ _)⟩
end
def rF(p:Pl):Bool:=decide (p.s.opn=(Rf.read p.od p.oa p.ot p.on p.aS).opn)
def kW(w:World)(O:Nat→Nat×Nat)(b:Nat)(pl:List (Pl×PA))(n:Nat)(pa:Option Addr)(pc:Nat)(w' :World):Prop:=∃O' hl' ha' hc', WI w' O' b pl hl' pa pc ha' hc' ∧hl'.length=n∧bF (fun _=>False) O O' w w'
section
variable {w:World}{O:Nat→Nat×Nat}{b:Nat}{pl:List (Pl×PA)}{hl:List HA}{pa ha:Option Addr}{pc hc:Nat}
theorem RQ(h:WI w O b pl hl pa pc ha hc){K:Nat}(Y:i<pl.length)(p:eM K pl[i].1)(hK:K≤100000000)(Z:Gt w O):
 Calls Tryz.prog 49 #[.pointer (some ⟨pl[i].2.xb,0,none⟩)] w fun e w' =>e=.returned (.bool (rD pl[i].1))∧Below w.heap.size w w' :=by
 have D:=h.ps i Y;have J:=aB (Go.Proofs.YtmgfijllcdadgaaGreatDoor.vR D.rd);have E:=aB D.blk;obtain⟨c,r,d⟩:=aM D.blk;obtain⟨y,a⟩:∃x,x=rD pl[i].1:=⟨_,rfl⟩;rw[←a];unfold rD at a;have M:=aB (fun(W:World) (N:Below w.heap.size w W)=>V.lu (on:=pl[i].1.on) p.d1 p.d2 p.a1 p.a2 p.t1 p.t2 (show pl[i].1.aS.length≤100000000 by have:=p.fd;omega) W (Z.gr.below N));unfold dL at c;clear h p Z D;generalize pl[i]=q at *;obtain⟨⟨od,oa,ot,on,st,aS,said⟩,⟨xb,pb,L⟩⟩:=q;clear Y;dsimp only at a c r d J M E⊢;generalize Rf.read od oa ot on aS=A at *;have F:=aB a;clear a;go_enter func49,ntmps49
 go_wp2_with fail
 refine(aA J).mono ?_;rintro e w1 ⟨rfl,nq,rfl⟩;clear c r d;have f:=V.below_drewN w nq;have z:=(f.block _ (cE (aA E))).trans (aA E);obtain⟨c,r,d⟩:=aM z;unfold dL at c;have t:=aB (fun(W:World) (N:Below (w.drewN nq).heap.size (w.drewN nq) W)=>aA M W (f.trans (N.mono f.size)));have u:=aB f;clear z J M E f;generalize w.drewN nq=w1 at *;have P:∀o j,(w1.alloc o).cell? ⟨xb,j,none⟩=(#[.pointer (some ⟨pb,0,none⟩),.int .i64 od,.int .i64 oa,.int .i64 ot,.bool on,.string ⟨aS.toArray⟩,.int .i64 said]:Array Value)[j]?:=fun o j=>by rw[←c j];exact fU (Below.heap_alloc _ _ _ d)
 go_wp2_with fail
 go_cut [5] (fun s5 wx=>Hid (pZ w1 wx s5 A))
 case first=>
  have v:Below w1.heap.size w1 w1.drew:=⟨rfl,rfl,rfl,Nat.le_refl _,fun _ _=>rfl⟩;have Q:∀o,Below w1.heap.size w1 (w1.alloc o).drew:=fun o=>⟨rfl,rfl,rfl,by simp,fun k p=>Below.heap_alloc _ _ _ p⟩
  go_region_with (go_at_call 45;first
   |(refine(aA t _ v).mono ?_;rintro e R ⟨v4,rfl,l,m⟩;obtain⟨G,H,s,I,rfl,n⟩:=uy (W0:=w1) (W:=w1.drew) v l m;have S:=uq R A G H s I;have HO:=aB n;clear n l m)
   |(refine(aA t _ (Q _)).mono ?_;rintro e R ⟨v4,rfl,l,m⟩;obtain⟨G,H,s,I,rfl,HZ,n⟩:=uz (W0:=w1) (W:=w1.drew) v l m;have S:=uw R w1.heap.size A G H s I HZ;have HO:=aB n;clear n l m HZ))
  all_goals
   go_wp2_with fail
   go_meet
   exact HO
 case rest=>
 obtain⟨g,G,H,s,I,rfl,hg,B,-,C⟩:=aA hcut;rename World=>w2
 obtain⟨T,a0,a3⟩:=aM B;unfold fZ at T;have HB:=aB ((aA u).trans (C.mono (aA u).size));clear c r d B hcut P C t u;generalize a4:(st.line==A.line)=c1 at *;cases c1
 .have X:y=false:=by rw[aA F];rfl
  clear F;subst X;go_wp2_with fail
  go_ret;exact⟨rfl,aA HB⟩
 have X:y=(st.column==A.column):=by rw[aA F];rfl
 clear F;subst X;go_wp2_with fail
 go_ret;exact⟨rfl,aA HB⟩
end
end Go.Proofs.YtmgfijllcdadgaaGreatDoor.U
