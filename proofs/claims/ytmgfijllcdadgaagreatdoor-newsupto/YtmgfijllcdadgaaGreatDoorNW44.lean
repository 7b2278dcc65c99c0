import Derived.Test.YtmgfijllcdadgaaGreatDoorNW43
set_option linter.unusedVariables false
set_option linter.unusedSimpArgs false
set_option maxHeartbeats 2000000
set_option maxRecDepth 100000
namespace Go.Proofs.YtmgfijllcdadgaaGreatDoor.U
open Go.RowKit
open Mk (Bs Ev aD)
open V
open Go.Proofs.Tryz
variable {v:Value}{n m:Nat}{w' :World}{ps:List Pl}{p' :Pl}
section
variable {w W:World}{l:List Ev}{es:List (Ev×Value)}
theorem CR.len(h:CR w W l es):es.length=l.length:=by rw[←h.evs];simp
theorem CR.mem(h:CR w W l es){p:Ev×Value}(a:p∈es):p.1∈l:=by rw[←h.evs];exact List.mem_map_of_mem a
theorem CR.own(h:CR w W l es)(b:∀e∈l,e.aC.length≤100000000):∀p∈es,(aN p).owned W 0:=fun p a=>by
 obtain⟨g,c,f,d⟩:=h.jT p a;have i:=b _ (h.mem a);unfold Row.owned aN;simp only[c];refine⟨lJ _,.inr ⟨g,_,_,rfl,Nat.zero_le _,d,Nat.le_succ _,by unfold maxLen;omega,?_,?_⟩⟩
 .simp[lJ,oJ];omega
 simp only[List.toList_toArray];exact List.take_left' (lJ _)
theorem CR.lt(h:CR w W l es):∀k∈aW (es.map aN),w.heap.size<k∧k<W.heap.size:=fun k q=>by
 obtain⟨r,b,a⟩:=List.mem_filterMap.1 q;obtain⟨p,c,rfl⟩:=List.mem_map.1 b;obtain⟨g,d,e,f⟩:=h.jT p c;have a:p.2.ownBlock=some k:=a;rw[d]at a;injection a with a;subst a;exact⟨e,cE f⟩
theorem CR.below{b:World}(h:CR w W l es)(a:Below W.heap.size W b):CR w b l es:=
 ⟨(a.block _ (cE h.blk)).trans h.blk,h.evs,fun p d=>by
  obtain⟨g,e,f,c⟩:=h.jT p d
  exact⟨g,e,f,(a.block _ (cE c)).trans c⟩,h.nd,h.aU.trans (a.mono h.aU.size)⟩
def lK(w:World)(es:List (Ev×Value)):List Nat:=w.heap.size::aW (es.map aN)
theorem CR.DG(h:CR w W l es):(lK w es).Nodup:=List.nodup_cons.2 ⟨fun q=>by have:=(h.lt _ q).1;omega,h.nd⟩
theorem CR.got(h:CR w W l es)(f:l.length≤100000000)(c:∀e∈l,e.aC.length≤100000000):iR W (.slice (some ⟨w.heap.size,0,none⟩) l.length (l.length+1)) l (lK w es):=by
 have a:=h.len;refine⟨es,h.evs,⟨fun r b=>?_,h.DG⟩,fun k q=>q⟩;rcases List.mem_cons.1 b with rfl|b
 .refine⟨by show(bA es).length=_;rw[kZ,a],.inr ⟨w.heap.size,l.length+1,_,rfl,Nat.zero_le _,h.blk,Nat.le_succ _,by unfold maxLen;omega,by rw[List.size_toArray,kZ];simp[a],?_⟩⟩;simp only[List.toList_toArray];have e:bA (es++[(Ps,Value.slice none 0 0)])=bA es++bA [(Ps,Value.slice none 0 0)]:=by simp[bA]
  rw[e];exact List.take_left' (by rw[kZ,a])
 obtain⟨p,d,rfl⟩:=List.mem_map.1 b;exact h.own c p d
theorem CR.full(h:CR w W l es)(i:l.length≤100000000)(g:∀e∈l,e.aC.length≤100000000):iR W (.slice (some ⟨w.heap.size,0,none⟩) (l.length+1) (l.length+1)) (l++[Ps]) (lK w es):=by
 have c:=h.len;have d:aW ((es++[(Ps,Value.slice none 0 0)]).map aN)=aW (es.map aN):=by simp[aW,aN,Value.ownBlock]
 have a:aW (⟨65,5,.slice (some ⟨w.heap.size,0,none⟩) (l.length+1) (l.length+1),(l++[Ps]).length,bA (es++[(Ps,Value.slice none 0 0)])⟩::(es++[(Ps,Value.slice none 0 0)]).map aN)=lK w es:=by
  unfold lK;rw[←d];rfl
 refine⟨es++[(Ps,Value.slice none 0 0)],by rw[List.map_append,h.evs];rfl,⟨fun r f=>?_,by rw[a];exact h.DG⟩,fun k q=>by rw[a]at q;exact q⟩;rcases List.mem_cons.1 f with rfl|f
 .refine⟨by show(bA _).length=_;rw[kZ];simp[c],.inr ⟨w.heap.size,l.length+1,_,by simp,Nat.zero_le _,h.blk,by simp,by unfold maxLen;omega,by rw[List.size_toArray,kZ];simp[c],?_⟩⟩;simp only[List.toList_toArray];exact List.take_of_length_le (by rw[kZ];simp[c])
 obtain⟨p,b,rfl⟩:=List.mem_map.1 f;rcases List.mem_append.1 b with b|b
 .exact h.own g p b
 rw[List.mem_singleton.1 b];exact World.ownsRow_nil _ _ _ _
theorem NL{L M:Nat}(h:CR w W l es)(r:bN L M W v l)(N:l.length≤100000000)(s:∀e∈l,e.aC.length≤100000000):
 Calls Tryz.prog 66 #[.slice (some ⟨w.heap.size,0,none⟩) (l.length+1) (l.length+1),v] W fun e w' =>e=.returned (.bool true)∧Below W.heap.size W w' :=by
 have t:=aB (P_ (rK (h.got N s)) r);rw[(Rf.same_iff l l).2 rfl]at t;obtain⟨va,vc,O,C⟩:=r.form;subst O;have P:=aB h;have D:=aB C;have HA:=aB s;have e0:(l.length:Int)≤(l.length:Int)+1:=by omega
 have e1:(l.length:Int)<(l.length:Int)+1:=by omega
 clear h r C s;go_enter func66,ntmps66
 go_wp2_with fail
 refine(aA t).mono ?_;rintro e w1 ⟨rfl,j⟩;have c:=(aA P).below j;have d:=c.len;obtain⟨b,u,x⟩:=aM c.blk;have a:(bA es).length=l.length*5:=by rw[kZ,d]
 have Q:w1.cell? ⟨w.heap.size,l.length*5,none⟩=some (.int .i64 0):=by
  rw[b];simp[Ps,bA,bP]at a⊢;simp[a,List.getElem?_append]
 have R:w1.cell? ⟨w.heap.size,l.length*5+1,none⟩=some (.string ⟨#[115,112,97,114,101]⟩):=by
  rw[b];simp[Ps,bA,bP]at a⊢;simp[a,List.getElem?_append];rfl
 have f:=aB c;have m:=aB j;clear c b a d j t;go_wp2_with fail
 go_loopg [7,8] l.length (fun g S T X=>∃i:Nat,i≤l.length∧g=l.length - i∧S=.bool true∧T=.int .i64 i∧X=w1)
 case atStart=>exact⟨0,Nat.zero_le _,rfl,rfl,rfl,rfl⟩
 case round=>
  obtain⟨i,Y,rfl,rfl,rfl,rfl⟩:=hrel;clear Q R;by_cases n:i<l.length
  .have Z:decide ((i:Int)<(l.length:Int))=true:=by simp;omega
   have e3:(i:Int)<(l.length:Int):=by omega
   have e4:(i:Int)<(l.length:Int)+1:=by omega
   obtain⟨E,o1,a1,f1,F,G,H⟩:=aA D i n;subst f1;have d:=(aA f).len;have o:i<es.length:=by omega
   obtain⟨aa,ac,y,-⟩:=H.form;subst y;have I:=G 4 (by decide);rw[←fU ((aA m).block E F)]at I;simp[bP]at I;obtain⟨g2,z,q2,A⟩:=(aA f).jT es[i] (List.getElem_mem o);have J:es[i].1=l[i]:=by have:=(aA f).evs;simp[←this]
   rw[J]at z A;obtain⟨b,u,x⟩:=aM (aA f).blk;have a0:wr.cell? ⟨w.heap.size,i*5+4,none⟩=some (.slice (some ⟨g2,0,none⟩) l[i].aC.length (l[i].aC.length+1)):=by
    rw[b];have B:=sZ (fun p:Ev×Value=>bP p.1 p.2) 5 (fun _=>rfl) (es++[(Ps,Value.slice none 0 0)]) i (by simp;omega) 4 (by decide);have e8:(bA (es++[(Ps,Value.slice none 0 0)])).toArray[i*5+4]?=(bA (es++[(Ps,Value.slice none 0 0)]))[i*5+4]?:=by simp
    rw[e8];unfold bA;rw[B,List.getElem_append_left o,z];rfl
   obtain⟨q,a2,a3⟩:=aM A;have a4:wr.cell? ⟨g2,l[i].aC.length*3,none⟩=some (.string ⟨#[115,112,97,114,101]⟩):=by
    rw[q];have B:=lJ l[i].aC;simp[oJ,B,List.getElem?_append];rfl
   have a5:=aA HA l[i] (List.getElem_mem n);have K:E<wr.heap.size:=Nat.lt_of_lt_of_le F (aA m).size;have e5:decide ((l[i].aC.length:Int)<(l[i].aC.length:Int)+1)=true:=by simp;omega
   have e6:(l[i].aC.length:Int)<(l[i].aC.length:Int)+1:=by omega
   have e7:(l[i].aC.length:Int)+1≤(l[i].aC.length:Int)+1:=Int.le_refl _;clear G H d z A J b q D HA;generalize l[i].aC.length=k at *;go_wp2_with fail
   go_roundg (l.length - (i+1))
   case measure=>omega
   case rel=>exact⟨i+1,by omega,rfl,rfl,by simp,rfl⟩
  have Z:decide ((i:Int)<(l.length:Int))=false:=by simp;omega
  have e3:decide (i<l.length)=false:=by simp;omega
  go_wp2_with fail
  go_ret;exact⟨rfl,aA m⟩
end
def qb(d a t:Int)(nm:Bool)(l:List Ev):Bool:=(wr d a t nm l).1==(Rf.write d a t nm l).1&&(wr d a t nm l).2==(Rf.write d a t nm l).2
section
variable {w:World}{O:Nat→Nat×Nat}{b:Nat}{pl:List (Pl×PA)}{hl:List HA}{pa ha:Option Addr}{pc hc:Nat}
theorem NM(d a t:Int)(nm:Bool)(l:List Ev)(h:(fo l).length≤7000000):(wr d a t nm l).1.length≤7000000:=by
 unfold wr;split
 .split
  .exact h
  simp
 simp
theorem NN(h:WI w O b pl hl pa pc ha hc){W w8:World}{f:List (Ev×Value)}{l:List Ev}(g:CR w W l f)(p:l.length≤100000000)(r:∀e∈l,e.aC.length≤100000000){a:Option Addr}{O8:Nat→Nat×Nat}{rM:List HA}{nB:Option Addr}{fH:Nat}(y:WI w8 O8 b pl rM pa pc nB fH)(n:bF (aT a) O O8 W w8)(i:∀k,aT a k→W.heap.size≤k∨(w.heap.size≤k∧k∉lK w f))(d:rM.length=hl.length+1)(F:hl.length≤16000000000000):
 Calls Tryz.prog 69 #[.pointer (some ⟨b,0,none⟩),.slice (some ⟨w.heap.size,0,none⟩) (l.length+1) (l.length+1)] w8 fun e w' =>e=.returned (.tuple #[])∧kW w O b pl (hl.length+l.length+3) pa pc w' :=by
 have c:∀k∈lK w f,w.heap.size≤k∧k<W.heap.size:=fun k q=>by
  rcases List.mem_cons.1 q with q|q
  .have:=cE g.blk;omega
  have:=g.lt k q;omega
 have j:∀k∈lK w f,¬aT a k:=fun k q e=>by
  have x:=c k q;rcases i k e with o|o
  .omega
  exact o.2 q
 have m:∀k∈lK w f,O8 k=fr∧k<w8.heap.size:=fun k q=>⟨n.tag k (c k q).2 (h.nw k (c k q).1) (j k q),Nat.lt_of_lt_of_le (c k q).2 n.ch.size⟩
 have z:=(g.full p r).keep (w' :=w8) fun k q=>n.ch.block k (c k q).2 fun e=>by
  rcases e with e|e
  .exact e (h.nw k (c k q).1)
  exact j k q e
 refine(CF y z m (by rw[List.length_append,d];simp;omega) (by rw[List.length_append];simp;omega)).mono fun e w' ⟨x,A,s,t,u,o,B,C⟩=>⟨x,A,s,t,u,o,by rw[B,d,List.length_append];simp;omega,?_⟩
 refine((bF.of_below (fun _=>False) g.aU).trans n fun k D v=>?_).trans C fun k D v=>?_
 .rcases i k v with E|E
  .have:=g.aU.size;omega
  omega
 have:=(c k v).1;omega
theorem NP{a:World}(c:Below w.heap.size w a)(h:kW a O b pl n pa pc w'):kW w O b pl n pa pc w' :=by
 obtain⟨O', hl', ha', hc', d,e,f⟩:=h;exact⟨O', hl', ha', hc', d,e,(bF.of_below (fun _=>False) c).trans f fun _ _ q=>q⟩
theorem qJ(h:WI w O b pl hl pa pc ha hc){lo up:Nat}{l:List Ev}(hr:bN lo up w v l)(od oa ot:Int)(on:Bool)(hs:rJ l)(hD:(fo l).length≤7000000)(hE:fW l≤100000000)(hG:Gt w O)(hn:hl.length≤16000000000000):
 Calls Tryz.prog 47 #[.pointer (some ⟨b,0,none⟩),.agg #[.int .i64 od,.int .i64 oa,.int .i64 ot,.bool on],v] w fun e w' =>e=.returned (.bool (qb od oa ot on l))∧kW w O b pl (hl.length+l.length+3) pa pc w' :=by
 have B:l.length≤100000000:=by have:=hs.n;omega
 have I:∀e∈l,e.aC.length≤100000000:=fun e he=>by have:=(hs.e e he).2.2.2.1;omega
 have i:=cZ w (.cells #[.int .i64 od,.int .i64 oa,.int .i64 ot,.bool on] 40);have HC:=aB (NK (hr.below i) B I);obtain⟨va,vc,hv,-⟩:=hr.form;subst hv;have HS:=aB (And.intro hs (And.intro B I));obtain⟨S,C⟩:∃x,x=qb od oa ot on l:=⟨_,rfl⟩;rw[←C];have T:=aB C;have X:=hG.gA (bF.of_below (O:=O) (fun _=>False) i) fun _ _ e=>e
 have HW:=aB (And.intro (h.below i) (And.intro (hr.below i) (And.intro X i)));have J:=heap_alloc_new w (.cells #[.int .i64 od,.int .i64 oa,.int .i64 ot,.bool on] 40);have ag:=NM od oa ot on l hD;clear h hr hs hG i C I X;go_enter func47,ntmps47
 go_wp2_with fail
 refine(aA HC).mono ?_;rintro e w1 ⟨es,rfl,m⟩;generalize(w.alloc (.cells #[.int .i64 od,.int .i64 oa,.int .i64 ot,.bool on] 40))=wo at *;obtain⟨aa,ab,a0,i⟩:=aA HW;have ah:=i.size;have o:=(m.aU.block _ (cE J)).trans J;obtain⟨K,L,M⟩:=aM o;have p:=a0.gA (bF.of_below (O:=O) (fun _=>False) m.aU) fun _ _ e=>e
 have a1:=aB (Nz (w:=w1.drew) (d:=od) (a:=oa) (t:=ot) (nm:=on) ((m.got B (aA HS).2.2).keep fun _ _=>rfl) (fun k q=>by rcases List.mem_cons.1 q with q|q;exact q▸cE m.blk;exact(m.lt k q).2) (aA HS).1 hD (Dl p.gl fun _ _=>rfl) p.lt);have H1:=aB (And.intro m (And.intro o p));have ad:=aB (fun k (q:k∈lK wo es)=>(show k<w1.heap.size by rcases List.mem_cons.1 q with q|q;exact q▸cE m.blk;exact(m.lt k q).2));have af:=m.aU.size;have e0:(l.length:Int)≤(l.length:Int)+1:=by omega
 clear aa ab a0 m o p J HC;generalize a2:wr od oa ot on l=Z at *;go_wp2_with fail
 go_cut [8,9] (fun s8 s9 w2=>∃A r,s8=.slice A Z.1.length r∧s9=.int .i64 Z.2∧Hid (w2.ownsRow w1.heap.size 5 1 (.slice A Z.1.length r) Z.1.length (Z.1.map bv)∧Below w1.heap.size w1 w2))
 case first=>
  go_region_with (go_at_call 65;refine(aA a1).mono ?_;rintro e w2 ⟨A,r,rfl,hrow,s⟩;have F:=aB (And.intro (show w2.ownsRow w1.heap.size 5 1 (.slice A Z.1.length r) Z.1.length (Z.1.map bv)from hrow) (show Below w1.heap.size w1 w2 from⟨s.os,s.tape,s.output,s.size,s.block⟩));clear hrow s)
  all_goals
   go_wp2_with fail
   go_meet
   exact⟨A,r,rfl,rfl,F⟩
 case rest=>
 obtain⟨A,r,rfl,rfl,F⟩:=hcut;rename World=>w2
 obtain⟨m,o,p⟩:=aA H1;have g:=(aA HW).2.1.below (m.aU.trans ((aA F).2.mono m.aU.size));have u:=m.below (aA F).2;have a3:=aB (NL u g B (aA HS).2.2);have y:=((aA F).2.block _ (cE o)).trans o;have D:=p.gA (bF.of_below (O:=O) (fun _=>False) (aA F).2) fun _ _ e=>e
 have H2:=aB (And.intro u (And.intro y (And.intro D g)));clear m o p g u y D H1 a1 K L M;go_wp2_with fail
 refine(aA a3).mono ?_;rintro e w3 ⟨rfl,z⟩;obtain⟨u,y,D,g⟩:=aA H2;have E:=u.below z;have a4:=(z.block _ (cE y)).trans y;have a5:=D.gA (bF.of_below (O:=O) (fun _=>False) z) fun _ _ e=>e
 have f:w3.ownsRow w1.heap.size 5 1 (.slice A Z.1.length r) Z.1.length (Z.1.map bv):=gY (aA F).1 fun k q=>z.block k (World.ownsRow.lt (aA F).1 k q).2
 have ae:=lT f;obtain⟨K,L,M⟩:=aM a4;have a6:=aB (LC (od:=od) (oa:=oa) (ot:=ot) (on:=on) (g.below z) hE a5.gr);have H3:=aB (And.intro E f);clear u y D g E a4 a5 f z H2 a3 F;generalize hY:Rf.write od oa ot on l=Y at *;go_wp2_with fail
 refine(aA a6).mono ?_;rintro e w4 ⟨rfl,N⟩;obtain⟨E,f⟩:=aA H3;have P:=E.below N;have j:w4.ownsRow w1.heap.size 5 (jU 3) (.slice A Z.1.length r) Z.1.length (Z.1.map bv):=gY f fun k q=>N.block k (World.ownsRow.lt f k q).2
 have G:∀k,aT A k→w1.heap.size≤k:=fun k q=>(World.ownsRow.lt j k (kx q)).1
 have HK:=aB (ow ((aA HW).1.below P.aU) (c:=3) (by decide) j (fun k q=>(aA HW).1.nw k (by have:=G k q;omega)) (by omega));rw[um]at HK;have a7:=aB (fun(w8:World) (O8:Nat→Nat×Nat) (nB:Option Addr) (fH:Nat) q1 q2=>NN (w8:=w8) (O8:=O8) (nB:=nB) (fH:=fH) (rM:=hl++[⟨w4.heap.size,3,A,r,r⟩]) (aA HW).1 P B (aA HS).2.2 q1 q2 (fun k q=>.inr ⟨by have:=G k q;omega,fun e=>by have:=aA ad k e;have:=G k q;omega⟩) (by simp) hn);have Q:(A=none∧r=0∧Z.1.length=0)∨∃g1,A=some ⟨g1,0,none⟩∧Z.1.length≤r∧r≤9223372036854775807:=by
  rcases j.2 with⟨R,h2⟩|⟨g1,cap,ai,R,_,_,h4,h5,_⟩
  .injection R with R _ h5;exact .inl ⟨R,h5,h2⟩
  injection R with R _ h5;subst h5;exact .inr ⟨g1,R,h4,by assumption⟩
 have aj:(Z.1.length:Int)≤(r:Int):=by omega
 have hfin:=aA T;unfold qb at hfin;rw[a2,hY]at hfin;clear a2 hY;clear E f P j G H3 a6 N K L M ae T;generalize ak:(Z.1==Y.1)=st at *;have H:=aB hfin;clear hfin;rcases Q with⟨rfl,rfl,-⟩|⟨g1,rfl,al,am⟩;all_goals
  go_wp2_with fail
  refine(aA HK).mono ?_;rintro e w8 ⟨rfl,O8,nB,fH,q1,q2⟩;have HE:=aB (aA a7 w8 O8 nB fH q1 q2);clear q1 q2 HK a7;go_wp2_with fail
  refine(aA HE).mono ?_;rintro e w9 ⟨rfl,hH⟩;have a8:=NP i hH;have a9:=aB a8;clear hH a8 HE;cases st
  .have hf:S=false:=aA H;subst hf;clear H;go_wp2_with fail
   go_ret;exact⟨rfl,aA a9⟩
  have hf:S=(Z.2==Y.2):=aA H;subst hf;clear H;go_wp2_with fail
  go_ret;exact⟨rfl,aA a9⟩
end
structure bR where
 k:Int
 n:Int
 od:Int
 oa:Int
 ot:Int
 on:Bool
 s:Bs
 l:List Ev
def fM(o:bR)(m:Nat):Nat:=(PL o.n m).toNat
theorem qc(o:bR)(h:0<m):fM o m<m:=by
 have:=Ct o.n m (by omega);unfold fM;omega
def kC(ps:List Pl)(o:bR):Bool:=decide (2≤o.k)&&decide (o.k≤7)&&decide (0<ps.length)
def oK:Pl:=⟨1,0,8,false,Mk.bC 1 0 8 false,[],0⟩
def i_(ps:List Pl)(o:bR):Pl:=ps.getD (fM o ps.length) oK
def ig(ps:List Pl)(o:bR):Bool:=
 if o.k=8 then qb o.od o.oa o.ot o.on o.l
 else if kC ps o=true then
  (if o.k=2 then(jl (i_ ps o) o.s).2 else if o.k=3 then(iH (i_ ps o)).2 else if o.k=4 then(i_ ps o).s.at_==((i_ ps o).aS.length:Int)else if o.k=5 then rD (i_ ps o)else if o.k=6 then rF (i_ ps o)else rG (i_ ps o))
 else true
def gF(ps:List Pl)(o:bR):List Pl:=
 if o.k=1 then ps++(if Rf.allowed o.od o.oa o.ot then[gB o.od o.oa o.ot o.on]else[])
 else if kC ps o=true then(if o.k=2 then ps.set (fM o ps.length) (jl (i_ ps o) o.s).1 else if o.k=3 then ps.set (fM o ps.length) (iH (i_ ps o)).1 else ps)
 else ps
def qd(o:bR)(v:Value):Array Value:=#[.int .i64 o.k,.int .i64 o.n,.int .i64 o.od,.int .i64 o.oa,.int .i64 o.ot,.bool o.on,.string ⟨o.s.toArray⟩,v]
structure oL(o:bR):Prop where
 n0: -9223372036854775808≤o.n
 n1:o.n≤9223372036854775807
 sm:rJ o.l
 wl:(fo o.l).length≤7000000
 es:fW o.l≤100000000
 ln:o.l.length≤1048576
def cF(w:World)(O:Nat→Nat×Nat)(b:Nat)(ps:List Pl)(n:Nat)(w' :World):Prop:=∃O' q_ hl' pa' pc' ha' hc', WI w' O' b q_ hl' pa' pc' ha' hc' ∧q_.map (·.1)=ps∧hl'.length≤n∧bF (fun _=>False) O O' w w'
section
variable {w:World}{O:Nat→Nat×Nat}{b:Nat}{pl:List (Pl×PA)}{hl:List HA}{pa ha:Option Addr}{pc hc:Nat}
theorem DI{o:bR}(h:0<pl.length):i_ (pl.map (·.1)) o=(pl[fM o pl.length]'(qc o h)).1:=by
 have:=qc o h;unfold i_;rw[List.length_map];simp[List.getD,this]
theorem cF.x_(h:kW w O b pl n pa pc w')(d:n≤m):cF w O b (pl.map (·.1)) m w' :=by
 obtain⟨O', hl', ha', hc', a,e,c⟩:=h;exact⟨O', pl,hl', pa,pc,ha', hc', a,rfl,by omega,c⟩
theorem cF.of_below{n:Nat}{w' :World}(h:WI w O b pl hl pa pc ha hc)(a:Below w.heap.size w w')(c:hl.length≤n):cF w O b (pl.map (·.1)) n w' :=⟨O,pl,hl,pa,pc,ha,hc,h.below a,rfl,c,bF.of_below _ a⟩
theorem cF.NQ(h:xP w O b pl hl ha hc ps w')(e:hl.length≤n):cF w O b (pl.map (·.1)++ps) n w' :=by
 obtain⟨O', a,c,d,f,g,i⟩:=h;exact⟨O', a,hl,c,d,ha,hc,f,i,e,g⟩
theorem cF.NR{i:Nat}(h:uH w O b pl hl pa pc ha hc i p' w')(a:hl.length≤n):cF w O b ((pl.map (·.1)).set i p') n w' :=by
 obtain⟨O', A,c,d⟩:=h;exact⟨O', _,hl,pa,pc,ha,hc,c,by rw[List.map_set],a,d⟩
theorem cF.NS{i xb:Nat}(h:rL w O b pl n pa pc i xb p' w')(d:n≤m):cF w O b ((pl.map (·.1)).set i p') m w' :=by
 obtain⟨O', A,hl', ha', hc', a,e,c,_⟩:=h;exact⟨O', _,hl', pa,pc,ha', hc', a,by rw[List.map_set],by omega,c⟩
theorem cF.back{e:World}(f:Below w.heap.size w e)(h:cF e O b ps n w'):cF w O b ps n w' :=by
 obtain⟨O', a,hl', c,d,ha', hc', g,i,j,k⟩:=h;exact⟨O', a,hl', c,d,ha', hc', g,i,j,(bF.of_below (fun _=>False) f).trans k fun _ _ q=>q⟩
end
section
variable {w:World}{O:Nat→Nat×Nat}{b:Nat}{pl:List (Pl×PA)}{hl:List HA}{pa ha:Option Addr}{pc hc:Nat}
theorem NT(h:WI w O b pl hl pa pc ha hc)(o:bR)(v:Value)(r:∃a n c,v=.slice a n c)(m:Gt w O)(t:pl.length≤1000000000)(i:o.k=1):
 Calls Tryz.prog 29 #[.pointer (some ⟨b,0,none⟩),.agg #[.int .i64 o.k,.int .i64 o.n,.int .i64 o.od,.int .i64 o.oa,.int .i64 o.ot,.bool o.on,.string ⟨o.s.toArray⟩,v]] w fun e w' =>e=.returned (.bool (ig (pl.map (·.1)) o))∧cF w O b (gF (pl.map (·.1)) o) hl.length w' :=by
 have f:ig (pl.map (·.1)) o=true:=by unfold ig kC;rw[if_neg (by omega)];simp[i]
 have g:gF (pl.map (·.1)) o=pl.map (·.1)++(if Rf.allowed o.od o.oa o.ot then[gB o.od o.oa o.ot o.on]else[]):=by unfold gF;rw[if_pos i]
 rw[f,g];obtain⟨u,x,y,rfl⟩:=r;obtain⟨k,n,od,oa,ot,on,s,l⟩:=o;dsimp only at *;have d:=cZ w (.cells #[.int .i64 k,.int .i64 n,.int .i64 od,.int .i64 oa,.int .i64 ot,.bool on,.string ⟨s.toArray⟩,.slice u x y] 60);have p:=aB (CP (h.below d) od oa ot on (Nat.lt_of_lt_of_le m.lt d.size) (by omega));have j:=aB d;generalize(if Rf.allowed od oa ot=true then[gB od oa ot on]else[])=X at *;subst i;have A:((1:Int)==1)=true:=rfl;clear h m f g d;go_enter func29,ntmps29
 go_wp2_with fail
 refine(aA p).mono ?_;rintro e w1 ⟨rfl,q⟩;have z:=aB (cF.back (aA j) (cF.NQ q (Nat.le_refl _)));clear q p;go_wp2_with fail
 go_ret;exact⟨rfl,aA z⟩
theorem NU(h:WI w O b pl hl pa pc ha hc)(o:bR){x y:Nat}(m:bN x y w v o.l)(c:oL o)(r:Gt w O)(z:hl.length≤16000000000000)(p:o.k=8):
 Calls Tryz.prog 29 #[.pointer (some ⟨b,0,none⟩),.agg #[.int .i64 o.k,.int .i64 o.n,.int .i64 o.od,.int .i64 o.oa,.int .i64 o.ot,.bool o.on,.string ⟨o.s.toArray⟩,v]] w fun e w' =>e=.returned (.bool (ig (pl.map (·.1)) o))∧cF w O b (gF (pl.map (·.1)) o) (hl.length+o.l.length+3) w' :=by
 have d:ig (pl.map (·.1)) o=qb o.od o.oa o.ot o.on o.l:=by unfold ig;rw[if_pos p]
 have f:gF (pl.map (·.1)) o=pl.map (·.1):=by unfold gF kC;rw[if_neg (by omega)];simp[p]
 rw[d,f];obtain⟨k,n,od,oa,ot,on,s,l⟩:=o;have g:=c.sm;have i:=c.wl;have j:=c.es;dsimp only at *;have a:=cZ w (.cells #[.int .i64 k,.int .i64 n,.int .i64 od,.int .i64 oa,.int .i64 ot,.bool on,.string ⟨s.toArray⟩,v] 60);have t:=aB (qJ (h.below a) (m.below a) od oa ot on g i j (r.gA (bF.of_below (O:=O) (fun _=>False) a) fun _ _ e=>e) z);have q:=aB a;obtain⟨C,D,A,-⟩:=m.form;subst A p;generalize qb od oa ot on l=X at *;have E:((8:Int)==1)=false:=rfl;have F:((8:Int)==8)=true:=rfl;clear h r d f a m c g i j;go_enter func29,ntmps29
 go_wp2_with fail
 refine(aA t).mono ?_;rintro e w1 ⟨rfl,u⟩;have B:=aB (cF.back (aA q) (cF.x_ u (Nat.le_refl _)));clear u t;go_wp2_with fail
 go_ret;exact⟨rfl,aA B⟩
theorem NV(h:WI w O b pl hl pa pc ha hc)(o:bR)(v:Value)(z:∃a n c,v=.slice a n c)(p:o.k≠1)(q:o.k≠8)(d:kC (pl.map (·.1)) o=false):
 Calls Tryz.prog 29 #[.pointer (some ⟨b,0,none⟩),.agg #[.int .i64 o.k,.int .i64 o.n,.int .i64 o.od,.int .i64 o.oa,.int .i64 o.ot,.bool o.on,.string ⟨o.s.toArray⟩,v]] w fun e w' =>e=.returned (.bool (ig (pl.map (·.1)) o))∧cF w O b (gF (pl.map (·.1)) o) hl.length w' :=by
 have f:ig (pl.map (·.1)) o=true:=by unfold ig;rw[if_neg q,d];rfl
 have g:gF (pl.map (·.1)) o=pl.map (·.1):=by unfold gF;rw[if_neg p,d];rfl
 rw[f,g];obtain⟨A,B,C,rfl⟩:=z;obtain⟨k,n,od,oa,ot,on,s,l⟩:=o;unfold kC at d;rw[List.length_map]at d;dsimp only at *;have i:=cZ w (.cells #[.int .i64 k,.int .i64 n,.int .i64 od,.int .i64 oa,.int .i64 ot,.bool on,.string ⟨s.toArray⟩,.slice A B C] 60);have r:=aB (cF.of_below h i (Nat.le_refl _));obtain⟨t,D,u⟩:=aM h.blk;have I:(k==1)=false:=by simpa using p
 have J:(k==8)=false:=by simpa using q
 have E:∀o j,(w.alloc o).cell? ⟨b,j,none⟩=(#[.slice pa pl.length pc,.slice ha hl.length hc]:Array Value)[j]?:=fun o j=>by rw[←t j];exact fU (Below.heap_alloc _ _ _ u)
 clear h f g i p q;by_cases x:k<2
 .have F:decide (k<2)=true:=by simpa using x
  clear d;go_enter func29,ntmps29
  go_wp2_with fail
  go_ret;exact⟨rfl,aA r⟩
 have F:decide (k<2)=false:=by simpa using x
 by_cases y:7<k
 .have G:decide (7<k)=true:=by simpa using y
  clear d;go_enter func29,ntmps29
  go_wp2_with fail
  go_ret;exact⟨rfl,aA r⟩
 have G:decide (7<k)=false:=by simpa using y
 have m:pl.length=0:=by
  by_cases H:pl.length=0
  .exact H
  exfalso;rw[show decide (2≤k)=true by simp;omega,show decide (k≤7)=true by simp;omega,show decide (0<pl.length)=true by simp;omega]at d;cases d
 have K:((pl.length:Int)==0)=true:=by simp[m]
 clear d m;go_enter func29,ntmps29
 go_wp2_with fail
 go_ret;exact⟨rfl,aA r⟩
end
section
variable {w:World}{O:Nat→Nat×Nat}{b:Nat}{pl:List (Pl×PA)}{hl:List HA}{pa ha:Option Addr}{pc hc:Nat}
theorem DJ(o:bR)(h:0<m):PL o.n m=((fM o m:Nat):Int):=by
 have:=Ct o.n m (by omega);unfold fM;omega
theorem NW(h:WI w O b pl hl pa pc ha hc)(o:bR){K:Nat}(v:Value)(hv:∃a n c,v=.slice a n c)(n0: -9223372036854775808≤o.n)(n1:o.n≤9223372036854775807)(a6:∀p∈pl,eM K p.1)(hK:K+o.s.length≤7000000)(hG:Gt w O)(hn:hl.length≤15000000000000)(ar:pl.length≤1000000000)
 (a7:∀p∈pl,(Rf.aS p.1.od p.1.oa p.1.ot p.1.on p.1.aS o.s).at_≤(p.1.aS++o.s).length) (k2:2≤o.k) (k7:o.k≤7) (a0:0<pl.length):
 Calls Tryz.prog 29 #[.pointer (some ⟨b,0,none⟩),.agg #[.int .i64 o.k,.int .i64 o.n,.int .i64 o.od,.int .i64 o.oa,.int .i64 o.ot,.bool o.on,.string ⟨o.s.toArray⟩,v]] w fun e w' =>e=.returned (.bool (ig (pl.map (·.1)) o))∧cF w O b (gF (pl.map (·.1)) o) (hl.length+84* (K+o.s.length)+5) w' :=by
 obtain⟨va,vn,vc,rfl⟩:=hv;have t:=cZ w (.cells #[.int .i64 o.k,.int .i64 o.n,.int .i64 o.od,.int .i64 o.oa,.int .i64 o.ot,.bool o.on,.string ⟨o.s.toArray⟩,.slice va vn vc] 60);obtain⟨r,Y⟩:∃r,r=(w.alloc (.cells #[.int .i64 o.k,.int .i64 o.n,.int .i64 o.od,.int .i64 o.oa,.int .i64 o.ot,.bool o.on,.string ⟨o.s.toArray⟩,.slice va vn vc] 60)):=⟨_,rfl⟩;rw[←Y]at t;have u:=qc o a0;have i:=h.below t;have a8:=hG.gA (bF.of_below (O:=O) (fun _=>False) t) fun _ _ e=>e
 have a1:kC (pl.map (·.1)) o=true:=by
  unfold kC;rw[List.length_map,show decide (2≤o.k)=true by simp;omega,show decide (o.k≤7)=true by simp;omega,show decide (0<pl.length)=true by simp;omega];rfl
 have hN:=DI (o:=o) a0;obtain⟨N,d⟩:∃x,x=ig (pl.map (·.1)) o:=⟨_,rfl⟩;obtain⟨P,f⟩:∃x,x=gF (pl.map (·.1)) o:=⟨_,rfl⟩;rw[←d,←f];unfold ig at d;unfold gF at f;rw[if_neg (by omega),if_pos a1,hN]at d;rw[if_neg (by omega),if_pos a1,hN,List.length_map]at f;have a2:=aB (fun W=>Cv o.n pl.length n0 n1 (by omega) (by omega) W);rw[DJ o a0]at a2;have S:pl[fM o pl.length]∈pl:=List.getElem_mem u;have hk:=a6 _ S;obtain⟨g,ai,aj,a9⟩:=ou i.pr u;rw[show(jF pl)[fM o pl.length]?=some (.pointer (some ⟨pl[fM o pl.length].2.xb,0,none⟩)) by simp[jF,u]]at a9;obtain⟨ak,al,am⟩:=aM i.blk;subst ai;have Q:=fun(W:World) (y:Below r.heap.size r W)=>a8.gA (bF.of_below (O:=O) (fun _=>False) y) fun _ _ e=>e
 have HF:=aB (fun(W:World) (y:Below r.heap.size r W)=>xI (i.below y) u hk o.s hK (Q W y) (by omega) (a7 _ S));have HC:=aB (fun(W:World) (y:Below r.heap.size r W)=>Dm (i.below y) u hk (by omega) (Q W y));have HA:=aB (fun(W:World) (y:Below r.heap.size r W)=>Af ((i.below y).ps _ u).rd);have aa:=aB (fun(W:World) (y:Below r.heap.size r W)=>RQ (i.below y) u hk (by omega) (Q W y));have HO:=aB (fun(W:World) (y:Below r.heap.size r W)=>RR (i.below y) u hk (by omega) (Q W y) (by omega));have HR:=aB (fun(W:World) (y:Below r.heap.size r W)=>RV (i.below y) u hk (by omega) (Q W y) (by omega));have hev:=Dy hk.inv o.s;have HW:=aB (And.intro h (And.intro t i));have a3:=aB (fun W (y:Below r.heap.size r W)=>((i.below y).ps _ u).blk);unfold dL at a3;have ab:=aB (And.intro d f);have an:=aB hev;clear h t i a8 a1 hN d f S hk hG a6 a7 Q hev;generalize pl[fM o pl.length]=q at *;generalize ao:fM o pl.length=ii at *;clear ao;obtain⟨⟨A,B,C,D,Z,aS,said⟩,⟨xb,pb,L⟩⟩:=q;obtain⟨k,n,od,oa,ot,on,s,l⟩:=o;dsimp only at *;obtain⟨a4,ad,a5⟩:=aM (heap_alloc_new w (.cells #[.int .i64 k,.int .i64 n,.int .i64 od,.int .i64 oa,.int .i64 ot,.bool on,.string ⟨s.toArray⟩,.slice va vn vc] 60));rw[←Y]at a4 ad a5;have z:Below r.heap.size r r.drew:=⟨rfl,rfl,rfl,Nat.le_refl _,fun _ _=>rfl⟩;have e1:(k==1)=false:=by simp;omega
 have e2:(k==8)=false:=by simp;omega
 have e3:decide (k<2)=false:=by simp;omega
 have e4:decide (7<k)=false:=by simp;omega
 have e5:((pl.length:Int)==0)=false:=by rw[beq_eq_false_iff_ne];omega
 have e6:(ii:Int)<(pl.length:Int):=by omega
 go_enter func29,ntmps29
 have ae:=Y.symm;clear Y;go_wp2_with fail
 go_cut [5] (fun s5 wx=>s5=.pointer (some ⟨xb,0,none⟩)∧wx=r.drew)
 case first=>
  go_region_with (go_at_call 46;refine(aA a2 _).mono ?_;rintro e w2 ⟨rfl,rfl⟩)
  all_goals
   go_wp2_with fail
   go_meet
   exact⟨rfl,rfl⟩
 case rest=>
 obtain⟨rfl,rfl⟩:=hcut;obtain⟨h,t,i⟩:=aA HW;obtain⟨d,f⟩:=aA ab;have af:Below w.heap.size w r.drew:=⟨t.os,t.tape,t.output,t.size,t.block⟩;have R:=aB af;have ag:=aB (i.below z);have ah:=aA a3 r.drew z;have ap:=aB ah;have au:∀j,r.drew.cell? ⟨w.heap.size,j,none⟩=(#[.int .i64 k,.int .i64 n,.int .i64 od,.int .i64 oa,.int .i64 ot,.bool on,.string ⟨s.toArray⟩,.slice va vn vc]:Array Value)[j]?:=a4;have av:w.heap.size<r.drew.heap.size:=a5;have E:=aB (aA HF _ z);have F:=aB (aA HC _ z);have G:=aB (aA HA _ z);have H:=aB (aA aa _ z);have I:=aB (aA HO _ z);have J:=aB (aA HR _ z);clear h t i HW ab ah a3 HF HC HA aa HO HR a4 ad a5 ak al am a9 aj af a2 ae z;generalize r.drew=wd at *;have aq:k=2∨k=3∨k=4∨k=5∨k=6∨k=7:=by omega
 clear e1 e2 e3 e4 k2 k7;rcases aq with rfl|rfl|rfl|rfl|rfl|rfl
 .have ha:N=(jl ⟨A,B,C,D,Z,aS,said⟩ s).2:=by rw[d];rfl
  have T:P=(pl.map (·.1)).set ii (jl ⟨A,B,C,D,Z,aS,said⟩ s).1:=by rw[f];rfl
  subst ha T;have t2:((2:Int)==2)=true:=rfl;clear d f;go_wp2_with fail
  refine(aA E).mono ?_;rintro e w9 ⟨rfl,M⟩;have X:=aB (cF.back (aA R) (cF.NS (m:=hl.length+84* (K+s.length)+5) M (by have:=aA an;omega)));clear M E F G H I J;go_wp2_with fail
  go_ret;exact⟨rfl,aA X⟩
 .have ha:N=(iH ⟨A,B,C,D,Z,aS,said⟩).2:=by rw[d];rfl
  have T:P=(pl.map (·.1)).set ii (iH ⟨A,B,C,D,Z,aS,said⟩).1:=by rw[f];rfl
  subst ha T;have t2:((3:Int)==2)=false:=rfl;have t3:((3:Int)==3)=true:=rfl;clear d f;go_wp2_with fail
  refine(aA F).mono ?_;rintro e w9 ⟨rfl,M⟩;have X:=aB (cF.back (aA R) (cF.NR (n:=hl.length+84* (K+s.length)+5) M (by omega)));clear M E F G H I J;go_wp2_with fail
  go_ret;exact⟨rfl,aA X⟩
 .have ha:N=(Z.at_==(aS.length:Int)):=by rw[d];rfl
  have T:P=pl.map (·.1):=by rw[f];rfl
  subst ha T;have t2:((4:Int)==2)=false:=rfl;have t3:((4:Int)==3)=false:=rfl;have t4:((4:Int)==4)=true:=rfl;obtain⟨aw,ax,ay⟩:=aM (aA ap);have X:=aB (cF.back (aA R) (cF.of_below (aA ag) (Below.refl _ _) (show hl.length≤hl.length+84* (K+s.length)+5 by omega)));clear d f;go_wp2_with fail
  refine(aA G).mono ?_;rintro e w9 ⟨rfl,rfl⟩;clear E F G H I J;go_wp2_with fail
  go_ret;exact⟨rfl,aA X⟩
 .have ha:N=rD ⟨A,B,C,D,Z,aS,said⟩:=by rw[d];rfl
  have T:P=pl.map (·.1):=by rw[f];rfl
  subst ha T;have t2:((5:Int)==2)=false:=rfl;have t3:((5:Int)==3)=false:=rfl;have t4:((5:Int)==4)=false:=rfl;have t5:((5:Int)==5)=true:=rfl;clear d f;go_wp2_with fail
  refine(aA H).mono ?_;rintro e w9 ⟨rfl,M⟩;have X:=aB (cF.back (aA R) (cF.of_below (aA ag) M (show hl.length≤hl.length+84* (K+s.length)+5 by omega)));clear M E F G H I J;go_wp2_with fail
  go_ret;exact⟨rfl,aA X⟩
 .have ha:N=rF ⟨A,B,C,D,Z,aS,said⟩:=by rw[d];rfl
  have T:P=pl.map (·.1):=by rw[f];rfl
  subst ha T;have t2:((6:Int)==2)=false:=rfl;have t3:((6:Int)==3)=false:=rfl;have t4:((6:Int)==4)=false:=rfl;have t5:((6:Int)==5)=false:=rfl;have t6:((6:Int)==6)=true:=rfl;clear d f;go_wp2_with fail
  refine(aA I).mono ?_;rintro e w9 ⟨rfl,M⟩;have X:=aB (cF.back (aA R) (cF.x_ M (show hl.length+1≤hl.length+84* (K+s.length)+5 by omega)));clear M E F G H I J;go_wp2_with fail
  go_ret;exact⟨rfl,aA X⟩
 have ha:N=rG ⟨A,B,C,D,Z,aS,said⟩:=by rw[d];rfl
 have T:P=pl.map (·.1):=by rw[f];rfl
 subst ha T;have t2:((7:Int)==2)=false:=rfl;have t3:((7:Int)==3)=false:=rfl;have t4:((7:Int)==4)=false:=rfl;have t5:((7:Int)==5)=false:=rfl;have t6:((7:Int)==6)=false:=rfl;clear d f;go_wp2_with fail
 refine(aA J).mono ?_;rintro e w9 ⟨rfl,M⟩;have X:=aB (cF.back (aA R) (cF.x_ M (show hl.length+1≤hl.length+84* (K+s.length)+5 by omega)));clear M E F G H I J;go_wp2_with fail
 go_ret;exact⟨rfl,aA X⟩
end
end Go.Proofs.YtmgfijllcdadgaaGreatDoor.U
