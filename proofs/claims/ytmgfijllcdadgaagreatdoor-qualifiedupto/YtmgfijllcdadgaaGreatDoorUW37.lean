import Derived.Test.YtmgfijllcdadgaaGreatDoorUW35
set_option linter.all false
set_option maxHeartbeats 16000000
set_option maxRecDepth 100000
namespace Go.Proofs.YtmgfijllcdadgaaGreatDoor.V
open Go.RowKit
open Go.Proofs.Tryz
open Rf
open Mk (U Ev aI)
variable {E:R}{n:Nat}
section
variable {w0 w1 w w' :World}{b:Nat}{s r:R}{L:bA}{v:Value}{l:List aI}
def gm.old(h:gm w1 w b r L v l)(a:w0.heap.size<=w1.heap.size):gm w0 w b r L v l:=⟨xC h.row a,h.nf⟩
def gm.setAt(h:gm w0 w b r L v l)(f:b<w0.heap.size)(i:Nat)(u:Value){c:R}(d:cO c L=cO r L):gm w0 (w.setCell ⟨b,i,none⟩ u) b c L v l:=by
 have:=h.yO (a:=⟨b,i,none⟩) (λe=>by have:=(World.ownsRow.lt h.row b e).1;omega) u;exact⟨this.row,by rw[d];exact this.nf⟩
def gm.alloc(h:gm w0 w b r L v l)(o:Obj):gm w0 (w.alloc o) b r L v l:=
 h.below ⟨rfl,rfl,rfl,by simp,λk a=>dG _ _ _ a⟩
theorem abl:(prog.info? 9).map (λi=>(i.zero,i.size,i.bytes))=some (some (.string ByteArray.empty),1,16):=by kernel_rfl
def abm{a q:R}{f:U}{b:List aI}(d:Fit s)(P:Pre s a f b)(hd:(s.I.length:Int)≠s.od)(c:Kp s q)(i:a.A+1<=q.A)(hev:q.y=s.y):Fit (dX q f b):=by
 obtain⟨e,j⟩:=xI q f b;generalize dX q f b=o at *;have m:=d.ev;have p:=P.n;have r:=d.zo;have k:=c.le;have h:=d.ok;refine⟨?_,?_,?_,?_,?_,?_,?_,?_,?_⟩
 .rw[e];exact⟨by show q.s.length<=_;rw[c.s];exact h.len,k,by show 0<=q.S;rw[c.S];exact h.t0,by show q.S<=_;rw[c.S];exact h.t1⟩
 .rw[e];show 1<=q.S;rw[c.S];exact d.S
 .rw[e];show 0<=q.oa/\q.oa<=_;rw[c.oa];exact d.oa
 .rw[e];show q.od<=_;rw[c.od];exact d.od
 .rw[e];show((q.I++[f]).length:Int)<=q.od;rw[c.od,c.op,bT];simp only[cT,fB];omega
 .rw[e];show(q.P++[b]).length=(q.I++[f]).length;rw[c.op,c.tg];simp[d.tl]
 .rw[e];show q.s.length<=_;rw[c.s];exact d.sl
 .rw[e];intro t l;obtain g|g:=List.mem_append.1 (show t∈q.P++[b]from l)
  .rw[c.tg]at g;exact d.sh t g
  rw[List.mem_singleton.1 g];exact P.sh
 have:o.A=q.A:=by rw[e]
 rw[hev]at j;omega
def abn(h:bD w b E L)(i:E.I.length=n+1):∃g,L.oa=some ⟨g,0,none⟩/\n+1<=L.oc:=by
 have c:=h.rows.own (jo E L) (by simp[eP]);simp only[Row.owned,jo]at c;obtain⟨_,j⟩|⟨g,d,e,a,_,_,k,_⟩:=c.2
 .omega
 injection a with a _ f;exact⟨g,a,by omega⟩
def abo(h:bD w b E L)(i:E.P.length=n+1):∃g,L.ga=some ⟨g,0,none⟩/\n+1<=L.gc:=by
 have c:=h.rows.own (gH E L) (by simp[eP]);simp only[Row.owned,gH]at c;obtain⟨_,j⟩|⟨g,d,e,a,_,_,k,_⟩:=c.2
 .omega
 injection a with a _ f;exact⟨g,a,by omega⟩
def abp{c:List Nat}{k:Nat}(m:bL w0 b c w E L)(a:E.I.length=n+1)(d:E.P.length=k+1)(hx:∃g L0,bD w0 b g L0/\L0.gs.map (·.2)<+:L.gs.dropLast.map (·.2)):
 bL w0 b c (((w.drew).setCell ⟨b,10,none⟩ (.slice L.oa n L.oc)).drew.setCell ⟨b,11,none⟩ (.slice L.ga k L.gc)) {E with I:=E.I.dropLast,P:=E.P.dropLast} {L with gs:=L.gs.dropLast}:=by
 have f:=m.drew.aaN (by intro h;rw[h]at a;simp at a);rw[a,ajR]at f;have i:=f.drew.aaO (s:={E with I:=E.I.dropLast}) (by intro h;have h:E.P=[]:=h;rw[h]at d;simp at d) hx;have e:({E with I:=E.I.dropLast}:R).P.length - 1=k:=by show E.P.length - 1=k;omega
 rwa[e]at i
def abq(f:Nat)(hC:CC f):EC (f+1):=by
 intro w b s L h F hG bu hi a2;have HM:=Y h;have a3:=Y F;have bj:=Y λ(W:World) (r:R) (C:bA) (hm:bL w b (cO s L) W r C)=>hG.mv h hm bu;have HC:=Y hC;obtain⟨i0,d8,d9,da,db⟩:=lg abl;obtain⟨j0,dc,dd,de,df⟩:=lg DY;obtain⟨aw,hf,a4⟩:=h.zzw;have em:=F.ok.len;have dg:=F.sl;have eo:=F.zo;have ep:=F.od;obtain⟨Q,i⟩:=aj8 (Rf.je (f+1) s);rw[<-i];rw[Eg]at i;have G:Hid (bL w b (cO s L) ((w.drewN 0).setCell ⟨b,5,none⟩ (.int .i64 ((s.A:Int)+1))) {s with A:=s.A+1} L):=(h.start.drewN 0).store 5 _ {s with A:=s.A+1} (by simp[aR]) rfl rfl rfl;have a5:Kp s {s with A:=s.A+1}:=.to;obtain⟨q,hq⟩:∃q:R,q={s with A:=s.A+1}:=⟨_,rfl⟩;have al:q.I=s.I:=by rw[hq]
 have am:q.od=s.od:=by rw[hq]
 rw[<-hq]at i G a5;have O:=F.kp a5;have er:=Y O;rw[zn,al,am]at i;clear h F hG hC;cases ax:((s.I.length:Int)==s.od);focus
  rw[ax,M]at i;have a6:(s.I.length:Int)≠s.od:=by simpa using ax
  have HW:=Y λ(W:World) (C:bA) (hW:bD W b q C)=>Ht hW O.ok;have a7:=tX O.ok.A O.ok.t0;obtain⟨x,hx⟩:=akb (Rf.cF q);rw[hx]at i HW a7;obtain⟨qw,l,o⟩:=x;simp only at i a7;cases o;focus
   have HF:=Y (show Q=(qw,false)from i);clear i a5 O hq al am a2 a7 hx a6
  rotate_left;focus
   rw[J rfl]at i;have a8:=O.kp a7;have HA:=Y λ(W:World) (C:bA) (hW:bD W b qw C) (bw:gQ W)=>aa9 hW a8.ok a8.S a8.oa a8.sl bw bu;obtain⟨x2,ay⟩:=akb (Rf.lX qw);have hpre:=λha=>Ei hi a3.u.S dg hq hx ay ha;rw[ay]at i HA;obtain⟨a,d,o2⟩:=x2;simp only at i hpre;cases o2;focus
    have HF:=Y (show Q=(a,false)from i);clear i a5 O hq al am a2 a7 hx a6 a8 hpre ay
   rotate_left;focus
    rw[J rfl]at i;cases S:(a.on&& !pU a l d)
    .have hP:=hpre rfl;have D:=a3.u.kp hP.kp;have dh:a.A<a.s.length:=by rw[hP.kp.s];exact hP.A
     have bx:a.P.length<=1000000:=by rw[D.tl];have:=D.zo;have:=D.od;omega
     have HQ:=Y λ(W:World) (C:bA) (hW:bD W b a C) (va:Value) (hrow:W.ownsRow (b+1) 69 3 va d.length (cQ d))=>Ol hW l hP.nl d va hrow hP.sh D.sh bx;have HP:=Y hP;have di:=Y D;have ed:d.length<=100000000:=by have:=hP.n;have:=hP.A;omega
     unfold xH at i;have T:Kp s {a with A:=a.A+1}:=HP.u.kp.trans (.to);have bz:=Y λ(W:World) (C:bA) (m:bL w b (cO s L) W a C)=>m.store 5 (.int .i64 ((a.A:Int)+1)) {a with A:=a.A+1} (by simp[aR]) rfl rfl rfl;obtain⟨q1,an⟩:∃q1:R,q1={a with A:=a.A+1}:=⟨_,rfl⟩;have az:Hid (∀C,cO q1 C=cO a C):=λC=>by rw[an];rfl
     have b0:q1.A=a.A+1:=by rw[an]
     have cl:Hid (a.I=q1.I):=by rw[an];exact rfl
     have af:q1.y=s.y:=by rw[an];exact HP.u.ev
     rw[<-an]at i T bz;clear an;generalize dj:a.on=on at *;generalize bk:pU a l d=qu at *;clear a5 O hq al am a7 hx a8 hpre ay hP D;rw[S,M]at i;obtain⟨y,cm,es,hy⟩:=gP a a.A dh;have eu:(a.A:Int)<(a.s.length:Int):=by omega
     have ee:=di.u.sl;rw[cm]at i;have bl:=a3.u.kp T;have cn:on=true->qu=true:=by intro h;subst h;cases qu<;>simp_all
     have dk:=HP.u.nl;clear S bk cm hy;cases co:((y.toNat:Int)==47);focus
      rw[co,M]at i;obtain⟨j,rfl⟩:∃j:R,j=q1:=⟨q1,rfl⟩;have a9:=T;have ag:a.A+1<=j.A:=by omega
      have X:=af
     rotate_left;focus
      rw[co,J rfl]at i;have cp:=Y λ(W:World) (C:bA) (hW:bD W b q1 C)=>vL hW bl.ok 62 (by omega) (by omega);have bm:=mX T.le 62;generalize Rf.bW q1 62=mu at *;obtain⟨j,o⟩:=mu;cases o;focus
       have HF:=Y (show Q=(j,false)from i);clear i bm bl T b0 af a2 a6
      rotate_left;have z:j={q1 with A:=q1.A+1}:=(bm.2 rfl).1;have a9:Kp s j:=T.trans bm.1;have ag:a.A+1<=j.A:=by rw[z];show a.A+1<=q1.A+1;omega
      have X:j.y=s.y:=by rwa[z]
      clear z bm
     rotate_left 2;iterate 2
      obtain⟨ab,dl⟩:=xI j l d;have B:=abm a3.u HP.u a6 a9 ag X;have ef:j.I.length<=1000000:=by rw[a9.op];omega
      have eg:j.P.length<=1000000:=by rw[a9.tg,a3.u.tl];omega
      have cq:Hid (∀t∈({j with I:=j.I++[l],P:=j.P++[d]}:R).P,Sh t):=by
       have h5:=B.sh;rwa[ab]at h5
      have cr:Hid (({j with I:=j.I++[l],P:=j.P++[d]}:R).y.length+d.length<=900000000):=by
       show j.y.length+d.length<=900000000;have h5:=a3.u.ev;rw[X];omega
      have c0:Hid ((dX j l d).P=({j with I:=j.I++[l],P:=j.P++[d]}:R).P):=by rw[ab];exact rfl
      have ad:(dX j l d).I.length=j.I.length+1:=by rw[ab];simp
      have ae:(dX j l d).P.length=j.P.length+1:=by rw[ab];simp
      have b1:(dX j l d).A=j.A:=by rw[ab]
      have ao:(dX j l d).s=s.s:=by rw[ab];exact a9.s
      obtain⟨om,b2⟩:=aj8 (dX j l d);have dm:=Y b2;clear ab dl;rotate_left
     rotate_left;focus
      rw[<-b2]at i B c0 ad ae b1 ao;have c1:=HP.u.n;have b3:=(rM f).2 om om.A B.ok.A B.S B.sl;have dn:=Y λ(W:World) (C:bA) (hW:bD W b om C) (bw:gQ W)=>HC.u W b om C hW B bw bu (by rw[ao];omega);unfold zm at i;unfold xJ at b3;clear a9 ag X T bl b0 af a2 a6 b1;generalize Rf.dK f om om.A=cc at *;clear b2;obtain⟨c,oc⟩:=cc;cases oc;focus
       have HF:=Y (show Q=(c,false)from i);clear i b3 B ao ad ae c1
      rotate_left;obtain⟨kc,ap⟩:=b3 rfl;have dp:Hid (c.P=om.P):=kc.tg;have b4:=B.kp kc;have aw:c.A+2<=c.s.length:=by rwa[kc.s]
      have dq:=Y λ(W:World) (C:bA) (hW:bD W b c C)=>aaT l hW b4.ok dk b4.sl aw;have aq:=Il aw l;replace i:Q=if(jX c l).2 then(mD (jX c l).1 l d,true)else((jX c l).1,false):=i;generalize jX c l=et at *;obtain⟨m,oe⟩:=et;cases oe;focus
       have HF:=Y (show Q=(m,false)from i);clear i b3 B ao ad ae c1 aq b4 aw ap kc
      rotate_left;replace i:Q=(mD m l d,true):=i;have b5:Hid (Fit m):=b4.kp aq;have dr:Hid (m.P=c.P):=aq.tg;have c2:m.I.length=j.I.length+1:=by have h5:=aq.op;have h6:=kc.op;simp only at h5;rwa[h5,h6]
      have c3:m.P.length=j.P.length+1:=by have h5:=aq.tg;have h6:=kc.tg;simp only at h5;rwa[h5,h6]
      clear b3 ao ad ae c1 aq aw ap kc b4 B
     rotate_left 3;focus
      replace i:Q=(mD (dX j l d) l d,true):=i;rw[<-b2]at i c0 ad ae B;have b5:=Y B;have c2:=ad;have c3:=ae;obtain⟨m,rfl⟩:∃m:R,m=om:=⟨om,rfl⟩;clear B a9 ag X ad ae b2 T bl b0 af a2 a6 b1 ao
     iterate 2
      have ds:=b5.u.ev;have dt:=b5.u.sl;have du:=b5.u.ok.A;have c4:=Y λ(W:World) (C:bA) (hW:bD W b m C) (v:Value) (dv:(d,v)∈C.gs)=>aaF hW l d v dv HP.u.nl b5.u.sh (by omega);obtain⟨b6,dw⟩:=OJ m l d;obtain⟨E,hE⟩:=aj8 (Rf.aL m l d);have HF:=Y (show Q=({E with I:=E.I.dropLast,P:=E.P.dropLast},true) by rwa[hE]);rw[<-hE]at c4 b6;have c5:Hid (E.I.length=j.I.length+1):=by rw[b6];exact c2
      have c6:Hid (E.P.length=j.P.length+1):=by rw[b6];exact c3
      have cs:Hid (E.P=m.P):=by rw[b6];exact rfl
      clear b6 dw hE i ds dt du c2 c3;rotate_left 2
     all_goals
      obtain _|_:=on;all_goals
       try obtain rfl:=cn rfl
       clear cn;go_enter func84,ntmps84;go_wp2_with fail;go_region
       go_wp2_with(first
        |(go_at_call 109;go_call(HW.u _ _ G.u.drew.X)as e w1 ⟨rfl,L1,z⟩;have A:=Y (G.u.drew.call z);clear z)
        |(go_at_call 110;go_call(HA.u _ _ A.u.X (bj.u _ _ _ A.u))as e w2 ⟨L2,va,rfl,H,I⟩;obtain⟨aa,ac,rfl⟩:=iE I.row;have a0:=Y (A.u.call H);have ar:=Y (I.old A.u.fr.size);obtain⟨ap,c7,b7⟩:=H.X.zzw;clear H I)
        |(go_at_call 111;go_call(HQ.u _ _ a0.u.X _ (ar.u.low a4))as e w3 ⟨rfl,au⟩;have b8:=Y (a0.u.below au);have dx:=Y (ar.u.below au);obtain⟨dy,dz,ct⟩:=b8.u.X.zzw;clear au))
       first
        |(have c8:=b8;have c9:=dx;have e0:=dy;have e1:=dz;have cu:=ct)
        |(have c8:=a0;have c9:=ar;have e0:=ap;have e1:=c7;have cu:=b7)
       have ca:=Y (bz.u _ _ c8.u).drew;have cv:=Y (c9.u.setAt a4 5 (.int .i64 ((a.A:Int)+1)) (az.u _)).drew;go_region
       go_wp2_with(first
        |(go_at_call 107;go_call(cp.u _ _ ca.u.X)as e w6 ⟨rfl,L6,bn⟩;have av:=Y (ca.u.call bn);have cw:=Y (cv.u.call a4 bn);obtain⟨cx,cy,cz⟩:=bn.X.zzw;clear bn)
        |(at_builtin;apply lJ;intro P))
       first
        |(go_ret;have hF:=HF.u;subst hF;exact⟨rfl,L6,av.u⟩)
        |skip
       all_goals
        first
         |(have:=av.u;have ah:True:=trivial)
         |(have av:=Y (bz.u _ _ c8.u);have cw:=Y (c9.u.setAt a4 5 (.int .i64 ((a.A:Int)+1)) (az.u _));clear ca cv;(first|(have ah:(w3.setCell ⟨b,5,none⟩ (.int .i64 ((a.A:Int)+1))).heap.size=w3.heap.size:=(by simp[World.setCell]);generalize w3.setCell ⟨b,5,none⟩ (.int .i64 ((a.A:Int)+1))=w6 at *)|(have ah:(w2.setCell ⟨b,5,none⟩ (.int .i64 ((a.A:Int)+1))).heap.size=w2.heap.size:=(by simp[World.setCell]);generalize w2.setCell ⟨b,5,none⟩ (.int .i64 ((a.A:Int)+1))=w6 at *));obtain⟨L6,rfl⟩:∃L6:bA,L6=L2:=⟨L2,rfl⟩;obtain⟨cx,cy,cz⟩:=av.u.X.zzw)
        have b9:=(av.u.X.start.alloc (.cells #[.string ⟨l.toArray⟩] 9));have ba:=Y (show(w6.alloc (.cells #[.string ⟨l.toArray⟩] 9)).heap[w6.heap.size]?=_ from dI w6 _);first|have:=cp.u|replace b9:=b9.drew
        have HO:=Y (b9.X.rows.own (jo j L6)<|by simp[eP]);have bb:=Y (show j.I.length+1<=maxLen by unfold maxLen;omega);have bc:=Y (show b+1<=(w6.alloc (.cells #[.string ⟨l.toArray⟩] 9)).heap.size by simp;omega);have cb:=Y b9;clear b9;apply P;clear P;refine lI _ rfl _ _ 34 rfl (b+1) 9 i0 _ 1 16 underlying34 d8 d9 da db rfl (by decide) (.slice L6.oa j.I.length L6.oc) j.I.length (j.I.map sv) (by simp[Act.eval,cl.u]) HO.u ⟨w6.heap.size,0,none⟩ 1 1 [.string ⟨l.toArray⟩] (by simp[Act.eval,ah]) rfl (jT ba.u) (by intro u hu;simp at hu;subst hu;rfl) (by decide) bb.u (by omega) bc.u (w6.heap.size+1) (by simp) ?_;clear ah;intro g cd w7 hown hgrow bd eh;obtain⟨hr,d0⟩:=Hj (cb.u.X.grown (r:=jo j L6) hgrow<|by simp[eP]);unfold aR at hr;have bo:=cb.u.aaM l hown hgrow (by simpa using bd);have ce:=Y (av.u.call bo);have cf:=Y (cw.u.call a4 bo);obtain⟨d1,e2,ei⟩:=bo.X.zzw;clear bo hown hgrow bd HO ba bb bc cb cx cy;go_wp2_with(at_builtin;apply lJ;intro P);clear hr d0;have br:(w7.setCell ⟨b,10,none⟩ (.slice (some ⟨g,0,none⟩) (j.I.length+1) cd)).heap.size=w7.heap.size:=by simp[World.setCell]
        generalize w7.setCell ⟨b,10,none⟩ (.slice (some ⟨g,0,none⟩) (j.I.length+1) cd)=w8 at *;obtain⟨L8,bp⟩:=aj8 (({L6 with oa:=some ⟨g,0,none⟩,oc:=cd}:bA));have ej:L8.gs=L6.gs:=by rw[bp]
        rw[<-bp]at ce cf;have cg:(.slice L6.ga j.P.length L6.gc:Value)=.slice L8.ga j.P.length L8.gc:=by rw[bp]
        rw[cg]at d1;rw[cg]at P;clear cg bp;have ch:=ce.u.alloc (.cells #[.slice aa d.length ac] 63);have d2:=cf.u.alloc (.cells #[.slice aa d.length ac] 63);have HO:=Y (ch.X.rows.own (gH {j with I:=j.I++[l]} L8) (by simp[eP]));have ba:=Y (show(w8.alloc (.cells #[.slice aa d.length ac] 63)).heap[w8.heap.size]?=_ from dI w8 _);have bb:=Y (show j.P.length+1<=maxLen by unfold maxLen;omega);have bc:=Y (show b+1<=(w8.alloc (.cells #[.slice aa d.length ac] 63)).heap.size by simp;omega);have ci:=Y ch;have bq:=Y d2;clear ch d2;apply P;clear P;refine lI _ rfl _ _ 109 rfl (b+1) 63 j0 _ 1 24 underlying109 dc dd de df rfl (by decide) (.slice L8.ga j.P.length L8.gc) j.P.length (L8.gs.map λp:List aI×Value=>p.2) (by simp[Act.eval]) HO.u ⟨w8.heap.size,0,none⟩ 1 1 [.slice aa d.length ac] (by simp[Act.eval,br]) rfl (jT ba.u) (by intro u hu;simp at hu;subst hu;rfl) (by decide) bb.u (by omega) bc.u (w8.heap.size+1) (by simp) ?_;clear br;intro g2 d3 w9 hown hgrow bd ek;obtain⟨hr,d0⟩:=Hj (ci.u.X.grown (r:=gH {j with I:=j.I++[l]} L8) hgrow (by simp[eP]));unfold aR at hr;have be:=ci.u.aaP d (.slice aa d.length ac) (bq.u.low a4) bq.u.nf (λk hk=>(World.ownsRow.lt bq.u.row k hk).1) hown hgrow (by simpa using bd);have d4:=Y be;have HST:=Y (aaL be.X l d (.slice aa d.length ac) (by simp[oF]) HP.u.nl cq.u cr.u);have e3:=Y ce.u.gs;have e4:Hid ((oF L8 d (.slice aa d.length ac) g2 d3).gs=L8.gs++[(d,.slice aa d.length ac)]):=rfl;clear be hown hgrow bd HO ba bb bc ci bq cf d1 e2
        go_wp2_with(first
         |(go_at_call 112;go_call HST.u as e e5 ⟨rfl,e6,bf⟩;have ai:bL _ b _ e5 (dX j l d) e6:=bf;rw[<-dm.u]at ai;clear bf;have bg:=Y ((ai.xq d4.u.X c0.u).trans e4.u);have K:=Y (d4.u.call ai);clear ai)
         |(go_at_call 113;go_call(dn.u _ _ K.u.X (bj.u _ _ _ K.u))as e ew ⟨rfl,e7,bh⟩;have aj:=Y (K.u.call bh);try have d5:=Y ((bh.xq K.u.X dp.u).trans bg.u);clear bh)
         |(go_at_call 114;go_call(dq.u _ _ aj.u.X)as e ex ⟨rfl,e8,bi⟩;have ak:=Y (aj.u.call bi);try have bs:=Y ((bi.xq aj.u.X dr.u).trans d5.u);clear bi)
         |(go_at_call 115;refine(c4.u _ _ ak.u.X _<|by rw[bs.u];simp).mono ?_;rintro e e9 ⟨rfl,ea,N⟩;have bt:=Y ((N.xq ak.u.X cs.u).trans bs.u);have a1:=Y (ak.u.call N);clear N)
         |(go_at_call 115;refine(c4.u _ _ K.u.X _<|by rw[bg.u];simp).mono ?_;rintro e e9 ⟨rfl,ea,N⟩;have bt:=Y ((N.xq K.u.X cs.u).trans bg.u);have a1:=Y (K.u.call N);clear N))
        first
         |(go_ret;have hF:=HF.u;subst hF;first|exact⟨rfl,e8,ak.u⟩|exact⟨rfl,e7,aj.u⟩)
         |skip
        all_goals
         obtain⟨og,cj,ey⟩:=abn a1.u.X c5.u;obtain⟨tg,ck,ez⟩:=abo a1.u.X c6.u;obtain⟨d6,el,eb⟩:=a1.u.X.zzv;rw[aR,c5.u,c6.u,cj,ck]at d6;have d7:=Y (abp a1.u c5.u c6.u<|by rw[bt.u,vp];exact e3.u);rw[cj,ck]at d7;clear cj ck;go_wp2_with fail;go_region;go_wp2_with fail;go_region;go_wp2_with fail;go_ret;have hF:=HF.u;subst hF;exact⟨rfl,_,d7.u⟩
    have hP:=hpre rfl;have D:=a3.u.kp hP.kp;have bx:a.P.length<=1000000:=by rw[D.tl];have:=D.zo;have:=D.od;omega
    have HQ:=Y λ(W:World) (C:bA) (hW:bD W b a C) (va:Value) (hrow:W.ownsRow (b+1) 69 3 va d.length (cQ d))=>Ol hW l hP.nl d va hrow hP.sh D.sh bx;rw[xH,S,J rfl]at i;obtain⟨dj,bk⟩:a.on=true/\pU a l d=false:=by simpa using S
    rw[bk]at HQ;have HF:=Y i;clear a5 O hq al am a7 hx a8 hpre ay hP D i bk S a2 a6
 rotate_left 3;focus
  rw[ax,J rfl]at i;have HF:=Y i;clear i a5 O hq al am a2
 all_goals
  go_enter func84,ntmps84;go_wp2_with fail;go_region;first
   |(go_wp2_with(go_at_call 83;go_call(kM G.u.drew.X 7)as e w1 ⟨rfl,L1,z⟩);go_ret;have hF:=HF.u;subst hF;exact⟨rfl,L1,G.u.drew.call z⟩)
   |(go_wp2_with(go_at_call 109;go_call(HW.u _ _ G.u.drew.X)as e w1 ⟨rfl,L1,z⟩);go_ret;have hF:=HF.u;subst hF;exact⟨rfl,L1,G.u.drew.call z⟩)
   |(go_wp2_with(first|(go_at_call 109;go_call(HW.u _ _ G.u.drew.X)as e w1 ⟨rfl,L1,z⟩;have A:=Y (G.u.drew.call z);clear z)|(go_at_call 110;go_call(HA.u _ _ A.u.X (bj.u _ _ _ A.u))as e w2 ⟨L2,va,rfl,H,I⟩;obtain⟨aa,ac,rfl⟩:=iE I.row;have a0:=Y (A.u.call H);have ar:=Y (I.old A.u.fr.size);obtain⟨ap,c7,b7⟩:=H.X.zzw;clear H I));go_ret;have hF:=HF.u;subst hF;exact⟨rfl,L2,a0.u⟩)
   |(go_wp2_with(first|(go_at_call 109;go_call(HW.u _ _ G.u.drew.X)as e w1 ⟨rfl,L1,z⟩;have A:=Y (G.u.drew.call z);clear z)|(go_at_call 110;go_call(HA.u _ _ A.u.X (bj.u _ _ _ A.u))as e w2 ⟨L2,va,rfl,H,I⟩;obtain⟨aa,ac,rfl⟩:=iE I.row;have a0:=Y (A.u.call H);have ar:=Y (I.old A.u.fr.size);obtain⟨ap,c7,b7⟩:=H.X.zzw;clear H I)|(go_at_call 111;go_call(HQ.u _ _ a0.u.X _ (ar.u.low a4))as e w3 ⟨rfl,au⟩;have b8:=Y (a0.u.below au);clear au)|(go_at_call 83;go_call(kM b8.u.X 8)as e w4 ⟨rfl,L4,ec⟩));go_ret;have hF:=HF.u;subst hF;exact⟨rfl,L4,b8.u.call ec⟩)
end
