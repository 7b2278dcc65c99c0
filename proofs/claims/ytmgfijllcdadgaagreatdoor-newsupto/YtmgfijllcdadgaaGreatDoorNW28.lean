import Derived.Test.YtmgfijllcdadgaaGreatDoorNW27
set_option linter.unusedVariables false
set_option linter.unusedSimpArgs false
set_option maxHeartbeats 16000000
set_option maxRecDepth 100000
namespace Go.Proofs.YtmgfijllcdadgaaGreatDoor.V
open Go.RowKit
open Mk (Bs Ev aD)
open Rf (R)
open Go.Proofs.Tryz
open Rf (aX gK eZ)
variable {E:R}{n:Nat}
section
variable {w0 w1 w w' :World}{b:Nat}{s r:R}{L:aH}{v:Value}{l:List aD}
theorem bX.old(h:bX w1 w b r L v l)(a:w0.heap.size≤w1.heap.size):bX w0 w b r L v l:=⟨nS h.row a,h.nf⟩
theorem bX.setAt(h:bX w0 w b r L v l)(d:b<w0.heap.size)(i:Nat)(u:Value){r' :R}(c:aR r' L=aR r L):bX w0 (w.setCell ⟨b,i,none⟩ u) b r' L v l:=by
 have:=h.oO (a:=⟨b,i,none⟩) (fun e=>by have:=(World.ownsRow.lt h.row b e).1;omega) u;exact⟨this.row,by rw[c];exact this.nf⟩
theorem bX.alloc(h:bX w0 w b r L v l)(o:Obj):bX w0 (w.alloc o) b r L v l:=
 h.below ⟨rfl,rfl,rfl,by simp,fun k a=>Below.heap_alloc _ _ _ a⟩
theorem wU:(Tryz.prog.info? 9).map (fun i=>(i.zero,i.size,i.bytes))=some (some (.string ByteArray.empty),1,16):=by kernel_rfl
theorem wV{a q:R}{nm:Bs}{b:List aD}(d:Fit s)(P:Pre s a nm b)(hd:(s.opn.length:Int)≠s.od)(c:Kp s q)(h:a.at_+1≤q.at_)(hev:q.events=s.events):Fit (aX q nm b):=by
 obtain⟨e,i⟩:=l_ q nm b;generalize aX q nm b=o at *;have l:=d.ev;have m:=P.n;have p:=d.kQ;have j:=c.le;have g:=d.ok;refine⟨?_,?_,?_,?_,?_,?_,?_,?_,?_⟩
 .rw[e];exact⟨by show q.s.length≤_;rw[c.s];exact g.len,j,by show 0≤q.ot;rw[c.ot];exact g.t0,by show q.ot≤_;rw[c.ot];exact g.t1⟩
 .rw[e];show 1≤q.ot;rw[c.ot];exact d.ot
 .rw[e];show 0≤q.oa∧q.oa≤_;rw[c.oa];exact d.oa
 .rw[e];show q.od≤_;rw[c.od];exact d.od
 .rw[e];show((q.opn++[nm]).length:Int)≤q.od;rw[c.od,c.op,List.length_append];simp only[List.length_cons,List.length_nil];omega
 .rw[e];show(q.tags++[b]).length=(q.opn++[nm]).length;rw[c.op,c.tg];simp[d.tl]
 .rw[e];show q.s.length≤_;rw[c.s];exact d.sl
 .rw[e];intro t k;rcases List.mem_append.1 (show t∈q.tags++[b]from k)with f|f
  .rw[c.tg]at f;exact d.sh t f
  rw[List.mem_singleton.1 f];exact P.sh
 have:o.at_=q.at_:=by rw[e]
 rw[hev]at i;omega
theorem BB(h:aI w b E L)(f:E.opn.length=n+1):∃g,L.oa=some ⟨g,0,none⟩∧n+1≤L.oc:=by
 have c:=h.rows.own (cO E L) (by simp[a_]);simp only[Row.owned,cO]at c;rcases c.2 with⟨_,i⟩|⟨g,cap,d,a,_,_,j,_⟩
 .omega
 injection a with a _ e;exact⟨g,a,by omega⟩
theorem BD(h:aI w b E L)(f:E.tags.length=n+1):∃g,L.ga=some ⟨g,0,none⟩∧n+1≤L.gc:=by
 have c:=h.rows.own (bK E L) (by simp[a_]);simp only[Row.owned,bK]at c;rcases c.2 with⟨_,i⟩|⟨g,cap,d,a,_,_,j,_⟩
 .omega
 injection a with a _ e;exact⟨g,a,by omega⟩
theorem BF{c:List Nat}{k:Nat}(m:aL w0 b c w E L)(a:E.opn.length=n+1)(d:E.tags.length=k+1)(i:∃j L0,aI w0 b j L0∧L0.gs.map (·.2)<+:L.gs.dropLast.map (·.2)):
 aL w0 b c (((w.drew).setCell ⟨b,10,none⟩ (.slice L.oa n L.oc)).drew.setCell ⟨b,11,none⟩ (.slice L.ga k L.gc)) {E with opn:=E.opn.dropLast,tags:=E.tags.dropLast} {L with gs:=L.gs.dropLast}:=by
 have f:=m.drew.JU (by intro h;rw[h]at a;simp at a);rw[a,Nat.add_sub_cancel]at f;have g:=f.drew.JV (s:={E with opn:=E.opn.dropLast}) (by intro h;have h:E.tags=[]:=h;rw[h]at d;simp at d) i;have e:({E with opn:=E.opn.dropLast}:R).tags.length - 1=k:=by show E.tags.length - 1=k;omega
 rw[e]at g;exact g
theorem Km(f:Nat)(hC:CC f)(w:World)(b:Nat)(s:R)(L:aH)(h:aI w b s L)(j:Fit s)(hG:bG w)(bu:0<b)(hi:s.at_<s.s.length)(bw:s.s.length<s.at_+(f+1)+1)(aw:((s.opn.length:Int)==s.od)=false)(qw:R)(nm:Bs)(a:R)(c:List aD)(hx:Rf.word {s with at_:=s.at_+1}=(qw,nm,true))(b3:Rf.attributes qw=(a,c,true))(ax:(a.on&& !Rf.qualified a nm c)=false)(b4:(a.byte a.at_==47)=true):
 Calls Tryz.prog 84 #[.pointer (some ⟨b,0,none⟩)] w (iC w b s L (Rf.element (f+1) s)):=by
 obtain⟨i0,ck,cl,cm,cn⟩:=info_parts wU;obtain⟨j0,co,cp,cq,cr⟩:=info_parts pI;have HM:=aB h;have K:=aB j;have bx:=aB (fun(W:World) (r:R) (L' :aH) (hm:aL w b (aR s L) W r L')=>hG.mv h hm bu);have HC:=aB hC;have cs:=h.cell;have hf:=h.frozen;have F:=h.lt;unfold aF at cs;have ds:=j.ok.len;have ct:=j.sl;have dt:=j.kQ;have du:=j.od;obtain⟨T,d⟩:∃T,T=Rf.element (f+1) s:=⟨_,rfl⟩;rw[←d];rw[nX]at d;have X:Hid (aL w b (aR s L) ((w.drewN 0).setCell ⟨b,5,none⟩ (.int .i64 ((s.at_:Int)+1))) {s with at_:=s.at_+1} L):=(h.start.drewN 0).store 5 _ {s with at_:=s.at_+1} (by simp[aF]) rfl rfl rfl;have b5:Kp s {s with at_:=s.at_+1}:=.to (by omega) (by omega);obtain⟨q,hq⟩:∃q:R,q={s with at_:=s.at_+1}:=⟨_,rfl⟩;have bz:q.opn=s.opn:=by rw[hq]
 have c0:q.od=s.od:=by rw[hq]
 rw[←hq]at d X b5;have M:=j.kp b5;have dv:=aB M;unfold PF at d;rw[bz,c0]at d;clear h j hG hC;rw[aw,if_neg (by decide)]at d;have b6:(s.opn.length:Int)≠s.od:=by simpa using aw
 have HW:=aB (fun(W:World) (L' :aH) (hW:aI W b q L')=>pF hW M.ok);have ao:=jR M.ok.at_ M.ok.t0;rw[←hq]at hx;rw[hx]at d HW ao;simp only at d ao;first|rw[if_pos rfl]at d|rw[if_pos trivial]at d
 have Y:=M.kp ao;have HA:=aB (fun(W:World) (L' :aH) (hW:aI W b qw L') (cu:bG W)=>tX hW Y.ok Y.ot Y.oa Y.sl cu bu);have hpre:=fun ha=>nY hi (aA K).ot ct hq hx b3 ha
 rw[b3]at d HA;simp only at d hpre;first|rw[if_pos rfl]at d|rw[if_pos trivial]at d
 have hP:=hpre (by first|rfl|trivial);have N:=(aA K).kp hP.kp;have cv:a.at_<a.s.length:=by rw[hP.kp.s];exact hP.at_
 have cw:a.tags.length≤1000000:=by rw[N.tl];have:=N.kQ;have:=N.od;omega
 have HQ:=aB (fun(W:World) (L' :aH) (hW:aI W b a L') (va:Value) (hrow:W.ownsRow (b+1) 69 3 va c.length (aV c))=>tF hW nm hP.nl c va hrow hP.sh N.sh cw);have HP:=aB hP;have cx:=aB N;have dg:c.length≤100000000:=by have:=hP.n;have:=hP.at_;omega
 unfold PE at d;have O:Kp s {a with at_:=a.at_+1}:=(aA HP).kp.trans (.to (by omega) (by omega));have b7:=aB (fun(W:World) (L' :aH) (m:aL w b (aR s L) W a L')=>m.store 5 (.int .i64 ((a.at_:Int)+1)) {a with at_:=a.at_+1} (by simp[aF]) rfl rfl rfl);obtain⟨Z,P⟩:∃Z:R,Z={a with at_:=a.at_+1}:=⟨_,rfl⟩;have a0:Hid (∀L', aR Z L' =aR a L'):=fun L' =>by rw[P];rfl
 have ay:Z.at_=a.at_+1:=by rw[P]
 have dh:Hid (a.opn=Z.opn):=by rw[P];exact rfl
 have a1:Z.events=s.events:=by rw[P];exact(aA HP).ev
 rw[←P]at d O b7;clear P;generalize dw:a.on=on at *;generalize cy:Rf.qualified a nm c=qu at *;clear b5 M hq bz c0 ao hx Y hpre b3 hP N;rw[ax,if_neg (by decide)]at d;obtain⟨y,c1,dx,hy⟩:=bH a a.at_ cv;have dy:(a.at_:Int)<(a.s.length:Int):=by omega
 have di:=(aA cx).sl;rw[c1]at d b4;have cz:=b4;have b8:=(aA K).kp O;have ap:on=true→qu=true:=by intro h;subst h;cases qu<;>simp_all
 have dz:=(aA HP).nl;clear ax cy c1 hy b4;rw[cz,if_pos rfl]at d;have c2:=aB (fun(W:World) (L' :aH) (hW:aI W b Z L')=>Py hW b8.ok 62 (by omega) (by omega));have aq:=fS O.le 62;generalize Rf.must Z 62=mu at *;obtain⟨i,o⟩:=mu;cases o with
 |false=>
  have HF:=aB (show T=(i,false)from d);clear d aq b8 O ay a1 bw b6;rcases on with _|_;all_goals
   try obtain rfl:=ap rfl
   clear ap;go_enter func84,ntmps84
   go_wp2_with fail
   go_region
   go_wp2_with(first
    |(go_at_call 109;refine(aA HW _ _ (aA X).drew.rd).mono ?_;rintro e w1 ⟨rfl,L1,A⟩;have B:=aB ((aA X).drew.call A);clear A)
    |(go_at_call 110;refine(aA HA _ _ (aA B).rd (aA bx _ _ _ (aA B))).mono ?_;rintro e w2 ⟨L2,va,rfl,l,G⟩;obtain⟨aa,ac,rfl⟩:=b_ G.row;have H:=aB ((aA B).call l);have I:=aB (G.old (aA B).fr.size);have a2:=l.rd.cell;have b9:=l.rd.frozen;have a3:=l.rd.lt;unfold aF at a2;clear l G)
    |(go_at_call 111;refine(aA HQ _ _ (aA H).rd _ ((aA I).low F)).mono ?_;rintro e w3 ⟨rfl,J⟩;have C:=aB ((aA H).below J);have ba:=aB ((aA I).below J);have hc3:=(aA C).rd.cell;have bb:=(aA C).rd.frozen;have a4:=(aA C).rd.lt;unfold aF at hc3;clear J))
   first
    |(have a5:=C;have a6:=ba;have bc:=hc3;have be:=bb;have a7:=a4)
    |(have a5:=H;have a6:=I;have bc:=a2;have be:=b9;have a7:=a3)
   have a8:=aB (aA b7 _ _ (aA a5)).drew;have c3:=aB ((aA a6).setAt F 5 (.int .i64 ((a.at_:Int)+1)) (aA a0 _)).drew;go_region
   go_wp2_with(go_at_call 107;refine(aA c2 _ _ (aA a8).rd).mono ?_;rintro e w6 ⟨rfl,L6,D⟩)
   go_ret;have hF:=aA HF;subst hF;exact⟨rfl,L6,(aA a8).call D⟩
 |true=>
  replace d:T=(gK (aX i nm c) nm c,true):=d;have A:i={Z with at_:=Z.at_+1}:=(aq.2 rfl).1;have ar:Kp s i:=O.trans aq.1;have az:a.at_+1≤i.at_:=by rw[A];show a.at_+1≤Z.at_+1;omega
  have a9:i.events=s.events:=by rw[A];exact a1
  clear A aq;obtain⟨ab,d0⟩:=l_ i nm c;have bf:=wV (aA K) (aA HP) b6 ar az a9;have dj:i.opn.length≤1000000:=by rw[ar.op];omega
  have dk:i.tags.length≤1000000:=by rw[ar.tg,(aA K).tl];omega
  have c4:Hid (∀t∈({i with opn:=i.opn++[nm],tags:=i.tags++[c]}:R).tags,Sh t):=by
   have h5:=bf.sh;rw[ab]at h5;exact h5
  have c5:Hid (({i with opn:=i.opn++[nm],tags:=i.tags++[c]}:R).events.length+c.length≤900000000):=by
   show i.events.length+c.length≤900000000;have h5:=(aA K).ev;rw[a9];omega
  have c6:Hid ((aX i nm c).tags=({i with opn:=i.opn++[nm],tags:=i.tags++[c]}:R).tags):=by rw[ab];exact rfl
  have bg:(aX i nm c).opn.length=i.opn.length+1:=by rw[ab];simp
  have bh:(aX i nm c).tags.length=i.tags.length+1:=by rw[ab];simp
  have ad:=aB bf;obtain⟨om,bi⟩:∃om,om=aX i nm c:=⟨_,rfl⟩;have d1:=aB bi;rw[←bi]at d ad c6 bg bh;have c7:=bg;have c8:=bh;obtain⟨m,rfl⟩:∃m:R,m=om:=⟨om,rfl⟩;have d2:=(aA ad).ev;have d3:=(aA ad).sl;have d4:=(aA ad).ok.at_;have c9:=aB (fun(W:World) (L' :aH) (hW:aI W b m L') (v:Value) (d5:(c,v)∈L'.gs)=>Ql hW nm c v d5 (aA HP).nl (aA ad).sh (by omega));obtain⟨ae,d6⟩:=wS m nm c;obtain⟨E,hE⟩:∃E,E=Rf.ended m nm c:=⟨_,rfl⟩;have HF:=aB (show T=({E with opn:=E.opn.dropLast,tags:=E.tags.dropLast},true) by rw[hE];exact d);rw[←hE]at c9 ae;have bj:Hid (E.opn.length=i.opn.length+1):=by rw[ae];exact c7
  have bk:Hid (E.tags.length=i.tags.length+1):=by rw[ae];exact c8
  have d7:Hid (E.tags=m.tags):=by rw[ae];exact rfl
  clear ae d6 hE d d2 d3 d4 c7 c8;clear ab d0 bf ar az a9 bg bh bi O b8 ay a1 bw b6;obtain⟨om,rfl⟩:∃om:R,om=m:=⟨m,rfl⟩;rcases on with _|_;all_goals
   try obtain rfl:=ap rfl
   clear ap;go_enter func84,ntmps84
   go_wp2_with fail
   go_region
   go_wp2_with(first
    |(go_at_call 109;refine(aA HW _ _ (aA X).drew.rd).mono ?_;rintro e w1 ⟨rfl,L1,A⟩;have B:=aB ((aA X).drew.call A);clear A)
    |(go_at_call 110;refine(aA HA _ _ (aA B).rd (aA bx _ _ _ (aA B))).mono ?_;rintro e w2 ⟨L2,va,rfl,l,G⟩;obtain⟨aa,ac,rfl⟩:=b_ G.row;have H:=aB ((aA B).call l);have I:=aB (G.old (aA B).fr.size);have a2:=l.rd.cell;have b9:=l.rd.frozen;have a3:=l.rd.lt;unfold aF at a2;clear l G)
    |(go_at_call 111;refine(aA HQ _ _ (aA H).rd _ ((aA I).low F)).mono ?_;rintro e w3 ⟨rfl,J⟩;have C:=aB ((aA H).below J);have ba:=aB ((aA I).below J);have hc3:=(aA C).rd.cell;have bb:=(aA C).rd.frozen;have a4:=(aA C).rd.lt;unfold aF at hc3;clear J))
   first
    |(have a5:=C;have a6:=ba;have bc:=hc3;have be:=bb;have a7:=a4)
    |(have a5:=H;have a6:=I;have bc:=a2;have be:=b9;have a7:=a3)
   have a8:=aB (aA b7 _ _ (aA a5)).drew;have c3:=aB ((aA a6).setAt F 5 (.int .i64 ((a.at_:Int)+1)) (aA a0 _)).drew;go_region
   go_wp2_with(first
    |(go_at_call 107;refine(aA c2 _ _ (aA a8).rd).mono ?_;rintro e w6 ⟨rfl,L6,D⟩;have ca:=aB ((aA a8).call D);have d8:=aB ((aA c3).call F D);have cb:=D.rd.cell;have d9:=D.rd.frozen;have dl:=D.rd.lt;unfold aF at cb;clear D)
    |(at_builtin;apply Classical.byContradiction;intro x))
   have bl:=((aA ca).rd.start.alloc (.cells #[.string ⟨nm.toArray⟩] 9));have HO:=aB (bl.rd.rows.own (cO i L6) (by simp[a_]));have af:=aB (show(w6.alloc (.cells #[.string ⟨nm.toArray⟩] 9)).heap[w6.heap.size]?=_ from heap_alloc_new w6 _);have ag:=aB (show i.opn.length+1≤maxLen by unfold maxLen;omega);have ah:=aB (show b+1≤(w6.alloc (.cells #[.string ⟨nm.toArray⟩] 9)).heap.size by simp;omega);have bm:=aB bl;clear bl;apply x;clear x;refine wpList_append_lies _ rfl _ _ 34 rfl (b+1) 9 i0 _ 1 16 underlying34 ck cl cm cn rfl (by decide) (.slice L6.oa i.opn.length L6.oc) i.opn.length (i.opn.map sv) (by simp[Act.eval]) (aA HO) ⟨w6.heap.size,0,none⟩ 1 1 [.string ⟨nm.toArray⟩] (by simp[Act.eval]) rfl (World.news_of_block (aA af)) (by intro u hu;simp at hu;subst hu;rfl) (by decide) (aA ag) (by omega) (aA ah) (w6.heap.size+1) (by simp) ?_;intro g cap w7 hown hgrow ai dm;obtain⟨hr,cd⟩:=lY ((aA bm).rd.grown (r:=cO i L6) hgrow (by simp[a_]));unfold aF at hr;have Q:=(aA bm).tK nm hown hgrow (by simpa using ai);have bn:=aB ((aA ca).call Q);have bo:=aB ((aA d8).call F Q);have fH:=Q.rd.cell;have da:=Q.rd.frozen;have dn:=Q.rd.lt;unfold aF at fH;clear Q hown hgrow ai HO af ag ah bm cb d9;go_wp2_with(at_builtin;apply Classical.byContradiction;intro x)
   clear hr cd;have b0:(w7.setCell ⟨b,10,none⟩ (.slice (some ⟨g,0,none⟩) (i.opn.length+1) cap)).heap.size=w7.heap.size:=by simp[World.setCell]
   generalize w7.setCell ⟨b,10,none⟩ (.slice (some ⟨g,0,none⟩) (i.opn.length+1) cap)=w8 at *;obtain⟨S,au⟩:∃S,S=({L6 with oa:=some ⟨g,0,none⟩,oc:=cap}:aH):=⟨_,rfl⟩;have dp:S.gs=L6.gs:=by rw[au]
   rw[←au]at bn bo;have bp:(.slice L6.ga i.tags.length L6.gc:Value)=.slice S.ga i.tags.length S.gc:=by rw[au]
   rw[bp]at fH;rw[bp]at x;clear bp au;have bq:=(aA bn).alloc (.cells #[.slice aa c.length ac] 63);have ce:=(aA bo).alloc (.cells #[.slice aa c.length ac] 63);have HO:=aB (bq.rd.rows.own (bK {i with opn:=i.opn++[nm]} S) (by simp[a_]));have af:=aB (show(w8.alloc (.cells #[.slice aa c.length ac] 63)).heap[w8.heap.size]?=_ from heap_alloc_new w8 _);have ag:=aB (show i.tags.length+1≤maxLen by unfold maxLen;omega);have ah:=aB (show b+1≤(w8.alloc (.cells #[.slice aa c.length ac] 63)).heap.size by simp;omega);have br:=aB bq;have av:=aB ce;clear bq ce;apply x;clear x;refine wpList_append_lies _ rfl _ _ 109 rfl (b+1) 63 j0 _ 1 24 underlying109 co cp cq cr rfl (by decide) (.slice S.ga i.tags.length S.gc) i.tags.length (S.gs.map (fun p:List aD×Value=>p.2)) (by simp[Act.eval]) (aA HO) ⟨w8.heap.size,0,none⟩ 1 1 [.slice aa c.length ac] (by simp[Act.eval,b0]) rfl (World.news_of_block (aA af)) (by intro u hu;simp at hu;subst hu;rfl) (by decide) (aA ag) (by omega) (aA ah) (w8.heap.size+1) (by simp) ?_;clear b0;intro g2 cf w9 hown hgrow ai dq;obtain⟨hr,cd⟩:=lY ((aA br).rd.grown (r:=bK {i with opn:=i.opn++[nm]} S) hgrow (by simp[a_]));unfold aF at hr;have aj:=(aA br).tL c (.slice aa c.length ac) ((aA av).low F) (aA av).nf (fun k hk=>(World.ownsRow.lt (aA av).row k hk).1) hown hgrow (by simpa using ai);have cg:=aB aj;have HST:=aB (tJ aj.rd nm c (.slice aa c.length ac) (by simp[fL]) (aA HP).nl (aA c4) (aA c5));have db:=aB (aA bn).gs;have dc:Hid ((fL S c (.slice aa c.length ac) g2 cf).gs=S.gs++[(c,.slice aa c.length ac)]):=rfl;clear aj hown hgrow ai HO af ag ah br av bo fH da
   go_wp2_with(first
    |(go_at_call 112;refine(aA HST).mono ?_;rintro e dd ⟨rfl,de,ak⟩;have al:aL _ b _ dd om de:=(by rw[aA d1];exact ak);clear ak;have b1:=aB ((al.kJ (aA cg).rd (aA c6)).trans (aA dc));have am:=aB ((aA cg).call al);clear al)
    |(go_at_call 115;refine(aA c9 _ _ (aA am).rd _ (by rw[aA b1];simp)).mono ?_;rintro e e0 ⟨rfl,e1,an⟩;have ci:=aB ((an.kJ (aA am).rd (aA d7)).trans (aA b1));have z:=aB ((aA am).call an);clear an))
   obtain⟨og,bs,e2⟩:=BB (aA z).rd (aA bj);obtain⟨tg,bt,e3⟩:=BD (aA z).rd (aA bk);have b2:=(aA z).rd.cell;have dr:=(aA z).rd.frozen;have df:=(aA z).rd.lt;unfold aF at b2;rw[aA bj,aA bk,bs,bt]at b2;have cj:=aB (BF (aA z) (aA bj) (aA bk) (by rw[aA ci,List.dropLast_concat];exact aA db));rw[bs,bt]at cj;clear bs bt;go_wp2_with fail
   go_region
   go_wp2_with fail
   go_region
   go_wp2_with fail
   go_ret;have hF:=aA HF;subst hF;exact⟨rfl,_,aA cj⟩
theorem Kn(f:Nat)(hC:CC f)(w:World)(b:Nat)(s:R)(L:aH)(h:aI w b s L)(l:Fit s)(hG:bG w)(ai:0<b)(hi:s.at_<s.s.length)(bz:s.s.length<s.at_+(f+1)+1)(a9:((s.opn.length:Int)==s.od)=false)(qw:R)(nm:Bs)(a:R)(d:List aD)(hx:Rf.word {s with at_:=s.at_+1}=(qw,nm,true))(aj:Rf.attributes qw=(a,d,true))(ab:(a.on&& !Rf.qualified a nm d)=false)(ak:(a.byte a.at_==47)=false)(b6:∀A:R,A={a with at_:=a.at_+1}→(Rf.content f (aX A nm d) (aX A nm d).at_).2=false):
 Calls Tryz.prog 84 #[.pointer (some ⟨b,0,none⟩)] w (iC w b s L (Rf.element (f+1) s)):=by
 obtain⟨i0,c0,c1,c2,c3⟩:=info_parts wU;obtain⟨j0,c4,c5,c6,c7⟩:=info_parts pI;have HM:=aB h;have B:=aB l;have b7:=aB (fun(W:World) (r:R) (L' :aH) (hm:aL w b (aR s L) W r L')=>hG.mv h hm ai);have HC:=aB hC;have c8:=h.cell;have hf:=h.frozen;have G:=h.lt;unfold aF at c8;have da:=l.ok.len;have c9:=l.sl;have db:=l.kQ;have dc:=l.od;obtain⟨al,i⟩:∃al,al=Rf.element (f+1) s:=⟨_,rfl⟩;rw[←i];rw[nX]at i;have am:Hid (aL w b (aR s L) ((w.drewN 0).setCell ⟨b,5,none⟩ (.int .i64 ((s.at_:Int)+1))) {s with at_:=s.at_+1} L):=(h.start.drewN 0).store 5 _ {s with at_:=s.at_+1} (by simp[aF]) rfl rfl rfl;have an:Kp s {s with at_:=s.at_+1}:=.to (by omega) (by omega);obtain⟨q,hq⟩:∃q:R,q={s with at_:=s.at_+1}:=⟨_,rfl⟩;have b8:q.opn=s.opn:=by rw[hq]
 have b9:q.od=s.od:=by rw[hq]
 rw[←hq]at i am an;have C:=l.kp an;have dd:=aB C;unfold PF at i;rw[b8,b9]at i;clear h l hG hC;rw[a9,if_neg (by decide)]at i;have ba:(s.opn.length:Int)≠s.od:=by simpa using a9
 have HW:=aB (fun(W:World) (L' :aH) (hW:aI W b q L')=>pF hW C.ok);have a2:=jR C.ok.at_ C.ok.t0;rw[←hq]at hx;rw[hx]at i HW a2;simp only at i a2;first|rw[if_pos rfl]at i|rw[if_pos trivial]at i
 have H:=C.kp a2;have HA:=aB (fun(W:World) (L' :aH) (hW:aI W b qw L') (ao:bG W)=>tX hW H.ok H.ot H.oa H.sl ao ai);have hpre:=fun ha=>nY hi (aA B).ot c9 hq hx aj ha
 rw[aj]at i HA;simp only at i hpre;first|rw[if_pos rfl]at i|rw[if_pos trivial]at i
 have hP:=hpre (by first|rfl|trivial);have D:=(aA B).kp hP.kp;have ca:a.at_<a.s.length:=by rw[hP.kp.s];exact hP.at_
 have cb:a.tags.length≤1000000:=by rw[D.tl];have:=D.kQ;have:=D.od;omega
 have HQ:=aB (fun(W:World) (L' :aH) (hW:aI W b a L') (va:Value) (hrow:W.ownsRow (b+1) 69 3 va d.length (aV d))=>tF hW nm hP.nl d va hrow hP.sh D.sh cb);have HP:=aB hP;have cd:=aB D;have d0:d.length≤100000000:=by have:=hP.n;have:=hP.at_;omega
 unfold PE at i;have a3:Kp s {a with at_:=a.at_+1}:=(aA HP).kp.trans (.to (by omega) (by omega));have ap:=aB (fun(W:World) (L' :aH) (m:aL w b (aR s L) W a L')=>m.store 5 (.int .i64 ((a.at_:Int)+1)) {a with at_:=a.at_+1} (by simp[aF]) rfl rfl rfl);obtain⟨A,v⟩:∃A:R,A={a with at_:=a.at_+1}:=⟨_,rfl⟩;have I:=b6 A v;clear b6;have J:Hid (∀L', aR A L' =aR a L'):=fun L' =>by rw[v];rfl
 have bb:A.at_=a.at_+1:=by rw[v]
 have bc:Hid (a.opn=A.opn):=by rw[v];exact rfl
 have ad:A.events=s.events:=by rw[v];exact(aA HP).ev
 rw[←v]at i a3 ap;clear v;generalize de:a.on=on at *;generalize ce:Rf.qualified a nm d=qu at *;clear an C hq b8 b9 a2 hx H hpre aj hP D;rw[ab,if_neg (by decide)]at i;obtain⟨y,be,df,hy⟩:=bH a a.at_ ca;have dg:(a.at_:Int)<(a.s.length:Int):=by omega
 have d1:=(aA cd).sl;rw[be]at i ak;have cf:=ak;have cg:=(aA B).kp a3;have bf:on=true→qu=true:=by intro h;subst h;cases qu<;>simp_all
 have dh:=(aA HP).nl;clear ab ce be hy ak;rw[cf,if_neg (by decide)]at i;obtain⟨j,rfl⟩:∃j:R,j=A:=⟨A,rfl⟩;have K:=a3;have ae:a.at_+1≤j.at_:=by omega
 have M:=ad;obtain⟨x,ci⟩:=l_ j nm d;have z:=wV (aA B) (aA HP) ba K ae M;have d2:j.opn.length≤1000000:=by rw[K.op];omega
 have d3:j.tags.length≤1000000:=by rw[K.tg,(aA B).tl];omega
 have bg:Hid (∀t∈({j with opn:=j.opn++[nm],tags:=j.tags++[d]}:R).tags,Sh t):=by
  have h5:=z.sh;rw[x]at h5;exact h5
 have bh:Hid (({j with opn:=j.opn++[nm],tags:=j.tags++[d]}:R).events.length+d.length≤900000000):=by
  show j.events.length+d.length≤900000000;have h5:=(aA B).ev;rw[M];omega
 have bi:Hid ((aX j nm d).tags=({j with opn:=j.opn++[nm],tags:=j.tags++[d]}:R).tags):=by rw[x];exact rfl
 have bj:(aX j nm d).opn.length=j.opn.length+1:=by rw[x];simp
 have bk:(aX j nm d).tags.length=j.tags.length+1:=by rw[x];simp
 have af:(aX j nm d).at_=j.at_:=by rw[x]
 have aq:(aX j nm d).s=s.s:=by rw[x];exact K.s
 obtain⟨om,a4⟩:∃om,om=aX j nm d:=⟨_,rfl⟩;have cj:=aB a4;rw[←a4]at i z bi bj bk af aq;have ck:=(aA HP).n;have bl:=(jS f).2 om om.at_ z.ok.at_ z.ot z.sl;have cl:=aB (fun(W:World) (L' :aH) (hW:aI W b om L') (ao:bG W)=>aA HC W b om L' hW z ao ai (by rw[aq];omega));unfold nW at i;unfold PG at bl;clear x ci K ae M a3 cg bb ad bz ba af;rw[←a4]at I;generalize Rf.content f om om.at_=cc at *;clear a4;obtain⟨c,oc⟩:=cc;obtain rfl:oc=false:=I;try clear I
 have HF:=aB (show al=(c,false)from i);clear i bl z aq bj bk ck;rcases on with _|_;all_goals
  try obtain rfl:=bf rfl
  clear bf;go_enter func84,ntmps84
  go_wp2_with fail
  go_region
  go_wp2_with(first
   |(go_at_call 109;refine(aA HW _ _ (aA am).drew.rd).mono ?_;rintro e w1 ⟨rfl,L1,bm⟩;have a5:=aB ((aA am).drew.call bm);clear bm)
   |(go_at_call 110;refine(aA HA _ _ (aA a5).rd (aA b7 _ _ _ (aA a5))).mono ?_;rintro e w2 ⟨L2,va,rfl,N,ar⟩;obtain⟨aa,ac,rfl⟩:=b_ ar.row;have au:=aB ((aA a5).call N);have av:=aB (ar.old (aA a5).fr.size);have bn:=N.rd.cell;have cm:=N.rd.frozen;have bo:=N.rd.lt;unfold aF at bn;clear N ar)
   |(go_at_call 111;refine(aA HQ _ _ (aA au).rd _ ((aA av).low G)).mono ?_;rintro e w3 ⟨rfl,aw⟩;have a6:=aB ((aA au).below aw);have cn:=aB ((aA av).below aw);have hc3:=(aA a6).rd.cell;have co:=(aA a6).rd.frozen;have bp:=(aA a6).rd.lt;unfold aF at hc3;clear aw))
  first
   |(have ax:=a6;have ay:=cn;have cp:=hc3;have cq:=co;have bq:=bp)
   |(have ax:=au;have ay:=av;have cp:=bn;have cq:=cm;have bq:=bo)
  have cr:=aB (aA ap _ _ (aA ax)).drew;have cs:=aB ((aA ay).setAt G 5 (.int .i64 ((a.at_:Int)+1)) (aA J _)).drew;go_region
  go_wp2_with(at_builtin;apply Classical.byContradiction;intro o)
  have O:=aB (aA ap _ _ (aA ax));have ct:=aB ((aA ay).setAt G 5 (.int .i64 ((a.at_:Int)+1)) (aA J _));clear cr cs;first
   |(have P:(w3.setCell ⟨b,5,none⟩ (.int .i64 ((a.at_:Int)+1))).heap.size=w3.heap.size:=(by simp[World.setCell]);generalize w3.setCell ⟨b,5,none⟩ (.int .i64 ((a.at_:Int)+1))=w6 at *)
   |(have P:(w2.setCell ⟨b,5,none⟩ (.int .i64 ((a.at_:Int)+1))).heap.size=w2.heap.size:=(by simp[World.setCell]);generalize w2.setCell ⟨b,5,none⟩ (.int .i64 ((a.at_:Int)+1))=w6 at *)
  obtain⟨L6,rfl⟩:∃L6:aH,L6=L2:=⟨L2,rfl⟩;have br:=(aA O).rd.cell;have cu:=(aA O).rd.frozen;have d4:=(aA O).rd.lt;unfold aF at br;have az:=((aA O).rd.start.alloc (.cells #[.string ⟨nm.toArray⟩] 9)).drew;have HO:=aB (az.rd.rows.own (cO j L6) (by simp[a_]));have Q:=aB (show(w6.alloc (.cells #[.string ⟨nm.toArray⟩] 9)).drew.heap[w6.heap.size]?=_ from heap_alloc_new w6 _);have S:=aB (show j.opn.length+1≤maxLen by unfold maxLen;omega);have T:=aB (show b+1≤(w6.alloc (.cells #[.string ⟨nm.toArray⟩] 9)).drew.heap.size by simp;omega);have b0:=aB az;clear az;apply o;clear o;refine wpList_append_lies _ rfl _ _ 34 rfl (b+1) 9 i0 _ 1 16 underlying34 c0 c1 c2 c3 rfl (by decide) (.slice L6.oa j.opn.length L6.oc) j.opn.length (j.opn.map sv) (by simp[Act.eval,aA bc]) (aA HO) ⟨w6.heap.size,0,none⟩ 1 1 [.string ⟨nm.toArray⟩] (by simp[Act.eval,P]) rfl (World.news_of_block (aA Q)) (by intro u hu;simp at hu;subst hu;rfl) (by decide) (aA S) (by omega) (aA T) (w6.heap.size+1) (by simp) ?_;clear P;intro g cap w7 hown hgrow X d5;obtain⟨hr,bs⟩:=lY ((aA b0).rd.grown (r:=cO j L6) hgrow (by simp[a_]));unfold aF at hr;have E:=(aA b0).tK nm hown hgrow (by simpa using X);have b1:=aB ((aA O).call E);have b2:=aB ((aA ct).call G E);have fH:=E.rd.cell;have cv:=E.rd.frozen;have d6:=E.rd.lt;unfold aF at fH;clear E hown hgrow X HO Q S T b0 br cu;go_wp2_with(at_builtin;apply Classical.byContradiction;intro o)
  clear hr bs;have ag:(w7.setCell ⟨b,10,none⟩ (.slice (some ⟨g,0,none⟩) (j.opn.length+1) cap)).heap.size=w7.heap.size:=by simp[World.setCell]
  generalize w7.setCell ⟨b,10,none⟩ (.slice (some ⟨g,0,none⟩) (j.opn.length+1) cap)=w8 at *;obtain⟨F,a7⟩:∃F,F=({L6 with oa:=some ⟨g,0,none⟩,oc:=cap}:aH):=⟨_,rfl⟩;have d7:F.gs=L6.gs:=by rw[a7]
  rw[←a7]at b1 b2;have b3:(.slice L6.ga j.tags.length L6.gc:Value)=.slice F.ga j.tags.length F.gc:=by rw[a7]
  rw[b3]at fH;rw[b3]at o;clear b3 a7;have b4:=(aA b1).alloc (.cells #[.slice aa d.length ac] 63);have bt:=(aA b2).alloc (.cells #[.slice aa d.length ac] 63);have HO:=aB (b4.rd.rows.own (bK {j with opn:=j.opn++[nm]} F) (by simp[a_]));have Q:=aB (show(w8.alloc (.cells #[.slice aa d.length ac] 63)).heap[w8.heap.size]?=_ from heap_alloc_new w8 _);have S:=aB (show j.tags.length+1≤maxLen by unfold maxLen;omega);have T:=aB (show b+1≤(w8.alloc (.cells #[.slice aa d.length ac] 63)).heap.size by simp;omega);have b5:=aB b4;have a8:=aB bt;clear b4 bt;apply o;clear o;refine wpList_append_lies _ rfl _ _ 109 rfl (b+1) 63 j0 _ 1 24 underlying109 c4 c5 c6 c7 rfl (by decide) (.slice F.ga j.tags.length F.gc) j.tags.length (F.gs.map (fun p:List aD×Value=>p.2)) (by simp[Act.eval]) (aA HO) ⟨w8.heap.size,0,none⟩ 1 1 [.slice aa d.length ac] (by simp[Act.eval,ag]) rfl (World.news_of_block (aA Q)) (by intro u hu;simp at hu;subst hu;rfl) (by decide) (aA S) (by omega) (aA T) (w8.heap.size+1) (by simp) ?_;clear ag;intro g2 bu w9 hown hgrow X d8;obtain⟨hr,bs⟩:=lY ((aA b5).rd.grown (r:=bK {j with opn:=j.opn++[nm]} F) hgrow (by simp[a_]));unfold aF at hr;have Y:=(aA b5).tL d (.slice aa d.length ac) ((aA a8).low G) (aA a8).nf (fun k hk=>(World.ownsRow.lt (aA a8).row k hk).1) hown hgrow (by simpa using X);have bw:=aB Y;have HST:=aB (tJ Y.rd nm d (.slice aa d.length ac) (by simp[fL]) (aA HP).nl (aA bg) (aA bh));have di:=aB (aA b1).gs;have cw:Hid ((fL F d (.slice aa d.length ac) g2 bu).gs=F.gs++[(d,.slice aa d.length ac)]):=rfl;clear Y hown hgrow X HO Q S T b5 a8 b2 fH cv
  go_wp2_with(first
   |(go_at_call 112;refine(aA HST).mono ?_;rintro e cx ⟨rfl,cy,Z⟩;have a0:aL _ b _ cx om cy:=(by rw[aA cj];exact Z);clear Z;have d9:=aB ((a0.kJ (aA bw).rd (aA bi)).trans (aA cw));have a1:=aB ((aA bw).call a0);clear a0)
   |(go_at_call 113;refine(aA cl _ _ (aA a1).rd (aA b7 _ _ _ (aA a1))).mono ?_;rintro e dj ⟨rfl,cz,ah⟩;have bx:=aB ((aA a1).call ah);clear ah))
  go_ret;have hF:=aA HF;subst hF;exact⟨rfl,cz,aA bx⟩
theorem Ko(f:Nat)(hC:CC f)(w:World)(b:Nat)(s:R)(L:aH)(h:aI w b s L)(A:Fit s)(hG:bG w)(c2:0<b)(hi:s.at_<s.s.length)(dm:s.s.length<s.at_+(f+1)+1)(bp:((s.opn.length:Int)==s.od)=false)(qw:R)(nm:Bs)(a:R)(d:List aD)(hx:Rf.word {s with at_:=s.at_+1}=(qw,nm,true))(c3:Rf.attributes qw=(a,d,true))(bq:(a.on&& !Rf.qualified a nm d)=false)(c4:(a.byte a.at_==47)=false)(cr:∀q1:R,q1={a with at_:=a.at_+1}→(Rf.content f (aX q1 nm d) (aX q1 nm d).at_).2=true):
 Calls Tryz.prog 84 #[.pointer (some ⟨b,0,none⟩)] w (iC w b s L (Rf.element (f+1) s)):=by
 obtain⟨i0,cs,ct,cu,cv⟩:=info_parts wU;obtain⟨j0,cw,cx,cy,cz⟩:=info_parts pI;have HM:=aB h;have an:=aB A;have bf:=aB (fun(W:World) (r:R) (L' :aH) (hm:aL w b (aR s L) W r L')=>hG.mv h hm c2);have HC:=aB hC;have ao:=h.cell;have hf:=h.frozen;have O:=h.lt;unfold aF at ao;have ed:=A.ok.len;have dn:=A.sl;have ee:=A.kQ;have ef:=A.od;obtain⟨ap,i⟩:∃ap,ap=Rf.element (f+1) s:=⟨_,rfl⟩;rw[←i];rw[nX]at i;have av:Hid (aL w b (aR s L) ((w.drewN 0).setCell ⟨b,5,none⟩ (.int .i64 ((s.at_:Int)+1))) {s with at_:=s.at_+1} L):=(h.start.drewN 0).store 5 _ {s with at_:=s.at_+1} (by simp[aF]) rfl rfl rfl;have c5:Kp s {s with at_:=s.at_+1}:=.to (by omega) (by omega);obtain⟨q,hq⟩:∃q:R,q={s with at_:=s.at_+1}:=⟨_,rfl⟩;have d0:q.opn=s.opn:=by rw[hq]
 have d1:q.od=s.od:=by rw[hq]
 rw[←hq]at i av c5;have aq:=A.kp c5;have eg:=aB aq;unfold PF at i;rw[d0,d1]at i;clear h A hG hC;rw[bp,if_neg (by decide)]at i;have d2:(s.opn.length:Int)≠s.od:=by simpa using bp
 have HW:=aB (fun(W:World) (L' :aH) (hW:aI W b q L')=>pF hW aq.ok);have bg:=jR aq.ok.at_ aq.ok.t0;rw[←hq]at hx;rw[hx]at i HW bg;simp only at i bg;first|rw[if_pos rfl]at i|rw[if_pos trivial]at i
 have aw:=aq.kp bg;have HA:=aB (fun(W:World) (L' :aH) (hW:aI W b qw L') (c6:bG W)=>tX hW aw.ok aw.ot aw.oa aw.sl c6 c2);have hpre:=fun ha=>nY hi (aA an).ot dn hq hx c3 ha
 rw[c3]at i HA;simp only at i hpre;first|rw[if_pos rfl]at i|rw[if_pos trivial]at i
 have hP:=hpre (by first|rfl|trivial);have ar:=(aA an).kp hP.kp;have dp:a.at_<a.s.length:=by rw[hP.kp.s];exact hP.at_
 have dq:a.tags.length≤1000000:=by rw[ar.tl];have:=ar.kQ;have:=ar.od;omega
 have HQ:=aB (fun(W:World) (L' :aH) (hW:aI W b a L') (va:Value) (hrow:W.ownsRow (b+1) 69 3 va d.length (aV d))=>tF hW nm hP.nl d va hrow hP.sh ar.sh dq);have HP:=aB hP;have dr:=aB ar;have e8:d.length≤100000000:=by have:=hP.n;have:=hP.at_;omega
 unfold PE at i;have bh:Kp s {a with at_:=a.at_+1}:=(aA HP).kp.trans (.to (by omega) (by omega));have ax:=aB (fun(W:World) (L' :aH) (m:aL w b (aR s L) W a L')=>m.store 5 (.int .i64 ((a.at_:Int)+1)) {a with at_:=a.at_+1} (by simp[aF]) rfl rfl rfl);obtain⟨q1,a6⟩:∃q1:R,q1={a with at_:=a.at_+1}:=⟨_,rfl⟩;have ay:=cr q1 a6;clear cr;have X:Hid (∀L', aR q1 L' =aR a L'):=fun L' =>by rw[a6];rfl
 have d3:q1.at_=a.at_+1:=by rw[a6]
 have br:Hid (a.opn=q1.opn):=by rw[a6];exact rfl
 have bs:q1.events=s.events:=by rw[a6];exact(aA HP).ev
 rw[←a6]at i bh ax;clear a6;generalize eh:a.on=on at *;generalize ds:Rf.qualified a nm d=qu at *;clear c5 aq hq d0 d1 bg hx aw hpre c3 hP ar;rw[bq,if_neg (by decide)]at i;obtain⟨y,d4,ei,hy⟩:=bH a a.at_ dp;have ej:(a.at_:Int)<(a.s.length:Int):=by omega
 have e9:=(aA dr).sl;rw[d4]at i c4;have dt:=c4;have du:=(aA an).kp bh;have bi:on=true→qu=true:=by intro h;subst h;cases qu<;>simp_all
 have dv:=(aA HP).nl;clear bq ds d4 hy c4;rw[dt,if_neg (by decide)]at i;obtain⟨j,rfl⟩:∃j:R,j=q1:=⟨q1,rfl⟩;have az:=bh;have bt:a.at_+1≤j.at_:=by omega
 have b0:=bs;obtain⟨a7,dw⟩:=l_ j nm d;have Y:=wV (aA an) (aA HP) d2 az bt b0;have ea:j.opn.length≤1000000:=by rw[az.op];omega
 have eb:j.tags.length≤1000000:=by rw[az.tg,(aA an).tl];omega
 have bu:Hid (∀t∈({j with opn:=j.opn++[nm],tags:=j.tags++[d]}:R).tags,Sh t):=by
  have h5:=Y.sh;rw[a7]at h5;exact h5
 have bw:Hid (({j with opn:=j.opn++[nm],tags:=j.tags++[d]}:R).events.length+d.length≤900000000):=by
  show j.events.length+d.length≤900000000;have h5:=(aA an).ev;rw[b0];omega
 have c7:Hid ((aX j nm d).tags=({j with opn:=j.opn++[nm],tags:=j.tags++[d]}:R).tags):=by rw[a7];exact rfl
 have bj:(aX j nm d).opn.length=j.opn.length+1:=by rw[a7];simp
 have bk:(aX j nm d).tags.length=j.tags.length+1:=by rw[a7];simp
 have bx:(aX j nm d).at_=j.at_:=by rw[a7]
 have bl:(aX j nm d).s=s.s:=by rw[a7];exact az.s
 obtain⟨om,bm⟩:∃om,om=aX j nm d:=⟨_,rfl⟩;have d5:=aB bm;rw[←bm]at i Y c7 bj bk bx bl;have d6:=(aA HP).n;have bn:=(jS f).2 om om.at_ Y.ok.at_ Y.ot Y.sl;have d7:=aB (fun(W:World) (L' :aH) (hW:aI W b om L') (c6:bG W)=>aA HC W b om L' hW Y c6 c2 (by rw[bl];omega));unfold nW at i;unfold PG at bn;clear a7 dw az bt b0 bh du d3 bs dm d2 bx;rw[←bm]at ay;generalize Rf.content f om om.at_=cc at *;clear bm;obtain⟨c,oc⟩:=cc;obtain rfl:oc=true:=ay;try clear ay
 obtain⟨kc,Z⟩:=bn rfl;have d8:Hid (c.tags=om.tags):=kc.tg;have b1:=Y.kp kc;have ao:c.at_+2≤c.s.length:=by rw[kc.s];exact Z
 have d9:=aB (fun(W:World) (L' :aH) (hW:aI W b c L')=>JZ nm hW b1.ok dv b1.sl ao);have au:=wP ao nm;replace i:ap=if(eZ c nm).2 then(gK (eZ c nm).1 nm d,true)else((eZ c nm).1,false):=i
 generalize eZ c nm=et at *;obtain⟨m,oe⟩:=et;cases oe with
 |false=>
  have HF:=aB (show ap=(m,false)from i);clear i bn Y bl bj bk d6 au b1 ao Z kc;rcases on with _|_;all_goals
   try obtain rfl:=bi rfl
   clear bi;go_enter func84,ntmps84
   go_wp2_with fail
   go_region
   go_wp2_with(first
    |(go_at_call 109;refine(aA HW _ _ (aA av).drew.rd).mono ?_;rintro e w1 ⟨rfl,L1,b2⟩;have a0:=aB ((aA av).drew.call b2);clear b2)
    |(go_at_call 110;refine(aA HA _ _ (aA a0).rd (aA bf _ _ _ (aA a0))).mono ?_;rintro e w2 ⟨L2,va,rfl,B,a8⟩;obtain⟨aa,ac,rfl⟩:=b_ a8.row;have a9:=aB ((aA a0).call B);have ab:=aB (a8.old (aA a0).fr.size);have Z:=B.rd.cell;have c8:=B.rd.frozen;have b3:=B.rd.lt;unfold aF at Z;clear B a8)
    |(go_at_call 111;refine(aA HQ _ _ (aA a9).rd _ ((aA ab).low O)).mono ?_;rintro e w3 ⟨rfl,ad⟩;have a1:=aB ((aA a9).below ad);have c9:=aB ((aA ab).below ad);have hc3:=(aA a1).rd.cell;have ca:=(aA a1).rd.frozen;have b4:=(aA a1).rd.lt;unfold aF at hc3;clear ad))
   first
    |(have ae:=a1;have af:=c9;have cb:=hc3;have cd:=ca;have b5:=b4)
    |(have ae:=a9;have af:=ab;have cb:=Z;have cd:=c8;have b5:=b3)
   have ce:=aB (aA ax _ _ (aA ae)).drew;have cf:=aB ((aA af).setAt O 5 (.int .i64 ((a.at_:Int)+1)) (aA X _)).drew;go_region
   go_wp2_with(at_builtin;apply Classical.byContradiction;intro l)
   have C:=aB (aA ax _ _ (aA ae));have cg:=aB ((aA af).setAt O 5 (.int .i64 ((a.at_:Int)+1)) (aA X _));clear ce cf;first
    |(have D:(w3.setCell ⟨b,5,none⟩ (.int .i64 ((a.at_:Int)+1))).heap.size=w3.heap.size:=(by simp[World.setCell]);generalize w3.setCell ⟨b,5,none⟩ (.int .i64 ((a.at_:Int)+1))=w6 at *)
    |(have D:(w2.setCell ⟨b,5,none⟩ (.int .i64 ((a.at_:Int)+1))).heap.size=w2.heap.size:=(by simp[World.setCell]);generalize w2.setCell ⟨b,5,none⟩ (.int .i64 ((a.at_:Int)+1))=w6 at *)
   obtain⟨P,rfl⟩:∃P:aH,P=L2:=⟨L2,rfl⟩;have b6:=(aA C).rd.cell;have ci:=(aA C).rd.frozen;have da:=(aA C).rd.lt;unfold aF at b6;have ag:=((aA C).rd.start.alloc (.cells #[.string ⟨nm.toArray⟩] 9)).drew;have HO:=aB (ag.rd.rows.own (cO j P) (by simp[a_]));have F:=aB (show(w6.alloc (.cells #[.string ⟨nm.toArray⟩] 9)).drew.heap[w6.heap.size]?=_ from heap_alloc_new w6 _);have G:=aB (show j.opn.length+1≤maxLen by unfold maxLen;omega);have H:=aB (show b+1≤(w6.alloc (.cells #[.string ⟨nm.toArray⟩] 9)).drew.heap.size by simp;omega);have ah:=aB ag;clear ag;apply l;clear l;refine wpList_append_lies _ rfl _ _ 34 rfl (b+1) 9 i0 _ 1 16 underlying34 cs ct cu cv rfl (by decide) (.slice P.oa j.opn.length P.oc) j.opn.length (j.opn.map sv) (by simp[Act.eval,aA br]) (aA HO) ⟨w6.heap.size,0,none⟩ 1 1 [.string ⟨nm.toArray⟩] (by simp[Act.eval,D]) rfl (World.news_of_block (aA F)) (by intro u hu;simp at hu;subst hu;rfl) (by decide) (aA G) (by omega) (aA H) (w6.heap.size+1) (by simp) ?_;clear D;intro g cap w7 hown hgrow I db;obtain⟨hr,b7⟩:=lY ((aA ah).rd.grown (r:=cO j P) hgrow (by simp[a_]));unfold aF at hr;have x:=(aA ah).tK nm hown hgrow (by simpa using I);have ai:=aB ((aA C).call x);have aj:=aB ((aA cg).call O x);have fH:=x.rd.cell;have cj:=x.rd.frozen;have dc:=x.rd.lt;unfold aF at fH;clear x hown hgrow I HO F G H ah b6 ci;go_wp2_with(at_builtin;apply Classical.byContradiction;intro l)
   clear hr b7;have a4:(w7.setCell ⟨b,10,none⟩ (.slice (some ⟨g,0,none⟩) (j.opn.length+1) cap)).heap.size=w7.heap.size:=by simp[World.setCell]
   generalize w7.setCell ⟨b,10,none⟩ (.slice (some ⟨g,0,none⟩) (j.opn.length+1) cap)=w8 at *;obtain⟨z,a2⟩:∃z,z=({P with oa:=some ⟨g,0,none⟩,oc:=cap}:aH):=⟨_,rfl⟩;have dd:z.gs=P.gs:=by rw[a2]
   rw[←a2]at ai aj;have ak:(.slice P.ga j.tags.length P.gc:Value)=.slice z.ga j.tags.length z.gc:=by rw[a2]
   rw[ak]at fH;rw[ak]at l;clear ak a2;have al:=(aA ai).alloc (.cells #[.slice aa d.length ac] 63);have b8:=(aA aj).alloc (.cells #[.slice aa d.length ac] 63);have HO:=aB (al.rd.rows.own (bK {j with opn:=j.opn++[nm]} z) (by simp[a_]));have F:=aB (show(w8.alloc (.cells #[.slice aa d.length ac] 63)).heap[w8.heap.size]?=_ from heap_alloc_new w8 _);have G:=aB (show j.tags.length+1≤maxLen by unfold maxLen;omega);have H:=aB (show b+1≤(w8.alloc (.cells #[.slice aa d.length ac] 63)).heap.size by simp;omega);have am:=aB al;have a3:=aB b8;clear al b8;apply l;clear l;refine wpList_append_lies _ rfl _ _ 109 rfl (b+1) 63 j0 _ 1 24 underlying109 cw cx cy cz rfl (by decide) (.slice z.ga j.tags.length z.gc) j.tags.length (z.gs.map (fun p:List aD×Value=>p.2)) (by simp[Act.eval]) (aA HO) ⟨w8.heap.size,0,none⟩ 1 1 [.slice aa d.length ac] (by simp[Act.eval,a4]) rfl (World.news_of_block (aA F)) (by intro u hu;simp at hu;subst hu;rfl) (by decide) (aA G) (by omega) (aA H) (w8.heap.size+1) (by simp) ?_;clear a4;intro g2 b9 w9 hown hgrow I de;obtain⟨hr,b7⟩:=lY ((aA am).rd.grown (r:=bK {j with opn:=j.opn++[nm]} z) hgrow (by simp[a_]));unfold aF at hr;have J:=(aA am).tL d (.slice aa d.length ac) ((aA a3).low O) (aA a3).nf (fun k hk=>(World.ownsRow.lt (aA a3).row k hk).1) hown hgrow (by simpa using I);have ba:=aB J;have HST:=aB (tJ J.rd nm d (.slice aa d.length ac) (by simp[fL]) (aA HP).nl (aA bu) (aA bw));have df:=aB (aA ai).gs;have ck:Hid ((fL z d (.slice aa d.length ac) g2 b9).gs=z.gs++[(d,.slice aa d.length ac)]):=rfl;clear J hown hgrow I HO F G H am a3 aj fH cj
   go_wp2_with(first
    |(go_at_call 112;refine(aA HST).mono ?_;rintro e cl ⟨rfl,cm,K⟩;have M:aL _ b _ cl om cm:=(by rw[aA d5];exact K);clear K;have bb:=aB ((M.kJ (aA ba).rd (aA c7)).trans (aA ck));have o:=aB ((aA ba).call M);clear M)
    |(go_at_call 113;refine(aA d7 _ _ (aA o).rd (aA bf _ _ _ (aA o))).mono ?_;rintro e dx ⟨rfl,dy,N⟩;have bz:=aB ((N.kJ (aA o).rd (aA d8)).trans (aA bb));have Q:=aB ((aA o).call N);clear N)
    |(go_at_call 114;refine(aA d9 _ _ (aA Q).rd).mono ?_;rintro e dz ⟨rfl,dg,S⟩;have a5:=aB ((aA Q).call S);clear S))
   go_ret;have hF:=aA HF;subst hF;exact⟨rfl,dg,aA a5⟩
 |true=>
  replace i:ap=(gK m nm d,true):=i;have bo:Hid (Fit m):=b1.kp au;have e0:Hid (m.tags=c.tags):=au.tg;have dh:m.opn.length=j.opn.length+1:=by have h5:=au.op;have h6:=kc.op;simp only at h5;rw[h5,h6];exact bj
  have di:m.tags.length=j.tags.length+1:=by have h5:=au.tg;have h6:=kc.tg;simp only at h5;rw[h5,h6];exact bk
  have e1:=(aA bo).ev;have e2:=(aA bo).sl;have e3:=(aA bo).ok.at_;have dj:=aB (fun(W:World) (L' :aH) (hW:aI W b m L') (v:Value) (e4:(d,v)∈L'.gs)=>Ql hW nm d v e4 (aA HP).nl (aA bo).sh (by omega));obtain⟨bc,e5⟩:=wS m nm d;obtain⟨E,hE⟩:∃E,E=Rf.ended m nm d:=⟨_,rfl⟩;have HF:=aB (show ap=({E with opn:=E.opn.dropLast,tags:=E.tags.dropLast},true) by rw[hE];exact i);rw[←hE]at dj bc;have cn:Hid (E.opn.length=j.opn.length+1):=by rw[bc];exact dh
  have co:Hid (E.tags.length=j.tags.length+1):=by rw[bc];exact di
  have e6:Hid (E.tags=m.tags):=by rw[bc];exact rfl
  clear bc e5 hE i e1 e2 e3 dh di;clear bn Y bl bj bk d6 au b1 ao Z kc;rcases on with _|_;all_goals
   try obtain rfl:=bi rfl
   clear bi;go_enter func84,ntmps84
   go_wp2_with fail
   go_region
   go_wp2_with(first
    |(go_at_call 109;refine(aA HW _ _ (aA av).drew.rd).mono ?_;rintro e w1 ⟨rfl,L1,b2⟩;have a0:=aB ((aA av).drew.call b2);clear b2)
    |(go_at_call 110;refine(aA HA _ _ (aA a0).rd (aA bf _ _ _ (aA a0))).mono ?_;rintro e w2 ⟨L2,va,rfl,B,a8⟩;obtain⟨aa,ac,rfl⟩:=b_ a8.row;have a9:=aB ((aA a0).call B);have ab:=aB (a8.old (aA a0).fr.size);have Z:=B.rd.cell;have c8:=B.rd.frozen;have b3:=B.rd.lt;unfold aF at Z;clear B a8)
    |(go_at_call 111;refine(aA HQ _ _ (aA a9).rd _ ((aA ab).low O)).mono ?_;rintro e w3 ⟨rfl,ad⟩;have a1:=aB ((aA a9).below ad);have c9:=aB ((aA ab).below ad);have hc3:=(aA a1).rd.cell;have ca:=(aA a1).rd.frozen;have b4:=(aA a1).rd.lt;unfold aF at hc3;clear ad))
   first
    |(have ae:=a1;have af:=c9;have cb:=hc3;have cd:=ca;have b5:=b4)
    |(have ae:=a9;have af:=ab;have cb:=Z;have cd:=c8;have b5:=b3)
   have ce:=aB (aA ax _ _ (aA ae)).drew;have cf:=aB ((aA af).setAt O 5 (.int .i64 ((a.at_:Int)+1)) (aA X _)).drew;go_region
   go_wp2_with(at_builtin;apply Classical.byContradiction;intro l)
   have C:=aB (aA ax _ _ (aA ae));have cg:=aB ((aA af).setAt O 5 (.int .i64 ((a.at_:Int)+1)) (aA X _));clear ce cf;first
    |(have D:(w3.setCell ⟨b,5,none⟩ (.int .i64 ((a.at_:Int)+1))).heap.size=w3.heap.size:=(by simp[World.setCell]);generalize w3.setCell ⟨b,5,none⟩ (.int .i64 ((a.at_:Int)+1))=w6 at *)
    |(have D:(w2.setCell ⟨b,5,none⟩ (.int .i64 ((a.at_:Int)+1))).heap.size=w2.heap.size:=(by simp[World.setCell]);generalize w2.setCell ⟨b,5,none⟩ (.int .i64 ((a.at_:Int)+1))=w6 at *)
   obtain⟨P,rfl⟩:∃P:aH,P=L2:=⟨L2,rfl⟩;have b6:=(aA C).rd.cell;have ci:=(aA C).rd.frozen;have da:=(aA C).rd.lt;unfold aF at b6;have ag:=((aA C).rd.start.alloc (.cells #[.string ⟨nm.toArray⟩] 9)).drew;have HO:=aB (ag.rd.rows.own (cO j P) (by simp[a_]));have F:=aB (show(w6.alloc (.cells #[.string ⟨nm.toArray⟩] 9)).drew.heap[w6.heap.size]?=_ from heap_alloc_new w6 _);have G:=aB (show j.opn.length+1≤maxLen by unfold maxLen;omega);have H:=aB (show b+1≤(w6.alloc (.cells #[.string ⟨nm.toArray⟩] 9)).drew.heap.size by simp;omega);have ah:=aB ag;clear ag;apply l;clear l;refine wpList_append_lies _ rfl _ _ 34 rfl (b+1) 9 i0 _ 1 16 underlying34 cs ct cu cv rfl (by decide) (.slice P.oa j.opn.length P.oc) j.opn.length (j.opn.map sv) (by simp[Act.eval,aA br]) (aA HO) ⟨w6.heap.size,0,none⟩ 1 1 [.string ⟨nm.toArray⟩] (by simp[Act.eval,D]) rfl (World.news_of_block (aA F)) (by intro u hu;simp at hu;subst hu;rfl) (by decide) (aA G) (by omega) (aA H) (w6.heap.size+1) (by simp) ?_;clear D;intro g cap w7 hown hgrow I db;obtain⟨hr,b7⟩:=lY ((aA ah).rd.grown (r:=cO j P) hgrow (by simp[a_]));unfold aF at hr;have x:=(aA ah).tK nm hown hgrow (by simpa using I);have ai:=aB ((aA C).call x);have aj:=aB ((aA cg).call O x);have fH:=x.rd.cell;have cj:=x.rd.frozen;have dc:=x.rd.lt;unfold aF at fH;clear x hown hgrow I HO F G H ah b6 ci;go_wp2_with(at_builtin;apply Classical.byContradiction;intro l)
   clear hr b7;have a4:(w7.setCell ⟨b,10,none⟩ (.slice (some ⟨g,0,none⟩) (j.opn.length+1) cap)).heap.size=w7.heap.size:=by simp[World.setCell]
   generalize w7.setCell ⟨b,10,none⟩ (.slice (some ⟨g,0,none⟩) (j.opn.length+1) cap)=w8 at *;obtain⟨z,a2⟩:∃z,z=({P with oa:=some ⟨g,0,none⟩,oc:=cap}:aH):=⟨_,rfl⟩;have dd:z.gs=P.gs:=by rw[a2]
   rw[←a2]at ai aj;have ak:(.slice P.ga j.tags.length P.gc:Value)=.slice z.ga j.tags.length z.gc:=by rw[a2]
   rw[ak]at fH;rw[ak]at l;clear ak a2;have al:=(aA ai).alloc (.cells #[.slice aa d.length ac] 63);have b8:=(aA aj).alloc (.cells #[.slice aa d.length ac] 63);have HO:=aB (al.rd.rows.own (bK {j with opn:=j.opn++[nm]} z) (by simp[a_]));have F:=aB (show(w8.alloc (.cells #[.slice aa d.length ac] 63)).heap[w8.heap.size]?=_ from heap_alloc_new w8 _);have G:=aB (show j.tags.length+1≤maxLen by unfold maxLen;omega);have H:=aB (show b+1≤(w8.alloc (.cells #[.slice aa d.length ac] 63)).heap.size by simp;omega);have am:=aB al;have a3:=aB b8;clear al b8;apply l;clear l;refine wpList_append_lies _ rfl _ _ 109 rfl (b+1) 63 j0 _ 1 24 underlying109 cw cx cy cz rfl (by decide) (.slice z.ga j.tags.length z.gc) j.tags.length (z.gs.map (fun p:List aD×Value=>p.2)) (by simp[Act.eval]) (aA HO) ⟨w8.heap.size,0,none⟩ 1 1 [.slice aa d.length ac] (by simp[Act.eval,a4]) rfl (World.news_of_block (aA F)) (by intro u hu;simp at hu;subst hu;rfl) (by decide) (aA G) (by omega) (aA H) (w8.heap.size+1) (by simp) ?_;clear a4;intro g2 b9 w9 hown hgrow I de;obtain⟨hr,b7⟩:=lY ((aA am).rd.grown (r:=bK {j with opn:=j.opn++[nm]} z) hgrow (by simp[a_]));unfold aF at hr;have J:=(aA am).tL d (.slice aa d.length ac) ((aA a3).low O) (aA a3).nf (fun k hk=>(World.ownsRow.lt (aA a3).row k hk).1) hown hgrow (by simpa using I);have ba:=aB J;have HST:=aB (tJ J.rd nm d (.slice aa d.length ac) (by simp[fL]) (aA HP).nl (aA bu) (aA bw));have df:=aB (aA ai).gs;have ck:Hid ((fL z d (.slice aa d.length ac) g2 b9).gs=z.gs++[(d,.slice aa d.length ac)]):=rfl;clear J hown hgrow I HO F G H am a3 aj fH cj
   go_wp2_with(first
    |(go_at_call 112;refine(aA HST).mono ?_;rintro e cl ⟨rfl,cm,K⟩;have M:aL _ b _ cl om cm:=(by rw[aA d5];exact K);clear K;have bb:=aB ((M.kJ (aA ba).rd (aA c7)).trans (aA ck));have o:=aB ((aA ba).call M);clear M)
    |(go_at_call 113;refine(aA d7 _ _ (aA o).rd (aA bf _ _ _ (aA o))).mono ?_;rintro e dx ⟨rfl,dy,N⟩;have bz:=aB ((N.kJ (aA o).rd (aA d8)).trans (aA bb));have Q:=aB ((aA o).call N);clear N)
    |(go_at_call 114;refine(aA d9 _ _ (aA Q).rd).mono ?_;rintro e dz ⟨rfl,dg,S⟩;have c0:=aB ((S.kJ (aA Q).rd (aA e0)).trans (aA bz));have a5:=aB ((aA Q).call S);clear S)
    |(go_at_call 115;refine(aA dj _ _ (aA a5).rd _ (by rw[aA c0];simp)).mono ?_;rintro e ek ⟨rfl,el,be⟩;have dk:=aB ((be.kJ (aA a5).rd (aA e6)).trans (aA c0));have T:=aB ((aA a5).call be);clear be))
   obtain⟨og,cp,em⟩:=BB (aA T).rd (aA cn);obtain⟨tg,cq,en⟩:=BD (aA T).rd (aA co);have c1:=(aA T).rd.cell;have ec:=(aA T).rd.frozen;have e7:=(aA T).rd.lt;unfold aF at c1;rw[aA cn,aA co,cp,cq]at c1;have dl:=aB (BF (aA T) (aA cn) (aA co) (by rw[aA dk,List.dropLast_concat];exact aA df));rw[cp,cq]at dl;clear cp cq;go_wp2_with fail
   go_region
   go_wp2_with fail
   go_region
   go_wp2_with fail
   go_ret;have hF:=aA HF;subst hF;exact⟨rfl,_,aA dl⟩
theorem Kq(f:Nat)(o:CC f)(w:World)(b:Nat)(s:R)(L:aH)(h:aI w b s L)(d:Fit s)(p:bG w)(j:0<b)(q:s.at_<s.s.length)(k:s.s.length<s.at_+(f+1)+1)(g:((s.opn.length:Int)==s.od)=false)(n:R)(nm:Bs)(a:R)(c:List aD)(r:Rf.word {s with at_:=s.at_+1}=(n,nm,true))(l:Rf.attributes n=(a,c,true))(i:(a.on&& !Rf.qualified a nm c)=false):
 Calls Tryz.prog 84 #[.pointer (some ⟨b,0,none⟩)] w (iC w b s L (Rf.element (f+1) s)):=by
 cases m:(a.byte a.at_==47)with
 |true=>exact Km f o w b s L h d p j q k g n nm a c r l i m
 |false=>
  cases t:(Rf.content f (aX {a with at_:=a.at_+1} nm c) (aX {a with at_:=a.at_+1} nm c).at_).2 with
  |false=>exact Kn f o w b s L h d p j q k g n nm a c r l i m (fun u e=>by rw[e];exact t)
  |true=>exact Ko f o w b s L h d p j q k g n nm a c r l i m (fun u e=>by rw[e];exact t)
theorem Kr(f:Nat)(hC:CC f):EC (f+1):=by
 intro w b s L h g hG J hi A;have HM:=aB h;have Q:=aB g;have S:=aB (fun(W:World) (r:R) (L' :aH) (hm:aL w b (aR s L) W r L')=>hG.mv h hm J);have H:=aB (fun j P nm a d I t k=>Kq f hC w b s L h g hG J hi A j P nm a d I t k);have a4:=h.cell;have hf:=h.frozen;have a5:=h.lt;unfold aF at a4;have ad:=g.ok.len;have a6:=g.sl;have ae:=g.kQ;have af:=g.od;obtain⟨E,c⟩:∃E,E=Rf.element (f+1) s:=⟨_,rfl⟩;rw[←c];have T:=aB c;rw[nX]at c;have l:Hid (aL w b (aR s L) ((w.drewN 0).setCell ⟨b,5,none⟩ (.int .i64 ((s.at_:Int)+1))) {s with at_:=s.at_+1} L):=(h.start.drewN 0).store 5 _ {s with at_:=s.at_+1} (by simp[aF]) rfl rfl rfl;have v:Kp s {s with at_:=s.at_+1}:=.to (by omega) (by omega);obtain⟨q,F⟩:∃q:R,q={s with at_:=s.at_+1}:=⟨_,rfl⟩;have B:q.opn=s.opn:=by rw[F]
 have C:q.od=s.od:=by rw[F]
 rw[←F]at c l v;have m:=g.kp v;have ag:=aB m;unfold PF at c;rw[B,C]at c;clear h g hG hC;cases j:((s.opn.length:Int)==s.od)with
 |true=>
  rw[j,if_pos rfl]at c;have K:=aB c;clear c v m F B C A;go_enter func84,ntmps84
  go_wp2_with fail
  go_region
  go_wp2_with(go_at_call 83;refine(bW (aA l).drew.rd 7).mono ?_;rintro e w1 ⟨rfl,X,n⟩)
  go_ret;have M:=aA K;subst M;exact⟨rfl,X,(aA l).drew.call n⟩
 |false=>
  rw[j,if_neg (by decide)]at c;have N:(s.opn.length:Int)≠s.od:=by simpa using j
  have HW:=aB (fun(W:World) (L' :aH) (Y:aI W b q L')=>pF Y m.ok);have y:=jR m.ok.at_ m.ok.t0;obtain⟨x,I⟩:∃x,Rf.word q=x:=⟨_,rfl⟩;rw[I]at c HW y;obtain⟨P,nm,o⟩:=x;simp only at c y;cases o with
  |false=>
   have K:=aB (show E=(P,false)from c);clear c v m F B C A y I N;go_enter func84,ntmps84
   go_wp2_with fail
   go_region
   go_wp2_with(go_at_call 109;refine(aA HW _ _ (aA l).drew.rd).mono ?_;rintro e w1 ⟨rfl,X,n⟩)
   go_ret;have M:=aA K;subst M;exact⟨rfl,X,(aA l).drew.call n⟩
  |true=>
   rw[if_pos rfl]at c;have z:=m.kp y;have HA:=aB (fun(W:World) (L' :aH) (Y:aI W b P L') (a7:bG W)=>tX Y z.ok z.ot z.oa z.sl a7 J);obtain⟨x2,t⟩:∃x2,Rf.attributes P=x2:=⟨_,rfl⟩;have hpre:=fun ha=>nY hi (aA Q).ot a6 F I t ha
   rw[t]at c HA;obtain⟨a,d,o2⟩:=x2;simp only at c hpre;cases o2 with
   |false=>
    have K:=aB (show E=(a,false)from c);clear c v m F B C A y I N z hpre t;go_enter func84,ntmps84
    go_wp2_with fail
    go_region
    go_wp2_with(first
     |(go_at_call 109;refine(aA HW _ _ (aA l).drew.rd).mono ?_;rintro e w1 ⟨rfl,X,n⟩;have p:=aB ((aA l).drew.call n);clear n)
     |(go_at_call 110;refine(aA HA _ _ (aA p).rd (aA S _ _ _ (aA p))).mono ?_;rintro e w2 ⟨L2,va,rfl,i,u⟩;obtain⟨aa,ac,rfl⟩:=b_ u.row;have G:=aB ((aA p).call i);have Z:=aB (u.old (aA p).fr.size);have O:=i.rd.cell;have a8:=i.rd.frozen;have a0:=i.rd.lt;unfold aF at O;clear i u))
    go_ret;have M:=aA K;subst M;exact⟨rfl,L2,aA G⟩
   |true=>
    rw[if_pos rfl]at c;cases k:(a.on&& !Rf.qualified a nm d)with
    |false=>
     rw[aA T];exact aA H j P nm a d (by rw[←F];exact I) t k
    |true=>
     have hP:=hpre rfl;have D:=(aA Q).kp hP.kp;have a9:a.tags.length≤1000000:=by rw[D.tl];have:=D.kQ;have:=D.od;omega
     have HQ:=aB (fun(W:World) (L' :aH) (Y:aI W b a L') (va:Value) (hrow:W.ownsRow (b+1) 69 3 va d.length (aV d))=>tF Y nm hP.nl d va hrow hP.sh D.sh a9);unfold PE at c;rw[k,if_pos rfl]at c;obtain⟨ah,a1⟩:a.on=true∧Rf.qualified a nm d=false:=by simpa using k
     rw[a1]at HQ;have K:=aB c;clear v m F B C y I z hpre t hP D c a1 k A N H T;go_enter func84,ntmps84
     go_wp2_with fail
     go_region
     go_wp2_with(first
      |(go_at_call 109;refine(aA HW _ _ (aA l).drew.rd).mono ?_;rintro e w1 ⟨rfl,X,n⟩;have p:=aB ((aA l).drew.call n);clear n)
      |(go_at_call 110;refine(aA HA _ _ (aA p).rd (aA S _ _ _ (aA p))).mono ?_;rintro e w2 ⟨L2,va,rfl,i,u⟩;obtain⟨aa,ac,rfl⟩:=b_ u.row;have G:=aB ((aA p).call i);have Z:=aB (u.old (aA p).fr.size);have O:=i.rd.cell;have a8:=i.rd.frozen;have a0:=i.rd.lt;unfold aF at O;clear i u)
      |(go_at_call 111;refine(aA HQ _ _ (aA G).rd _ ((aA Z).low a5)).mono ?_;rintro e w3 ⟨rfl,a2⟩;have a3:=aB ((aA G).below a2);clear a2)
      |(go_at_call 83;refine(bW (aA a3).rd 8).mono ?_;rintro e w4 ⟨rfl,L4,ab⟩))
     go_ret;have M:=aA K;subst M;exact⟨rfl,L4,(aA a3).call ab⟩
end
end Go.Proofs.YtmgfijllcdadgaaGreatDoor.V
