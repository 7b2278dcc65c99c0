import Derived.Test.YtmgfijllcdadgaaGreatDoorUW43
set_option linter.all false
set_option maxHeartbeats 8000000
set_option maxRecDepth 100000
namespace Go.Proofs.YtmgfijllcdadgaaGreatDoor.U
open Go.RowKit
open V
open List
open Go.Proofs.Tryz
open Rf (lZ tu lG)
open Mk hiding Rf rest
variable {w w' :World}{l:List Ev}{i n lo up m:Nat}{v:Value}
def Ce(w:World)(O:Nat->Nat×Nat)(b:Nat)(pl:List (Pl×PA))(n:Nat)(pa:Option Addr)(pc i xb:Nat)(p' :Pl)(w' :World):Prop:=∃O' A a c d,WI w' O' b (pl.set i (p', A)) a pa pc c d/\a.length=n/\eT (λ_=>False) O O' w w' /\A.xb=xb
structure Md(w:World)(O:Nat->Nat×Nat)(b:Nat)(pl:List (Pl×PA))(n:Nat)(pa:Option Addr)(pc i xb:Nat)(p' :Pl)(v:Value)(evs:List Ev)(fp:List Nat)(W:World)(O' :Nat->Nat×Nat)(A:PA)(hl:List HA)(ha:Option Addr)(hc:Nat):Prop where
 wi:WI W O' b (pl.set i (p', A)) hl pa pc ha hc
 len:hl.length=n
 ny:eT (λ_=>False) O O' w W
 got:o_ W v evs fp
 free:∀k∈fp,O' k=fr/\k<W.heap.size
 own:∀k∈fp,k<w.heap.size->O k≠fr
 ax:A.xb=xb
section
variable {w:World}{O:Nat->Nat×Nat}{b:Nat}{pl:List (Pl×PA)}{pa:Option Addr}{pc i n xb:Nat}{p' :Pl}{v:Value}{evs:List Ev}{fp:List Nat}{W:World}{O' :Nat->Nat×Nat}{A:PA}{hl:List HA}{ha:Option Addr}{hc:Nat}
def Md.below{c:World}(h:Md w O b pl n pa pc i xb p' v evs fp W O' A hl ha hc)(a:Below W.heap.size W c):Md w O b pl n pa pc i xb p' v evs fp c O' A hl ha hc:=
 ⟨h.wi.below a,h.len,h.ny.trans (eT.of_below (λ_=>False) a) λ_ _ q=>q,h.got.keep λk q=>a.block k (h.free k q).2,λk q=>⟨(h.free k q).1,i_ (h.free k q).2 a.size⟩,h.own,h.ax⟩
def Md.keep(h:Md w O b pl n pa pc i xb p' v evs fp W O' A hl ha hc){c:Nat}(o:c<=3){g m p:Nat}{e:TypeId}{a:Option Addr}{t:List Value}(u:W.ownsRow g e (rP c) (.slice a m p) m t)(j:∀k,cB a k->O' k=fr/\k∉fp/\w.heap.size<=k)(B:n<=17000000000000):
 Calls prog 68 #[.pointer (some ⟨b,0,none⟩),.pointer (some ⟨W.heap.size,0,none⟩)] (W.alloc (.cells (qC c (.slice a p p) 0) 120)) λe w' =>e=.returned (.tuple #[])/\∃r s d f,Md w O b pl (n+1) pa pc i xb p' v evs fp w' r A s d f:=by
 refine(zE h.wi o u (λk q=>(j k q).1) (by have:=h.len;omega)).mono λe w' ⟨x,r,d,f,y,l⟩=>⟨x,r,_,d,f,y,by rw[bT,h.len];rfl,h.ny.trans l λk C z=>by have:=(j k z).2.2;omega,h.got.keep λk q=>?_,λk q=>?_,h.own,h.ax⟩
 .exact l.ch.block k (h.free k q).2 λe=>by
   obtain e|e:=e
   .exact e (h.free k q).1
   exact(j k e).2.1 q
 exact⟨l.tag k (h.free k q).2 (h.free k q).1 λe=>(j k e).2.1 q,i_ (h.free k q).2 l.ch.size⟩
def Md.y(h:Md w O b pl n pa pc i xb p' v evs fp W O' A hl ha hc)(s:n+evs.length+1<=17000000000000)(a:evs.length<=1000000000):
 Calls prog 69 #[.pointer (some ⟨b,0,none⟩),v] W λe w' =>e=.returned (.tuple #[])/\Ce w O b pl (n+evs.length+1) pa pc i xb p' w' :=by
 refine(Qh h.wi h.got h.free (by have:=h.len;omega) a).mono λe w' ⟨g,j,c,d,f,l,m,o⟩=>⟨g,j,A,c,d,f,l,by rw[m,h.len],eT.agm h.ny o λk p q r=>aj6 q (h.own k r p),h.ax⟩
def Ce.cells{w' :World}(h:Ce w O b pl n pa pc i xb p' w')(k:i<pl.length):∃c,w'.heap[xb]?=some (.cells (ju p' c) 57 (0,0)):=by
 obtain⟨O', A,d,e,f,g,l,m,j⟩:=h;have a:=(g.ps i<|by rwa[AP]).blk;rw[getElem_set_self]at a;rw[<-j];exact⟨_,a⟩
end
def SE{g:Nat}{l:U}(h:w.heap[g]?=some (.cells (l.map bv).toArray 5 (0,0)))(hl:l.length<=1000000000):w.ownsRow 0 5 1 (.slice (some ⟨g,0,none⟩) l.length l.length) l.length (l.map bv):=
 ⟨by simp,.inr ⟨g,l.length,_,rfl,dO _,h,a_ _,by unfold maxLen;omega,by simp,by rw[uz];exact nZ (by simp)⟩⟩
def agp(l:U)(n:Nat):(ByteArray.extract ⟨l.toArray⟩ 0 n)=⟨(l.take n).toArray⟩:=by
 apply rF;simp[yF]
def SF{k:Nat}{s:Mk.Z}(h:Inv k s)(l:U):(dM s l).2.1.length<=7* (k+12*l.length)+1:=by
 unfold dM;split
 .have a:=(DI l h).hl;unfold Mk.bK;split
  .show(aQ s l).C.length<=_;omega
  show((aQ s l).C++[_]).length<=_;rw[bT];simp;omega
 simp
section
variable {w:World}{O:Nat->Nat×Nat}{b:Nat}{pl:List (Pl×PA)}{hl:List HA}{pa ha:Option Addr}{pc hc:Nat}
def IZ(h:WI w O b pl hl pa pc ha hc){i K:Nat}(hi:i<pl.length)(F:jA K pl[i].1)(s:U)(hK:K+s.length<=7000000)(hG:Gt w O)(hn:hl.length<=16000000000000)(ai:(Rf.aU pl[i].1.od pl[i].1.oa pl[i].1.S pl[i].1.on pl[i].1.aU s).A<=(pl[i].1.aU++s).length):
 Calls prog 48 #[.pointer (some ⟨b,0,none⟩),.pointer (some ⟨pl[i].2.xb,0,none⟩),.string ⟨s.toArray⟩] w λe w' =>e=.returned (.bool (jH pl[i].1 s).2)/\Ce w O b pl (hl.length+(dM pl[i].1.s s).2.1.length+2) pa pc i pl[i].2.xb (jH pl[i].1 s).1 w' :=by
 have hP:=h.ps i hi;have hx:=h.BV hi;have HH:=Y λw=>Qi s (by omega) w;have HS:=Y λw g=>acf s (by omega) w g;have HX:=Y hP.blk;have HW:=Y h;have HG:=Y hG;have av:=hP.lo;have aw:=hP.X.lt;have aa:=hP.X.jh;have HF:=Y λ(w1:World) (hb:Below w.heap.size w w1) (ad:Option Addr) (c:Nat)=>NG (hP.X.keep λk q=>hb.block k<|by obtain q|q:=q;exact q▸aw;exact(aa k q).2) F.inv s (by omega) (hG.gl.below hG.lt hb) av F.jv (by have:=F.tT;omega) ad c;have hev:=SF F.inv s;obtain⟨d,x,f⟩:=bN hP.blk;obtain⟨b7,B⟩:=aj8 (jH pl[i].1 s);rw[<-B];unfold jH at B;have HR:=Y λ(W:World) (hb:gQ W)=>V.IZ (on:=pl[i].1.on) (more:=s) F.d1 F.d2 F.a1 F.a2 F.t1 F.t2 (show pl[i].1.aU.length+s.length<=100000000 by have:=F.fd;omega) W hb;have ax:pl[i].1.aU.length+s.length<=7000000:=by have:=F.fd;omega
 have C:=Y λ(w1 w2 w3 W:World) (p' :Pl) (L' :Lay) (fp:List Nat)=>agn h hi (w1:=w1) (w2:=w2) (w3:=w3) (W:=W) (p' :=p') (L' :=L') (fp:=fp);have S:∀k∈aY pl[i].1.s pl[i].2.L,k<w.heap.size:=λk q=>(aa k q).2;have ay:∀k∈aY pl[i].1.s pl[i].2.L,2<k:=λk q=>by have:=(aa k q).1;omega
 have aj:=Y hx;have ak:=Y λk (q:k∈aY pl[i].1.s pl[i].2.L)=>(show O k≠fr by rw[hP.of k q];exact lz);unfold ju at d;clear h F hG hP hx aa;generalize pl[i]=q at *;obtain⟨⟨od,oa,ot,on,st,aU,T⟩,⟨n,pb,L⟩⟩:=q;dsimp only at B d x f HX HF HR C av aw S ay ai hev ax aj ak⊢;generalize b8:dM st s=fe at *;obtain⟨s', l,en⟩:=fe;dsimp only at *;have ab:=Y B;have b9:=Y ai;have N:=Y hev;clear B b8 ai hev;have bq:s.length<=7000000:=by omega
 go_enter func48,ntmps48;go_wp2_with fail;go_call(HH.u _)as e w1 ⟨rfl,P,t⟩;have D:=gY P;have t:Below w.heap.size w w1.drew:=⟨t.os,t.tape,t.output,t.size,t.block⟩;have P:w1.drew.heap[w.heap.size]?=_:=P;have az:∀j (hj:j<s.length),∃g,(some ⟨w.heap.size,0,none⟩:Option Addr)=some ⟨g,0,none⟩/\g<w1.drew.heap.size/\g≠pb/\g∉aY st L/\w1.drew.cell? ⟨g,j,none⟩=some (.int .u8 (s[j].toNat:Int)):=λj hj=>⟨w.heap.size,rfl,D,by omega,λe=>by have:=S _ e;omega,by rw[(bN P).1 j];simp[hd,bv,pW,hj]⟩;have b0:=Y (HF.u w1.drew t _ (s.length+3) az);have al:w1.heap[n]?=_:=(t.block _ f).trans HX.u;clear d x f;obtain⟨d,x,f⟩:=bN al;unfold ju at d;have p:=Y (ajN t (ajN P al));have br:(s.length:Int)<=(s.length:Int)+3:=by omega
 clear t P az al HF HH;go_wp2_with fail;go_cut [8,9] λs8 s9 w2=>∃va vc fp L', s8=.slice va l.length vc/\s9=.int .i64 en/\Hid (o_ w2 (.slice va l.length vc) l fp/\Mv w1.drew pb (aY st L) w2 s' L' /\∀k∈fp,(pb<=k+1/\k≠pb)/\k<w2.heap.size/\k∉aY s' L' /\(k∈aY st L\/w1.drew.heap.size<=k))
 case first=>
  go_region_with (go_at_call 36;go_call b0.u as e w2 ⟨v,fp,L', rfl,X,-,hm,b1⟩;obtain⟨va,vc,rfl⟩:=X.got.slice;have E:=Y (ajN X (ajN hm b1));clear X hm b1);all_goals
   go_wp2_with fail;go_meet
   exact⟨va,vc,fp,L', rfl,rfl,E⟩
 case rest=>
 obtain⟨va,vc,fp,L', rfl,rfl,E⟩:=hcut;rename World=>w2;have Q:=E.u.2.1.fr;have b2:w2.heap[n]?=_:=(Q.block _ f aj.u.1 aj.u.2).trans p.u.2.2;have b3:w2.heap[w.heap.size]?=_:=(Q.block _ D (by omega) λe=>by have:=S _ e;omega).trans p.u.2.1;have b4:=Y (HS.u w2 _ b3);have am:=Y b2;clear d x f Q b2 b3 HS b0;go_wp2_with fail;go_call b4.u as e w3 ⟨rfl,I⟩;have an:=(I.block _ (gY am.u)).trans am.u;have ag:gQ w3:=by
  have h1:=HG.u;have h2:0<w.heap.size:=by have:=h1.lt;omega
  refine h1.gr.keep ?_;have Q:=E.u.2.1.fr;rw[I.block _<|by have:=Q.size;have:=p.u.1.size;omega,Q.block _ (by have:=p.u.1.size;omega) (by omega) λe=>by have:=ay _ e;omega];exact p.u.1.block _ h2
 obtain⟨d,x,f⟩:=bN an;unfold ju at d;have y:=Y (ajN I an);have ae:=Y λ(W:World) (hb:Below w3.heap.size w3 W)=>HR.u W (ag.below hb);clear I an b4 am HR ag;by_cases ao:T=0
 .subst ao;have e0:((0:Int)==0)=true:=rfl;have ba:∀o j,(w3.alloc o).cell? ⟨n,j,none⟩=(#[.pointer (some ⟨pb,0,none⟩),.int .i64 od,.int .i64 oa,.int .i64 ot,.bool on,.string ⟨aU.toArray⟩,.int .i64 0]:Array Value)[j]?:=λo j=>by rw[<-d j];exact mG (dG _ _ _ f)
  generalize bs:Rf.aU od oa ot on aU s=A at *;go_wp2_with fail;go_cut [12] λbb wx=>Hid (zF w3 wx bb A)
  case first=>
   have ap:Below w3.heap.size w3 w3.drew:=⟨rfl,rfl,rfl,a_ _,λ_ _=>rfl⟩;have bc:∀o,Below w3.heap.size w3 (w3.alloc o).drew:=λo=>⟨rfl,rfl,rfl,by simp,λk F=>dG _ _ _ F⟩
   go_region_with (go_at_call 72;first
    |(go_call(ae.u _ ap)as e R ⟨v4,rfl,a0,z⟩;obtain⟨ea,ec,af,oc,rfl,a3⟩:=EA (W0:=w3) (W:=w3.drew) ap a0 z;have bd:=Ey R A ea ec af oc;have HO:=Y a3;clear a3 a0 z)
    |(go_call(ae.u _ (bc _))as e R ⟨v4,rfl,a0,z⟩;obtain⟨ea,ec,af,oc,rfl,HZ,a3⟩:=EB (W0:=w3) (W:=w3.drew) ap a0 z;have bd:=Ez R w3.heap.size A ea ec af oc HZ;have HO:=Y a3;clear a3 a0 z HZ))
   all_goals
    go_wp2_with fail;go_meet
    exact HO
  case rest=>
  obtain⟨g,ea,ec,af,oc,rfl,hg,b5,hL,z⟩:=hcut.u;rename World=>R;obtain⟨b6,be,bf⟩:=bN b5;unfold mJ at b6;have aq:=(z.block _ f).trans y.u.2;clear d x f b5 hcut ba ae;obtain⟨d,x,f⟩:=bN aq;unfold ju at d;have bt:g≠n:=by have:=gY y.u.2;omega
  have bn:¬9223372036854775807<aU.length+s.length:=by omega
  have bo:(A.A:Int)<=(aU.length:Int)+(s.length:Int):=by have h9:=b9.u;rw[bT]at h9;omega
  have bp:=gY y.u.2;have ah:∀k,(Value.slice ea A.y.length ec).ownBlock=some k->k≠n:=λk q e=>by have:=hL.lo k q;omega
  have a4:fL w3.heap.size _ ((R.setCell ⟨n,6,none⟩ (.int .i64 A.err)).setCell ⟨n,5,none⟩ (.string ⟨((aU++s).take A.A).toArray⟩)) (.slice ea A.y.length ec) A.y:=fL.Ji (fL.Ji hL.ev.choose_spec (g:=n) (λk q=>n_ R ⟨n,6,none⟩ k _ q) (by simp) ah (by omega)) (g:=n) (λk q=>n_ _ ⟨n,5,none⟩ k _ q) (by simp) ah (by omega);go_wp2_with fail;have a5:=C.u w1.drew w2 R ((R.setCell ⟨n,6,none⟩ (.int .i64 A.err)).setCell ⟨n,5,none⟩ (.string ⟨((aU++s).take A.A).toArray⟩)) ⟨od,oa,ot,on,s', (aU++s).take A.A,A.err⟩ L' fp p.u.1 E.u.2.1 (y.u.1.trans (z.mono y.u.1.size)) (rY _ n 5 _ _ _ (rY R n 6 _ _ _ aq)) (λk q=>(n_ _ ⟨n,5,none⟩ k _ q).trans (n_ R ⟨n,6,none⟩ k _ q)) (by simp) ⟨rfl,rfl,rfl⟩ E.u.2.2;obtain⟨O', A', k1,k2,k3,k4,k5⟩:=a5;have a:∀k∈fp,k≠w.heap.size:=λk q e=>by
   have s1:=D;rcases(E.u.2.2 k q).2.2.2 with G|G
   .have:=S k G;omega
   have q3:w1.heap.size<=k:=G;omega
  have m:Md w O b pl hl.length pa pc i n ⟨od,oa,ot,on,s', (aU++s).take A.A,A.err⟩ (.slice va l.length vc) l fp ((R.setCell ⟨n,6,none⟩ (.int .i64 A.err)).setCell ⟨n,5,none⟩ (.string ⟨((aU++s).take A.A).toArray⟩)) O' A' hl ha hc:=⟨k1,rfl,k2,E.u.1.keep λk q=>(k3 k q).2.2,λk q=>⟨(k3 k q).1,(k3 k q).2.1⟩,λk q q1=>by
   rcases(E.u.2.2 k q).2.2.2 with G|G
   .exact ak.u k G
   have q3:w1.heap.size<=k:=G
   have s1:=D
   omega,k4⟩
  obtain⟨k6,k7,k8⟩:=k5 w.heap.size (a_ _) D;have hrow:=SE (k8.trans p.u.2.1) (by rw[BJ];omega);rw[BJ]at hrow;have a6:=Y (El (Cc m.got) a4);have a7:=Y (ajN m (ajN k6 (ajN hrow a)));clear m hrow k1 k2 k3 k4 k5 k6 k7 k8 a C p E y a4 hL z aq b6 be bf d x f;generalize bg:lZ l A.y=sm at *;rw[jZ,agp];generalize((R.setCell ⟨n,6,none⟩ (.int .i64 A.err)).setCell ⟨n,5,none⟩ (.string ⟨((aU++s).take A.A).toArray⟩))=W at *;go_wp2_with fail;go_call a6.u as e w7 ⟨rfl,H⟩;obtain⟨m,k6,hrow,a⟩:=a7.u;have r:=oG hrow λk q=>H.block k (World.ownsRow.lt hrow k q).2;have HK:=Y ((m.below H).keep (c:=3) (by decide) r (λk q=>by have e:=vT.1 q;subst e;exact⟨k6,λe=>a _ e rfl,a_ _⟩) (by omega));rw[Ew]at HK;clear m k6 hrow a r H a7 a6;go_wp2_with fail;go_call HK.u as e w8 ⟨rfl,O8,bh,bi,bj,a8⟩;have HE:=Y (a8.y (by have:=N.u;omega) (by have:=N.u;omega));clear a8 HK;go_wp2_with fail;go_call HE.u as e w9 ⟨rfl,hF⟩;obtain⟨bk,a9⟩:=hF.cells hi;obtain⟨ar,bl,bm⟩:=bN a9;unfold ju at ar;have au:=Y hF;have hfin:b7=(⟨od,oa,ot,on,s', (aU++s).take A.A,A.err⟩,sm&&en==A.err):=by
   have h9:=ab.u;simpa using h9
  clear hF HE a9 ab N;cases sm;all_goals
   go_wp2_with fail;go_ret;subst hfin;refine⟨rfl,?_⟩;have h9:=au.u;rwa[show hl.length+1+l.length+1=hl.length+l.length+2 by omega]at h9
 have e0:=aj7 ao;clear ae;go_wp2_with fail;have a5:=C.u w1.drew w2 w3 w3 ⟨od,oa,ot,on,s', aU,T⟩ L' fp p.u.1 E.u.2.1 y.u.1 y.u.2 (λ_ _=>rfl) rfl ⟨rfl,rfl,rfl⟩ E.u.2.2;obtain⟨O', A', k1,k2,k3,k4,k5⟩:=a5;have a:∀k∈fp,k≠w.heap.size:=λk q e=>by
  have s1:=D;rcases(E.u.2.2 k q).2.2.2 with G|G
  .have:=S k G;omega
  have q3:w1.heap.size<=k:=G;omega
 have m:Md w O b pl hl.length pa pc i n ⟨od,oa,ot,on,s', aU,T⟩ (.slice va l.length vc) l fp w3 O' A' hl ha hc:=⟨k1,rfl,k2,E.u.1.keep λk q=>(k3 k q).2.2,λk q=>⟨(k3 k q).1,(k3 k q).2.1⟩,λk q q1=>by
  rcases(E.u.2.2 k q).2.2.2 with G|G
  .exact ak.u k G
  have q3:w1.heap.size<=k:=G
  have s1:=D
  omega,k4⟩
 obtain⟨k6,k7,k8⟩:=k5 w.heap.size (a_ _) D;have hrow:=SE (k8.trans p.u.2.1) (by rw[BJ];omega);rw[BJ]at hrow;have a6:=Y (El (Cc m.got) (En 0 0 w3 none 0));have a7:=Y (ajN m (ajN k6 (ajN hrow a)));clear m hrow k1 k2 k3 k4 k5 k6 k7 k8 a C p E y d x f;generalize bg:lZ l ([]:List Ev)=sm at *;go_wp2_with fail;go_call a6.u as e w7 ⟨rfl,H⟩;obtain⟨m,k6,hrow,a⟩:=a7.u;have r:=oG hrow λk q=>H.block k (World.ownsRow.lt hrow k q).2;have HK:=Y ((m.below H).keep (c:=3) (by decide) r (λk q=>by have e:=vT.1 q;subst e;exact⟨k6,λe=>a _ e rfl,a_ _⟩) (by omega));rw[Ew]at HK;clear m k6 hrow a r H a7 a6;go_wp2_with fail;go_call HK.u as e w8 ⟨rfl,O8,bh,bi,bj,a8⟩;have HE:=Y (a8.y (by have:=N.u;omega) (by have:=N.u;omega));clear a8 HK;go_wp2_with fail;go_call HE.u as e w9 ⟨rfl,hF⟩;obtain⟨bk,a9⟩:=hF.cells hi;obtain⟨ar,bl,bm⟩:=bN a9;unfold ju at ar;have au:=Y hF;have hfin:=ab.u;rw[M ao]at hfin;clear hF HE a9 ab N;cases sm;all_goals
  go_wp2_with fail;go_ret;subst hfin;refine⟨rfl,?_⟩;have h9:=au.u;rwa[show hl.length+1+l.length+1=hl.length+l.length+2 by omega]at h9
end
theorem agq:(prog.info? 69).map (λi=>(i.zero,i.size,i.bytes))=some (some (.agg #[.string ByteArray.empty,.string ByteArray.empty,.string ByteArray.empty]),3,48):=by kernel_rfl
def agr{P:Program}(w:World)(s x y c:TypeId)(d g e k:Nat)(a:Addr)(b l:Nat)(f:Array Value)(t:TypeId)(h:List Value)
 (z:P.underlying s=some (.slice c)) (u:(P.info? c).map (·.size)=some d)
 (A:w.heap[g]?=some (.cells f t (0,0))) (B:h.length=b*d) (q:b<=e)
 (m:∀j v,h[j]?=some v->w.cell? (a.add j)=some v) (n:h.length<=f.size) (C:∀v∈h,v.oneCell' =true):
 (Builtin.copy_ #[s,x] y #[.slice (some ⟨g,0,none⟩) e k,.slice (some a) b l]).run P w=
  .ok (goInt b) (w.setRow g (h++f.toList.drop h.length).toArray):=by
 have D:=run_loadCells_list (P:=P) w a h m;have o:=run_storeCells_at P g 0 t h 0 f w A (by simpa using n) C;have p:Nat.min b e=b:=Nat.min_eq_left q;cases r:P.info? c with
 |none=>simp[r]at u
 |some i=>
  have E:i.size=d:=by simpa[r]using u
  simp at o;simp[Builtin.copy_,run_underlying z,Builtin.lenOf,Builtin.firstCells,sizeOf,typeInfo,r,E,p,<-B,D,o]
def ags{P:Program}(w:World)(o r s c:TypeId)(e g f h:Nat)(p:Option Addr)(b k:Nat)(d:Array Value)(t:TypeId)(l:List Value)
 (u:P.underlying o=some (.slice c)) (x:(P.info? c).map (·.size)=some e)
 (y:w.heap[g]?=some (.cells d t (0,0))) (A:l.length=b*e) (q:b<=f)
 (m:0<b->∃a,p=some a/\∀j v,l[j]?=some v->w.cell? (a.add j)=some v) (n:l.length<=d.size) (B:∀v∈l,v.oneCell' =true):
 (Builtin.copy_ #[o,r] s #[.slice (some ⟨g,0,none⟩) f h,.slice p b k]).run P w=.ok (goInt b) (w.setRow g (l++d.toList.drop l.length).toArray):=by
 by_cases C:0<b
 .obtain⟨a,rfl,D⟩:=m C;exact agr w o r s c e g f h a b k d t l u x y A q D n B
 have E:b=0:=by omega
 subst E;obtain rfl:l=[]:=FT (by omega);have F:w.setRow g ([]++d.toList.drop ([]:List Value).length).toArray=w:=by simp;exact setRow_self w g d t _ y
 rw[F];cases z:P.info? c with
 |none=>simp[z]at x
 |some i=>cases p<;>simp[Builtin.copy_,run_underlying u,Builtin.lenOf,Builtin.firstCells,sizeOf,typeInfo,z,storeCells,loadCells,loadCellsFrom]
def spare:U:=[115,112,97,114,101]
def xY:List Value:=[.string ⟨spare.toArray⟩,.string ⟨#[]⟩,.string ⟨#[]⟩]
def sU:List Value:=[.int .i64 0,.string ⟨#[]⟩,.string ⟨#[]⟩,.string ⟨#[]⟩,.slice none 0 0]
def zr:Nat->List Value
 |0=>[]
 |n+1=>sU++zr n
def Kg:∀n,(zr n).length=n*5
 |0=>rfl
 |n+1=>by rw[zr,bT,Kg n];simp[sU];omega
def sV(a:List (Ev×Value)):(dU a).length=a.length*5:=by
 induction a with
 |nil=>rfl
 |cons p a ih=>simp[dU,fP]at ih⊢;omega
def ug(l:List aI):(cQ l).length=l.length*3:=by
 induction l with
 |nil=>rfl
 |cons p a ih=>simp[cQ,gG]at ih⊢;omega
structure CI(w wx:World)(l:List Ev)(i:Nat)(es:List (Ev×Value)):Prop where
 blk:wx.heap[w.heap.size]?=some (.cells (dU es++zr (l.length+1 - i)).toArray 65 (0,0))
 evs:es.map (·.1)=l.take i
 qU:∀p∈es,∃g,p.2=.slice (some ⟨g,0,none⟩) p.1.f.length (p.1.f.length+1)/\w.heap.size<g/\wx.heap[g]?=some (.cells (cQ p.1.f++xY).toArray 69 (0,0))
 nd:(cZ (es.map bR)).Nodup
 cH:Below w.heap.size w wx
def CI.lt{b:World}{c:List (Ev×Value)}(h:CI w b l i c):∀k∈cZ (c.map bR),w.heap.size<k/\k<b.heap.size:=λk q=>by
 obtain⟨r,d,a⟩:=mem_filterMap.1 q;obtain⟨p,e,rfl⟩:=mem_map.1 d;obtain⟨g,f,j,m⟩:=h.qU p e;have a:p.2.ownBlock=some k:=a;rw[f]at a;injection a with a;subst a;exact⟨j,gY m⟩
def CI.next{d:World}{e:List (Ev×Value)}(h:CI w d l i e)(n:i<l.length){g:Nat}(y:g=d.heap.size)(o:Below w.heap.size w w')(q:∀k,k≠w.heap.size->k<d.heap.size->w'.heap[k]?=d.heap[k]?)
 (r:w'.heap[g]?=some (.cells (cQ l[i].f++xY).toArray 69 (0,0)))
 (s:w'.heap[w.heap.size]?=some (.cells (dU e++(fP l[i] (.slice (some ⟨g,0,none⟩) l[i].f.length (l[i].f.length+1))++zr (l.length+1 - (i+1)))).toArray 65 (0,0))):
 CI w w' l (i+1) (e++[(l[i],.slice (some ⟨g,0,none⟩) l[i].f.length (l[i].f.length+1))]):=by
 have t:=gY h.blk;refine⟨?_,?_,λp c=>?_,?_,o⟩
 .rw[s];simp[dU]
 .rw[mP,h.evs,qM,l_ n];rfl
 .rcases mem_append.1 c with c|c
  .obtain⟨j,u,v,m⟩:=h.qU p c;exact⟨j,u,v,(q j (by omega) (gY m)).trans m⟩
  rw[mem_singleton.1 c];exact⟨g,rfl,by omega,r⟩
 rw[mP,cZ,yH];refine nodup_append.2 ⟨h.nd,by simp[bR,Value.ownBlock],λa x b f=>?_⟩;have z:=(h.lt a x).2;simp[bR,Value.ownBlock]at f;omega
def pN:Ev:=⟨0,spare,[],[],[]⟩
structure CR(w wx:World)(l:List Ev)(es:List (Ev×Value)):Prop where
 blk:wx.heap[w.heap.size]?=some (.cells (dU (es++[(pN,.slice none 0 0)])).toArray 65 (0,0))
 evs:es.map (·.1)=l
 qU:∀p∈es,∃g,p.2=.slice (some ⟨g,0,none⟩) p.1.f.length (p.1.f.length+1)/\w.heap.size<g/\wx.heap[g]?=some (.cells (cQ p.1.f++xY).toArray 69 (0,0))
 nd:(cZ (es.map bR)).Nodup
 cH:Below w.heap.size w wx
def SG{d:World}{e:TypeId}{a:Nat}{z:Value}(hown:d.ownsRow w.heap.size e a (.slice (some ⟨w.heap.size,0,none⟩) n n) n (madeCells z.cells (n*a)).toList):d.heap[w.heap.size]?=some (.cells (madeCells z.cells (n*a)) e (0,0)):=by
 obtain⟨q,_⟩|⟨g,f,h,q,_,i,_,_,j,c⟩:=hown.2
 .cases q
 injection q with b _ k;injection b with b;injection b with b _ _;subst b k;rw[i];congr 2
 apply Array.ext';rw[<-c,nZ<|by rw[Array.length_toList];omega]
def SH(z:Array Value)(n j:Nat)(a:j<n):(madeCells z n)[j]?=some z[j % z.size]! :=by simp[madeCells,a]
def SI:∀(n j:Nat),j<n*5->(zr n)[j]?=sU[j % 5]?
 |0,j,h=>by omega
 |n+1,j,h=>by
  rw[zr];by_cases a:j<5
  .rw[CQ<|by simpa[sU]using a,Nat.mod_eq_of_lt a]
  rw[Aw<|by simp[sU];omega];have b:=SI n (j - 5) (by omega);rw[show(sU.length)=5 from rfl,b];congr 1
  omega
def agt(n:Nat):madeCells (Value.agg #[.int .i64 0,.string ByteArray.empty,.string ByteArray.empty,.string ByteArray.empty,.slice none 0 0]).cells (n*5)=(zr n).toArray:=by
 apply Array.ext';apply ext_getElem?;intro j;by_cases a:j<n*5
 .rw[Array.getElem?_toList,SH _ _ _ a,FQ,SI n j a];have b:j % 5<5:=Nat.mod_lt _ (by decide);have:j % 5=0\/j % 5=1\/j % 5=2\/j % 5=3\/j % 5=4:=by omega
  obtain h|h|h|h|h:=this<;>simp[Value.cells,sU,h]<;>rfl
 rw[CM<|by simp[madeCells];omega,FQ,CM<|by rw[Kg];omega]
def SJ:∀(D B A C:List Value) {w:World} {g t:Nat},w.heap[g]?=some (.cells (A++(B++C)).toArray t (0,0))->B.length=D.length->(jO w g A.length D).heap[g]?=some (.cells (A++(D++C)).toArray t (0,0))
 |[],[],A,C,w,g,t,h,_=>h
 |[],_::_,_,_,_,_,_,_,a=>by cases a
 |_::_,[],_,_,_,_,_,_,a=>by cases a
 |d::D,b::B,A,C,w,g,t,h,a=>by
  have c:=rY w g A.length _ t d h;have e:(A++(b::B++C)).toArray.setIfInBounds A.length d=((A++[d])++(B++C)).toArray:=by simp[CP]
  rw[e]at c;have f:=SJ D B (A++[d]) C c (by simpa using a);show(jO (w.setCell ⟨g,A.length,none⟩ d) g (A.length+1) D).heap[g]?=_;rw[show A.length+1=(A++[d]).length by simp,f];simp
def agu{p q:Nat}{f:Option Addr}{r:Nat}{l:List aI}(h:ij p q w (.slice f l.length r) l)(s:0<l.length):∃a,f=some a/\∀j v,(cQ l)[j]?=some v->w.cell? (a.add j)=some v:=by
 obtain⟨A,B,d,hx⟩:=h.form;injection d with d _ _;subst d;obtain⟨g,o,i,_,_⟩:=hx 0 s;refine⟨⟨g,o,none⟩,i,λj v t=>?_⟩;have u:j<l.length*3:=by have:=(List.getElem?_eq_some_iff.1 t).1;rwa[ug]at this
 have k:j / 3<l.length:=by omega
 obtain⟨C,D,b,_,x⟩:=hx (j / 3) k;rw[i]at b;injection b with b;injection b with b y _;subst b y;have m:j % 3<3:=Nat.mod_lt _ (by decide);have e:=x (j % 3) m;have n:=DT gG 3 (λ_=>rfl) l (j / 3) k (j % 3) m;have z:j / 3*3+j % 3=j:=by omega
 rw[z]at n;have c:(⟨g,o,none⟩:Addr).add j=⟨g,o+j,none⟩:=by unfold Addr.add;split<;>simp_all
 rwa[c,show o+j=o+j / 3*3+j % 3 by omega,e,<-n]
def agv(l:List aI):∀v∈cQ l,v.oneCell' =true:=λv b=>by
 obtain⟨a,_,h⟩:=mem_flatMap.1 b;simp[gG]at h;obtain rfl|rfl|rfl:=h<;>rfl
def wF:List Value:=[.string ⟨#[]⟩,.string ⟨#[]⟩,.string ⟨#[]⟩]
def agw(k:Nat)(l:List aI)(a:l.length=k):(cQ l++(madeCells (Value.agg #[.string ByteArray.empty,.string ByteArray.empty,.string ByteArray.empty]).cells ((k+1)*3)).toList.drop (cQ l).length).toArray=(cQ l++(wF++[])).toArray:=by
 congr 2
 apply ext_getElem?;intro j;rw[ug,a,List.getElem?_drop,Array.getElem?_toList];by_cases c:j<3
 .rw[SH _ _ _<|by omega];have b:(k*3+j) % 3=j:=by omega
  have:j=0\/j=1\/j=2:=by omega
  obtain rfl|rfl|rfl:=this<;>simp[Value.cells,wF]<;>first|rfl|(simp[b];rfl)
 rw[CM (l:=wF++[])<|by simp[wF];omega];exact Array.getElem?_eq_none (by simp[madeCells];omega)
def agx(h:fL lo up w v l)(hl:l.length<=100000000)(ha:∀e∈l,e.f.length<=100000000):
 Calls prog 64 #[v] w λe w' =>∃k,e=.returned (.slice (some ⟨w.heap.size,0,none⟩) (l.length+1) (l.length+1))/\CR w w' l k:=by
 obtain⟨va,vc,hv,hf⟩:=h.form;subst hv;have HF:=Y hf;have HR:=Y h;have HA:=Y ha;obtain⟨i0,hi,a3,n,a4⟩:=lg yT;obtain⟨j0,hj,a5,L,a6⟩:=lg agq;clear h hf ha;go_enter func64,ntmps64;go_wp2_with(at_make;apply lJ;intro c);apply c;clear c;refine wpList_make_full _ rfl _ _ 29 rfl w.heap.size 65 i0 (.agg #[.int .i64 0,.string ByteArray.empty,.string ByteArray.empty,.string ByteArray.empty,.slice none 0 0]) 5 underlying29 hi a3 n .i64 .i64 _ _ (l.length+1) rfl rfl (by simp) (by simp) (by rw[a4];omega) (by unfold maxLen;omega) (a_ _) ?_;intro w1 hown r;have C:=SG hown;rw[agt]at C;have HI:Hid (CI w w1 l 0 []):=Y ⟨by rw[C];simp[dU],rfl,λp hp=>(by cases hp),(by simp[cZ]),Hf r⟩;clear hown r C;go_wp2_with fail;go_loopg [4] l.length λg sx wx=>∃(i:Nat) (k:List (Ev×Value)),i<=l.length/\g=l.length - i/\sx=.int .i64 i/\Hid (CI w wx l i k);case atStart=>exact⟨0,[],dO _,rfl,rfl,HI⟩
 case round=>
  obtain⟨i,k,a7,rfl,rfl,d⟩:=hrel;clear HI;by_cases z:i<l.length
  .have e1:decide ((i:Int)<(l.length:Int))=true:=aj_;have e2:(i:Int)<(l.length:Int):=by omega
   have e4:(i:Int)<(l.length:Int)+1:=by omega
   obtain⟨D,o1,a1,f1,f2,H,f4⟩:=HF.u i z;subst f1;have b:k.length=i:=by have:=congrArg List.length d.u.evs;simp at this;omega
   obtain⟨A,B,a8,f5⟩:=f4.form;subst a8;have p0:=H 0 (by decide);have p1:=H 1 (by decide);have p2:=H 2 (by decide);have p3:=H 3 (by decide);have p4:=H 4 (by decide);rw[<-mG (d.u.cH.block D f2)]at p0 p1 p2 p3 p4;simp[fP]at p0 p1 p2 p3 p4;obtain⟨s,a9,ab⟩:=bN d.u.blk;have N:l.length+1 - i=(l.length - i)+1:=by omega
   have I:∀j,j<5->∃u,wr.cell? ⟨w.heap.size,i*5+j,none⟩=some u:=λj hj=>⟨_,(s _).trans (FV<|by simp[sV,Kg,b];omega)⟩;obtain⟨u0,q0⟩:=I 0 (by decide);obtain⟨u1,t⟩:=I 1 (by decide);obtain⟨u2,K⟩:=I 2 (by decide);obtain⟨u3,q3⟩:=I 3 (by decide);obtain⟨u4,q4⟩:=I 4 (by decide);rw[Az]at q0;have O:(jO wr w.heap.size (i*5) (fP l[i] (.slice A l[i].f.length B))).heap[w.heap.size]?=some (.cells (dU k++(fP l[i] (.slice A l[i].f.length B)++zr (l.length - i))).toArray 65 (0,0)):=by
    have h9:=d.u.blk;rw[N,zr]at h9;have h8:=SJ (fP l[i] (.slice A l[i].f.length B)) sU (dU k) (zr (l.length - i)) h9 rfl;rwa[sV,b]at h8
   have Q:D<wr.heap.size:=i_ f2 d.u.cH.size;have ad:D≠w.heap.size:=by omega
   have HST:=Y O;have E:=Y (ajN f5 (ajN f4 b));have ae:=HA.u l[i] (iZ z);have R:=Y λ(w' :World)=>d.u.next (w' :=w') z (g:=wr.heap.size) rfl;have S:=Y d.u.cH;clear s I O H f4 f5 b N HR d;generalize l[i]=X at *;go_wp2_with(at_make;apply lJ;intro c);apply c;clear c;refine wpList_make_full _ rfl _ _ 63 rfl _ 69 j0 (.agg #[.string ByteArray.empty,.string ByteArray.empty,.string ByteArray.empty]) 3 underlying63 hj a5 L .i64 .i64 _ _ (X.f.length+1) rfl rfl (by simp) (by simp) (by rw[a6];omega) (by unfold maxLen;omega) (a_ _) ?_;intro y hown r;have C:=SG hown;have a:(jO wr w.heap.size (i*5) (fP X (.slice A X.f.length B))).grownBy y none:=r;obtain⟨r1,r2,r3,r4⟩:=Jc (fP X (.slice A X.f.length B)) (w:=wr) (g:=w.heap.size) (o:=i*5);have A2:=(a.block w.heap.size (by rwa[r4]) (by simp)).trans HST.u;have A3:∀q,q≠w.heap.size->q<wr.heap.size->y.heap[q]?=wr.heap[q]?:=λq t K=>(a.block q (by rwa[r4]) (by simp)).trans (xL _ q t);have A4:Below w.heap.size w y:=S.u.trans ⟨a.os.trans r1,a.tape.trans r2,a.output.trans r3,by have:=a.size;omega,λq t=>A3 q (by omega) (by omega)⟩;have A5:=a.size;rw[r4]at A5;simp only[World.size_setCell]at C;have T:=ags (P:=prog) y 63 63 3 69 3 wr.heap.size (X.f.length+1) (X.f.length+1) A X.f.length B _ 69 (cQ X.f) underlying63 (by rw[hj];simp[L]) C (ug _) (by omega) (λq=>agu (E.u.2.1.below A4) q) (by rw[ug,size_madeCells];omega) (agv _);rw[agw X.f.length X.f rfl]at T;obtain⟨f,m⟩:=aj8 (y.setRow wr.heap.size (cQ X.f++(wF++[])).toArray);rw[<-m]at T;have B1:f.heap[wr.heap.size]?=some (.cells (cQ X.f++(wF++[])).toArray 69 (0,0)):=by rw[m];exact setRow_heap y _ _ _ _ _ C
   have B3:∀q,q≠wr.heap.size->f.heap[q]?=y.heap[q]?:=λq t=>by rw[m];exact setRow_other y _ q _ t
   have B5:f.heap.size=y.heap.size:=by rw[m];simp
   have B4:Below w.heap.size w f:=by rw[m];exact below_setRow A4 (by omega) _
   have W:wr.heap.size≠w.heap.size:=by omega
   have F:=(B3 _<|by omega).trans A2;have P3:y.cell? ⟨D,o1+i*5+4,none⟩=some (.slice A X.f.length B):=(mG (A3 D ad Q)).trans p4;have P4:f.cell? ⟨D,o1+i*5+4,none⟩=some (.slice A X.f.length B):=(mG (B3 D<|by omega)).trans P3;obtain⟨a0,af,ag⟩:=bN B1;have Q0:f.cell? ⟨wr.heap.size,X.f.length*3,none⟩=some (.string ⟨#[]⟩):=by
    rw[a0];have e9:=ug X.f;simp[wF,e9,pW]
   obtain⟨a2,ah,ai⟩:=bN F;have x:(dU k).length=i*5:=by rw[sV,E.u.2.2]
   have R4:f.cell? ⟨w.heap.size,i*5+4,none⟩=some (.slice A X.f.length B):=by
    rw[a2];simp[fP,x,pW]
   have F1:((f.setCell ⟨wr.heap.size,X.f.length*3,none⟩ (.string ⟨spare.toArray⟩)).setCell ⟨w.heap.size,i*5+4,none⟩ (.slice (some ⟨wr.heap.size,0,none⟩) X.f.length (X.f.length+1))).heap[wr.heap.size]?=some (.cells (cQ X.f++xY).toArray 69 (0,0)):=by
    rw[n_ _ ⟨w.heap.size,i*5+4,none⟩ wr.heap.size _ W,rY f wr.heap.size _ _ _ _ B1];have e9:=ug X.f;simp[wF,xY,CP,e9]
   have F2:((f.setCell ⟨wr.heap.size,X.f.length*3,none⟩ (.string ⟨spare.toArray⟩)).setCell ⟨w.heap.size,i*5+4,none⟩ (.slice (some ⟨wr.heap.size,0,none⟩) X.f.length (X.f.length+1))).heap[w.heap.size]?=some (.cells (dU k++(fP X (.slice (some ⟨wr.heap.size,0,none⟩) X.f.length (X.f.length+1))++zr (l.length+1 - (i+1)))).toArray 65 (0,0)):=by
    rw[rY _ w.heap.size (i*5+4) _ _ _ ((n_ f ⟨wr.heap.size,X.f.length*3,none⟩ w.heap.size _ (Ne.symm W)).trans F),show l.length+1 - (i+1)=l.length - i by omega];simp[fP,CP,x,set_append]
   have F3:∀q,q≠w.heap.size->q<wr.heap.size->((f.setCell ⟨wr.heap.size,X.f.length*3,none⟩ (.string ⟨spare.toArray⟩)).setCell ⟨w.heap.size,i*5+4,none⟩ (.slice (some ⟨wr.heap.size,0,none⟩) X.f.length (X.f.length+1))).heap[q]?=wr.heap[q]?:=λq t K=>by
    rw[n_ _ ⟨w.heap.size,i*5+4,none⟩ q _ t,n_ f ⟨wr.heap.size,X.f.length*3,none⟩ q _ (show q≠wr.heap.size by omega),B3 q<|by omega];exact A3 q t K
   have F4:Below w.heap.size w ((f.setCell ⟨wr.heap.size,X.f.length*3,none⟩ (.string ⟨spare.toArray⟩)).setCell ⟨w.heap.size,i*5+4,none⟩ (.slice (some ⟨wr.heap.size,0,none⟩) X.f.length (X.f.length+1))):=(B4.setCell (show w.heap.size<=wr.heap.size by omega) _).setCell (a_ _) _;have G:=Y (R.u _ F4 F3 F1 F2);clear F1 F2 F3 F4 A2 F A3 A4 A5 B1 B3 B4 a0 a2 C m hown r a r1 r2 r3 r4 x R S HST E p0 p1 p2 p3 p4 q0 t K q3 q4;go_wp2_with fail;go_roundg (l.length - (i+1));case measure=>omega
   case rel=>exact⟨i+1,_,by omega,rfl,by simp,G⟩
  have e1:decide ((i:Int)<(l.length:Int))=false:=aj9;have e3:decide (i<l.length)=false:=aj9;rw[show i=l.length by omega]at d;obtain⟨s,a9,ab⟩:=bN d.u.blk;have b:(dU k).length=l.length*5:=by have:=congrArg List.length d.u.evs;simp at this;rw[sV,this]
  have n:zr (l.length+1 - l.length)=sU++[]:=by rw[show l.length+1 - l.length=1 by omega];rfl
  have Q0:wr.cell? ⟨w.heap.size,l.length*5+1,none⟩=some (.string ⟨#[]⟩):=by
   rw[s,n];simp[sU,b,pW]
  have F1:(wr.setCell ⟨w.heap.size,l.length*5+1,none⟩ (.string ⟨spare.toArray⟩)).heap[w.heap.size]?=some (.cells (dU (k++[(pN,.slice none 0 0)])).toArray 65 (0,0)):=by
   rw[rY wr w.heap.size _ _ _ _ d.u.blk,n];simp[sU,pN,dU,fP,CP,set_append]at b⊢;simp[b];intro h9;omega
  have G:=Y (show CR w (wr.setCell ⟨w.heap.size,l.length*5+1,none⟩ (.string ⟨spare.toArray⟩)) l k from⟨F1,by rw[d.u.evs,tv],λp hp=>by
   obtain⟨g,t,K,q3⟩:=d.u.qU p hp
   exact⟨g,t,K,(n_ wr ⟨w.heap.size,l.length*5+1,none⟩ g _ (show g≠w.heap.size by omega)).trans q3⟩,d.u.nd,d.u.cH.setCell (a_ _) _⟩)
  have e5:(l.length:Int)<(l.length:Int)+1:=by omega
  clear s b n F1 d z a7;go_wp2_with fail;go_ret;exact⟨k,rfl,G.u⟩
section
variable {w W:World}{l:List Ev}{es:List (Ev×Value)}
def CR.len(h:CR w W l es):es.length=l.length:=by rw[<-h.evs];simp
def CR.mem(h:CR w W l es){p:Ev×Value}(a:p∈es):p.1∈l:=by rw[<-h.evs];exact rZ a
def CR.own(h:CR w W l es)(b:∀e∈l,e.f.length<=100000000):∀p∈es,(bR p).owned W 0:=λp a=>by
 obtain⟨g,c,f,d⟩:=h.qU p a;have i:=b _ (h.mem a);unfold Row.owned bR;simp only[c];refine⟨ug _,.inr ⟨g,_,_,rfl,dO _,d,Nat.le_succ _,by unfold maxLen;omega,?_,?_⟩⟩
 .simp[ug,xY];omega
 simp only[FQ];exact take_left' (ug _)
def CR.lt(h:CR w W l es):∀k∈cZ (es.map bR),w.heap.size<k/\k<W.heap.size:=λk q=>by
 obtain⟨r,b,a⟩:=mem_filterMap.1 q;obtain⟨p,c,rfl⟩:=mem_map.1 b;obtain⟨g,d,e,f⟩:=h.qU p c;have a:p.2.ownBlock=some k:=a;rw[d]at a;injection a with a;subst a;exact⟨e,gY f⟩
def CR.below{b:World}(h:CR w W l es)(a:Below W.heap.size W b):CR w b l es:=
 ⟨(a.block _ (gY h.blk)).trans h.blk,h.evs,λp d=>by
  obtain⟨g,e,f,c⟩:=h.qU p d
  exact⟨g,e,f,(a.block _ (gY c)).trans c⟩,h.nd,h.cH.trans (a.mono h.cH.size)⟩
def uh(w:World)(es:List (Ev×Value)):List Nat:=w.heap.size::cZ (es.map bR)
def CR.SK(h:CR w W l es):(uh w es).Nodup:=nodup_cons.2 ⟨λq=>by have:=(h.lt _ q).1;omega,h.nd⟩
def CR.got(h:CR w W l es)(f:l.length<=100000000)(c:∀e∈l,e.f.length<=100000000):o_ W (.slice (some ⟨w.heap.size,0,none⟩) l.length (l.length+1)) l (uh w es):=by
 have a:=h.len;refine⟨es,h.evs,⟨λr b=>?_,h.SK⟩,λk q=>q⟩;obtain rfl|b:=mem_cons.1 b
 .refine⟨by show(dU es).length=_;rw[sV,a],.inr ⟨w.heap.size,l.length+1,_,rfl,dO _,h.blk,Nat.le_succ _,by unfold maxLen;omega,by rw[size_toArray,sV];simp[a],?_⟩⟩;simp only[FQ];have e:dU (es++[(pN,Value.slice none 0 0)])=dU es++dU [(pN,Value.slice none 0 0)]:=by simp[dU]
  rw[e];exact take_left' (by rw[sV,a])
 obtain⟨p,d,rfl⟩:=mem_map.1 b;exact h.own c p d
def CR.full(h:CR w W l es)(i:l.length<=100000000)(g:∀e∈l,e.f.length<=100000000):o_ W (.slice (some ⟨w.heap.size,0,none⟩) (l.length+1) (l.length+1)) (l++[pN]) (uh w es):=by
 have c:=h.len;have d:cZ ((es++[(pN,Value.slice none 0 0)]).map bR)=cZ (es.map bR):=by simp[cZ,bR,Value.ownBlock]
 have a:cZ (⟨65,5,.slice (some ⟨w.heap.size,0,none⟩) (l.length+1) (l.length+1),(l++[pN]).length,dU (es++[(pN,Value.slice none 0 0)])⟩::(es++[(pN,Value.slice none 0 0)]).map bR)=uh w es:=by
  unfold uh;rw[<-d];rfl
 refine⟨es++[(pN,Value.slice none 0 0)],by rw[mP,h.evs];rfl,⟨λr f=>?_,by rw[a];exact h.SK⟩,λk q=>by rwa[a]at q⟩;obtain rfl|f:=mem_cons.1 f
 .refine⟨by show(dU _).length=_;rw[sV];simp[c],.inr ⟨w.heap.size,l.length+1,_,by simp,dO _,h.blk,by simp,by unfold maxLen;omega,by rw[size_toArray,sV];simp[c],?_⟩⟩;simp only[FQ];exact nZ (by rw[sV];simp[c])
 obtain⟨p,b,rfl⟩:=mem_map.1 f;obtain b|b:=mem_append.1 b
 .exact h.own g p b
 rw[mem_singleton.1 b];exact lq _ _ _ _
def agy{P Q:Nat}(h:CR w W l es)(r:fL P Q W v l)(R:l.length<=100000000)(s:∀e∈l,e.f.length<=100000000):
 Calls prog 66 #[.slice (some ⟨w.heap.size,0,none⟩) (l.length+1) (l.length+1),v] W λe w' =>e=.returned (.bool true)/\Below W.heap.size W w' :=by
 have t:=Y (El (Cc (h.got R s)) r);rw[(Rf.LB l l).2 rfl]at t;obtain⟨va,vc,S,E⟩:=r.form;subst S;have T:=Y h;have F:=Y E;have HA:=Y s;have e0:(l.length:Int)<=(l.length:Int)+1:=by omega
 have e1:(l.length:Int)<(l.length:Int)+1:=by omega
 clear h r E s;go_enter func66,ntmps66;go_wp2_with fail;go_call t.u as e x ⟨rfl,j⟩;have c:=T.u.below j;have d:=c.len;obtain⟨b,y,z⟩:=bN c.blk;have a:(dU es).length=l.length*5:=by rw[sV,d]
 have X:x.cell? ⟨w.heap.size,l.length*5,none⟩=some (.int .i64 0):=by
  rw[b];simp[pN,dU,fP]at a⊢;simp[a,pW]
 have Q1:x.cell? ⟨w.heap.size,l.length*5+1,none⟩=some (.string ⟨#[115,112,97,114,101]⟩):=by
  rw[b];simp[pN,dU,fP]at a⊢;simp[a,pW];rfl
 have f:=Y c;have m:=Y j;clear c b a d j t;go_wp2_with fail;go_loopg [7,8] l.length (λg s7 s8 wx=>∃i:Nat,i<=l.length/\g=l.length - i/\s7=.bool true/\s8=.int .i64 i/\wx=x);case atStart=>exact⟨0,dO _,rfl,rfl,rfl,rfl⟩
 case round=>
  obtain⟨i,a0,rfl,rfl,rfl,rfl⟩:=hrel;clear X Q1;by_cases n:i<l.length
  .have e2:decide ((i:Int)<(l.length:Int))=true:=aj_;have e3:(i:Int)<(l.length:Int):=by omega
   have e4:(i:Int)<(l.length:Int)+1:=by omega
   obtain⟨G,o1,a1,f1,H,I,K⟩:=F.u i n;subst f1;have d:=f.u.len;have o:i<es.length:=by omega
   obtain⟨aa,ac,A,-⟩:=K.form;subst A;have L:=I 4 (by decide);rw[<-mG (m.u.block G H)]at L;simp[fP]at L;obtain⟨N,B,q2,C⟩:=f.u.qU es[i] (iZ o);have hx:es[i].1=l[i]:=by have:=f.u.evs;simp[<-this]
   rw[hx]at B C;obtain⟨b,y,z⟩:=bN f.u.blk;have a2:wr.cell? ⟨w.heap.size,i*5+4,none⟩=some (.slice (some ⟨N,0,none⟩) l[i].f.length (l[i].f.length+1)):=by
    rw[b];have D:=DT (λp:Ev×Value=>fP p.1 p.2) 5 (λ_=>rfl) (es++[(pN,Value.slice none 0 0)]) i (by simp;omega) 4 (by decide);have e8:(dU (es++[(pN,Value.slice none 0 0)])).toArray[i*5+4]?=(dU (es++[(pN,Value.slice none 0 0)]))[i*5+4]?:=by simp
    rw[e8,dU,D,LG o,B];rfl
   obtain⟨q,a3,a4⟩:=bN C;have a5:wr.cell? ⟨N,l[i].f.length*3,none⟩=some (.string ⟨#[115,112,97,114,101]⟩):=by
    rw[q];have D:=ug l[i].f;simp[xY,D,pW];rfl
   have a6:=HA.u l[i] (iZ n);have O:G<wr.heap.size:=i_ H m.u.size;have e5:decide ((l[i].f.length:Int)<(l[i].f.length:Int)+1)=true:=aj_;have e6:(l[i].f.length:Int)<(l[i].f.length:Int)+1:=by omega
   have e7:(l[i].f.length:Int)+1<=(l[i].f.length:Int)+1:=vq _;clear I K d B C hx b q F HA;generalize l[i].f.length=k at *;go_wp2_with fail;go_roundg (l.length - (i+1));case measure=>omega
   case rel=>exact⟨i+1,by omega,rfl,rfl,by simp,rfl⟩
  have e2:decide ((i:Int)<(l.length:Int))=false:=aj9;have e3:decide (i<l.length)=false:=aj9;go_wp2_with fail;go_ret;exact⟨rfl,m.u⟩
end
def uY(d a t:Int)(b:Bool)(l:List Ev):Bool:=(wr d a t b l).1==(tu d a t b l).1&&(wr d a t b l).2==(tu d a t b l).2
section
variable {w:World}{O:Nat->Nat×Nat}{b:Nat}{pl:List (Pl×PA)}{hl:List HA}{pa ha:Option Addr}{pc hc:Nat}
def agz(d a t:Int)(b:Bool)(l:List Ev)(h:(gq l).length<=7000000):(wr d a t b l).1.length<=7000000:=by
 unfold wr;split
 .split
  .exact h
  simp
 simp
def agA(h:WI w O b pl hl pa pc ha hc){W w8:World}{f:List (Ev×Value)}(g:CR w W l f)(p:l.length<=100000000)(r:∀e∈l,e.f.length<=100000000){a:Option Addr}{O8:Nat->Nat×Nat}{Cf:List HA}{wE:Option Addr}{qB:Nat}(y:WI w8 O8 b pl Cf pa pc wE qB)(n:eT (cB a) O O8 W w8)(i:∀k,cB a k->W.heap.size<=k\/(w.heap.size<=k/\k∉uh w f))(d:Cf.length=hl.length+1)(F:hl.length<=16000000000000):
 Calls prog 69 #[.pointer (some ⟨b,0,none⟩),.slice (some ⟨w.heap.size,0,none⟩) (l.length+1) (l.length+1)] w8 λe w' =>e=.returned (.tuple #[])/\sP w O b pl (hl.length+l.length+3) pa pc w' :=by
 have c:∀k∈uh w f,w.heap.size<=k/\k<W.heap.size:=λk q=>by
  obtain q|q:=mem_cons.1 q
  .have:=gY g.blk;omega
  have:=g.lt k q;omega
 have j:∀k∈uh w f,¬cB a k:=λk q e=>by
  have x:=c k q;obtain o|o:=i k e
  .omega
  exact o.2 q
 have m:∀k∈uh w f,O8 k=fr/\k<w8.heap.size:=λk q=>⟨n.tag k (c k q).2 (h.nw k (c k q).1) (j k q),i_ (c k q).2 n.ch.size⟩;have z:=(g.full p r).keep (w' :=w8) λk q=>n.ch.block k (c k q).2 λe=>by
  obtain e|e:=e
  .exact e (h.nw k (c k q).1)
  exact j k q e
 refine(Qh y z m (by rw[bT,d];simp;omega) (by rw[bT];simp;omega)).mono λe w' ⟨x,A,s,t,u,o,B,C⟩=>⟨x,A,s,t,u,o,by rw[B,d,bT];simp;omega,?_⟩;refine((eT.of_below (λ_=>False) g.cH).trans n λk D v=>?_).trans C λk D v=>?_
 .rcases i k v with E|E
  .have:=g.cH.size;omega
  omega
 have:=(c k v).1;omega
def agB{e:World}(f:Below w.heap.size w e)(h:sP e O b pl n pa pc w'):sP w O b pl n pa pc w' :=by
 obtain⟨g,a,c,d,i,j,k⟩:=h;exact⟨g,a,c,d,i,j,(eT.of_below (λ_=>False) f).trans k λ_ _ q=>q⟩
def Hp(h:WI w O b pl hl pa pc ha hc)(hr:fL lo up w v l)(od oa ot:Int)(on:Bool)(hs:Cb l)(hD:(gq l).length<=7000000)(hE:mI l<=100000000)(hG:Gt w O)(hn:hl.length<=16000000000000):
 Calls prog 47 #[.pointer (some ⟨b,0,none⟩),.agg #[.int .i64 od,.int .i64 oa,.int .i64 ot,.bool on],v] w λe w' =>e=.returned (.bool (uY od oa ot on l))/\sP w O b pl (hl.length+l.length+3) pa pc w' :=by
 have D:l.length<=100000000:=by have:=hs.n;omega
 have N:∀e∈l,e.f.length<=100000000:=λe he=>by have:=(hs.e e he).2.2.2.1;omega
 have m:=jG w (.cells #[.int .i64 od,.int .i64 oa,.int .i64 ot,.bool on] 40);have HC:=Y (agx (hr.below m) D N);obtain⟨va,vc,hv,-⟩:=hr.form;subst hv;have HS:=Y (ajN hs (ajN D N));obtain⟨a0,E⟩:=aj8 (uY od oa ot on l);rw[<-E];have a1:=Y E;have a2:=hG.ny (eT.of_below (O:=O) (λ_=>False) m) λ_ _ e=>e;have HW:=Y (ajN (h.below m) (ajN (hr.below m) (ajN a2 m)));have P:=dI w (.cells #[.int .i64 od,.int .i64 oa,.int .i64 ot,.bool on] 40);have aj:=agz od oa ot on l hD;clear h hr hs hG m E N a2;go_enter func47,ntmps47;go_wp2_with fail;go_call HC.u as e F ⟨es,rfl,p⟩;generalize(w.alloc (.cells #[.int .i64 od,.int .i64 oa,.int .i64 ot,.bool on] 40))=wo at *;obtain⟨ae,af,a3,m⟩:=HW.u;have ak:=m.size;have r:=(p.cH.block _ (gY P)).trans P;obtain⟨Q,R,S⟩:=bN r;have s:=a3.ny (eT.of_below (O:=O) (λ_=>False) p.cH) λ_ _ e=>e;have a4:=Y (agl (w:=F.drew) (d:=od) (a:=oa) (t:=ot) (nm:=on) ((p.got D HS.u.2.2).keep λ_ _=>rfl) (λk q=>by obtain q|q:=mem_cons.1 q;exact q▸gY p.blk;exact(p.lt k q).2) HS.u.1 hD (Ri s.gl λ_ _=>rfl) s.lt);have H1:=Y (ajN p (ajN r s));have ag:=Y λk (q:k∈uh wo es)=>(show k<F.heap.size by obtain q|q:=mem_cons.1 q;exact q▸gY p.blk;exact(p.lt k q).2);have ai:=p.cH.size;have e0:(l.length:Int)<=(l.length:Int)+1:=by omega
 clear ae af a3 p r s P HC;generalize a5:wr od oa ot on l=f at *;go_wp2_with fail;go_cut [8,9] λs8 s9 w2=>∃C x,s8=.slice C f.1.length x/\s9=.int .i64 f.2/\Hid (w2.ownsRow F.heap.size 5 1 (.slice C f.1.length x) f.1.length (f.1.map bv)/\Below F.heap.size F w2)
 case first=>
  go_region_with (go_at_call 65;go_call a4.u as e w2 ⟨C,x,rfl,hrow,y⟩;have I:=Y (ajN (show w2.ownsRow F.heap.size 5 1 (.slice C f.1.length x) f.1.length (f.1.map bv)from hrow) (show Below F.heap.size F w2 from⟨y.os,y.tape,y.output,y.size,y.block⟩));clear hrow y);all_goals
   go_wp2_with fail;go_meet
   exact⟨C,x,rfl,rfl,I⟩
 case rest=>
 obtain⟨C,x,rfl,rfl,I⟩:=hcut;rename World=>w2;obtain⟨p,r,s⟩:=H1.u;have j:=HW.u.2.1.below (p.cH.trans (I.u.2.mono p.cH.size));have z:=p.below I.u.2;have a6:=Y (agy z j D HS.u.2.2);have A:=(I.u.2.block _ (gY r)).trans r;have G:=s.ny (eT.of_below (O:=O) (λ_=>False) I.u.2) λ_ _ e=>e;have H2:=Y (ajN z (ajN A (ajN G j)));clear p r s j z A G H1 a4 Q R S;go_wp2_with fail;go_call a6.u as e w3 ⟨rfl,B⟩;obtain⟨z,A,G,j⟩:=H2.u;have H:=z.below B;have a7:=(B.block _ (gY A)).trans A;have a8:=G.ny (eT.of_below (O:=O) (λ_=>False) B) λ_ _ e=>e;have i:w3.ownsRow F.heap.size 5 1 (.slice C f.1.length x) f.1.length (f.1.map bv):=oG I.u.1 λk q=>B.block k (World.ownsRow.lt I.u.1 k q).2;have ah:=vC i;obtain⟨Q,R,S⟩:=bN a7;have a9:=Y (acu (od:=od) (oa:=oa) (ot:=ot) (on:=on) (j.below B) hE a8.gr);have H3:=Y (ajN H i);clear z A G j H a7 a8 i B H2 a6 I;generalize hY:tu od oa ot on l=g at *;go_wp2_with fail;go_call a9.u as e w4 ⟨rfl,T⟩;obtain⟨H,i⟩:=H3.u;have W:=H.below T;have o:w4.ownsRow F.heap.size 5 (rP 3) (.slice C f.1.length x) f.1.length (f.1.map bv):=oG i λk q=>T.block k (World.ownsRow.lt i k q).2;have K:∀k,cB C k->F.heap.size<=k:=λk q=>(World.ownsRow.lt o k (sI q)).1;have HK:=Y (zE (HW.u.1.below W.cH) (c:=3) (by decide) o (λk q=>HW.u.1.nw k<|by have:=K k q;omega) (by omega));rw[Ew]at HK;have aa:=Y λ(w8:World) (O8:Nat->Nat×Nat) (wE:Option Addr) (qB:Nat) q1 q2=>agA (w8:=w8) (O8:=O8) (wE:=wE) (qB:=qB) (Cf:=hl++[⟨w4.heap.size,3,C,x,x⟩]) HW.u.1 W D HS.u.2.2 q1 q2 (λk q=>.inr ⟨by have:=K k q;omega,λe=>by have:=ag.u k e;have:=K k q;omega⟩) (by simp) hn;have X:(C=none/\x=0/\f.1.length=0)\/∃g1,C=some ⟨g1,0,none⟩/\f.1.length<=x/\x<=9223372036854775807:=by
  obtain⟨h1,h2⟩|⟨g1,al,am,h1,_,_,h4,h5,_⟩:=o.2
  .injection h1 with h1 _ h5;exact .inl ⟨h1,h5,h2⟩
  injection h1 with h1 _ h5;subst h5;exact .inr ⟨g1,h1,h4,by assumption⟩
 have an:(f.1.length:Int)<=(x:Int):=by omega
 have hfin:=a1.u;rw[uY,a5,hY]at hfin;clear a5 hY;clear H i W o K H3 a9 T Q R S ah a1;generalize ao:(f.1==g.1)=st at *;have L:=Y hfin;clear hfin;obtain⟨rfl,rfl,-⟩|⟨g1,rfl,ap,aq⟩:=X;all_goals
  go_wp2_with fail;go_call HK.u as e w8 ⟨rfl,O8,wE,qB,q1,q2⟩;have HE:=Y (aa.u w8 O8 wE qB q1 q2);clear q1 q2 HK aa;go_wp2_with fail;go_call HE.u as e w9 ⟨rfl,hH⟩;have ab:=agB m hH;have ad:=Y ab;clear hH ab HE;cases st
  .have hf:a0=false:=L.u;subst hf;clear L;go_wp2_with fail;go_ret;exact⟨rfl,ad.u⟩
  have hf:a0=(f.2==g.2):=L.u;subst hf;clear L;go_wp2_with fail;go_ret;exact⟨rfl,ad.u⟩
end
structure eU where
 k:Int
 n:Int
 od:Int
 oa:Int
 S:Int
 on:Bool
 s:U
 l:List Ev
def lS(o:eU)(m:Nat):Nat:=(vS o.n m).toNat
def zU(o:eU)(h:0<m):lS o m<m:=by
 have:=Qa o.n m (by omega);unfold lS;omega
def ru(a:List Pl)(o:eU):Bool:=decide (2<=o.k)&&decide (o.k<=7)&&decide (0<a.length)
def xZ:Pl:=⟨1,0,8,false,Mk.bB 1 0 8 false,[],0⟩
def oL(a:List Pl)(o:eU):Pl:=a.getD (lS o a.length) xZ
def nL(a:List Pl)(o:eU):Bool:=
 if o.k=8 then uY o.od o.oa o.S o.on o.l
 else if ru a o=true then
  (if o.k=2 then(jH (oL a o) o.s).2 else if o.k=3 then(kD (oL a o)).2 else if o.k=4 then(oL a o).s.A==((oL a o).aU.length:Int)else if o.k=5 then uT (oL a o)else if o.k=6 then uU (oL a o)else uV (oL a o))
 else true
def mL(a:List Pl)(o:eU):List Pl:=
 if o.k=1 then a++(if lG o.od o.oa o.S then[kV o.od o.oa o.S o.on]else[])
 else if ru a o=true then(if o.k=2 then a.set (lS o a.length) (jH (oL a o) o.s).1 else if o.k=3 then a.set (lS o a.length) (kD (oL a o)).1 else a)
 else a
def zV(o:eU)(v:Value):Array Value:=#[.int .i64 o.k,.int .i64 o.n,.int .i64 o.od,.int .i64 o.oa,.int .i64 o.S,.bool o.on,.string ⟨o.s.toArray⟩,v]
structure x_(o:eU):Prop where
 n0: -9223372036854775808<=o.n
 n1:o.n<=9223372036854775807
 sm:Cb o.l
 wl:(gq o.l).length<=7000000
 es:mI o.l<=100000000
 ln:o.l.length<=1048576
def g_(w:World)(O:Nat->Nat×Nat)(b:Nat)(i:List Pl)(n:Nat)(w' :World):Prop:=∃h a c d e f g,WI w' h b a c d e f g/\a.map (·.1)=i/\c.length<=n/\eT (λ_=>False) O h w w'
section
variable {w:World}{O:Nat->Nat×Nat}{b:Nat}{pl:List (Pl×PA)}{hl:List HA}{pa ha:Option Addr}{pc hc:Nat}
def SL{o:eU}(h:0<pl.length):oL (pl.map (·.1)) o=(pl[lS o pl.length]'(zU o h)).1:=by
 have:=zU o h;rw[oL,iM];simp[List.getD,this]
def g_.Kh(h:sP w O b pl n pa pc w')(i:n<=m):g_ w O b (pl.map (·.1)) m w' :=by
 obtain⟨e,a,c,d,f,j,g⟩:=h;exact⟨e,pl,a,pa,pc,c,d,f,rfl,by omega,g⟩
def g_.of_below{n:Nat}{w' :World}(h:WI w O b pl hl pa pc ha hc)(a:Below w.heap.size w w')(c:hl.length<=n):g_ w O b (pl.map (·.1)) n w' :=⟨O,pl,hl,pa,pc,ha,hc,h.below a,rfl,c,eT.of_below _ a⟩
def g_.agC{e:List Pl}(h:Jh w O b pl hl ha hc e w')(f:hl.length<=n):g_ w O b (pl.map (·.1)++e) n w' :=by
 obtain⟨g,a,c,d,i,j,k⟩:=h;exact⟨g,a,hl,c,d,ha,hc,i,k,f,j⟩
def g_.agD{a:Pl}(h:EK w O b pl hl pa pc ha hc i a w')(c:hl.length<=n):g_ w O b ((pl.map (·.1)).set i a) n w' :=by
 obtain⟨d,A,e,f⟩:=h;exact⟨d,_,hl,pa,pc,ha,hc,e,by rw[map_set],c,f⟩
def g_.agE{f:Nat}{e:Pl}(h:Ce w O b pl n pa pc i f e w')(l:n<=m):g_ w O b ((pl.map (·.1)).set i e) m w' :=by
 obtain⟨g,A,a,c,d,j,o,k,_⟩:=h;exact⟨g,_,a,pa,pc,c,d,j,by rw[map_set],by omega,k⟩
def g_.back{i:List Pl}{j:World}(k:Below w.heap.size w j)(h:g_ j O b i n w'):g_ w O b i n w' :=by
 obtain⟨l,a,c,d,e,f,g,m,o,p,r⟩:=h;exact⟨l,a,c,d,e,f,g,m,o,p,(eT.of_below (λ_=>False) k).trans r λ_ _ q=>q⟩
end
section
variable {w:World}{O:Nat->Nat×Nat}{b:Nat}{pl:List (Pl×PA)}{hl:List HA}{pa ha:Option Addr}{pc hc:Nat}
def agF(h:WI w O b pl hl pa pc ha hc)(o:eU)(v:Value)(z:∃a n c,v=.slice a n c)(t:Gt w O)(A:pl.length<=1000000000)(p:o.k=1):
 Calls prog 29 #[.pointer (some ⟨b,0,none⟩),.agg #[.int .i64 o.k,.int .i64 o.n,.int .i64 o.od,.int .i64 o.oa,.int .i64 o.S,.bool o.on,.string ⟨o.s.toArray⟩,v]] w λe w' =>e=.returned (.bool (nL (pl.map (·.1)) o))/\g_ w O b (mL (pl.map (·.1)) o) hl.length w' :=by
 have f:nL (pl.map (·.1)) o=true:=by rw[nL,ru,M];simp[p]
 have g:mL (pl.map (·.1)) o=pl.map (·.1)++(if lG o.od o.oa o.S then[kV o.od o.oa o.S o.on]else[]):=by rw[mL,J p]
 rw[f,g];obtain⟨B,C,D,rfl⟩:=z;obtain⟨k,n,i,j,m,q,s,l⟩:=o;dsimp only at *;have d:=jG w (.cells #[.int .i64 k,.int .i64 n,.int .i64 i,.int .i64 j,.int .i64 m,.bool q,.string ⟨s.toArray⟩,.slice B C D] 60);have x:=Y (Qq (h.below d) i j m q (i_ t.lt d.size)<|by omega);have r:=Y d;generalize(if lG i j m=true then[kV i j m q]else[])=X at *;subst p;have F:((1:Int)==1)=true:=rfl;clear h t f g d;go_enter func29,ntmps29;go_wp2_with fail;go_call x.u as e G ⟨rfl,y⟩;have E:=Y (g_.back r.u (g_.agC y (a_ _)));clear y x;go_wp2_with fail;go_ret;exact⟨rfl,E.u⟩
def agG(h:WI w O b pl hl pa pc ha hc)(o:eU){C D:Nat}(m:fL C D w v o.l)(c:x_ o)(z:Gt w O)(E:hl.length<=16000000000000)(p:o.k=8):
 Calls prog 29 #[.pointer (some ⟨b,0,none⟩),.agg #[.int .i64 o.k,.int .i64 o.n,.int .i64 o.od,.int .i64 o.oa,.int .i64 o.S,.bool o.on,.string ⟨o.s.toArray⟩,v]] w λe w' =>e=.returned (.bool (nL (pl.map (·.1)) o))/\g_ w O b (mL (pl.map (·.1)) o) (hl.length+o.l.length+3) w' :=by
 have d:nL (pl.map (·.1)) o=uY o.od o.oa o.S o.on o.l:=by rw[nL,J p]
 have f:mL (pl.map (·.1)) o=pl.map (·.1):=by rw[mL,ru,M];simp[p]
 rw[d,f];obtain⟨k,n,q,r,t,x,s,l⟩:=o;have g:=c.sm;have i:=c.wl;have j:=c.es;dsimp only at *;have a:=jG w (.cells #[.int .i64 k,.int .i64 n,.int .i64 q,.int .i64 r,.int .i64 t,.bool x,.string ⟨s.toArray⟩,v] 60);have A:=Y (Hp (h.below a) (m.below a) q r t x g i j (z.ny (eT.of_below (O:=O) (λ_=>False) a) λ_ _ e=>e) E);have y:=Y a;obtain⟨H,I,F,-⟩:=m.form;subst F p;generalize uY q r t x l=X at *;have K:((8:Int)==1)=false:=rfl;have L:((8:Int)==8)=true:=rfl;clear h z d f a m c g i j;go_enter func29,ntmps29;go_wp2_with fail;go_call A.u as e N ⟨rfl,B⟩;have G:=Y (g_.back y.u (g_.Kh B (a_ _)));clear B A;go_wp2_with fail;go_ret;exact⟨rfl,G.u⟩
def agH(h:WI w O b pl hl pa pc ha hc)(o:eU)(v:Value)(A:∃a n c,v=.slice a n c)(p:o.k≠1)(q:o.k≠8)(d:ru (pl.map (·.1)) o=false):
 Calls prog 29 #[.pointer (some ⟨b,0,none⟩),.agg #[.int .i64 o.k,.int .i64 o.n,.int .i64 o.od,.int .i64 o.oa,.int .i64 o.S,.bool o.on,.string ⟨o.s.toArray⟩,v]] w λe w' =>e=.returned (.bool (nL (pl.map (·.1)) o))/\g_ w O b (mL (pl.map (·.1)) o) hl.length w' :=by
 have f:nL (pl.map (·.1)) o=true:=by rw[nL,M q,d];rfl
 have g:mL (pl.map (·.1)) o=pl.map (·.1):=by rw[mL,M p,d];rfl
 rw[f,g];obtain⟨B,C,D,rfl⟩:=A;obtain⟨k,n,E,F,G,H,s,l⟩:=o;rw[ru,iM]at d;dsimp only at *;have i:=jG w (.cells #[.int .i64 k,.int .i64 n,.int .i64 E,.int .i64 F,.int .i64 G,.bool H,.string ⟨s.toArray⟩,.slice B C D] 60);have r:=Y (g_.of_below h i (a_ _));obtain⟨t,I,x⟩:=bN h.blk;have Q:=aj7 p;have R:=aj7 q;have K:∀o j,(w.alloc o).cell? ⟨b,j,none⟩=(#[.slice pa pl.length pc,.slice ha hl.length hc]:Array Value)[j]?:=λo j=>by rw[<-t j];exact mG (dG _ _ _ x)
 clear h f g i p q;by_cases y:k<2
 .have L:=nR y;clear d;go_enter func29,ntmps29;go_wp2_with fail;go_ret;exact⟨rfl,r.u⟩
 have L:=pV y;by_cases z:7<k
 .have N:=nR z;clear d;go_enter func29,ntmps29;go_wp2_with fail;go_ret;exact⟨rfl,r.u⟩
 have N:=pV z;have m:pl.length=0:=by
  by_cases P:pl.length=0
  .exact P
  exfalso;rw[show decide (2<=k)=true by simp;omega,show decide (k<=7)=true by simp;omega,show decide (0<pl.length)=true by simp;omega]at d;cases d
 have S:((pl.length:Int)==0)=true:=by simp[m]
 clear d m;go_enter func29,ntmps29;go_wp2_with fail;go_ret;exact⟨rfl,r.u⟩
end
