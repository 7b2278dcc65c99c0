import Derived.Test.YtmgfijllcdadgaaGreatDoorUW21
import Derived.Laws.ResultCell
import Derived.Lib.AppendStr
import Derived.Test.YtmgfijllcdadgaaGreatDoorUW25
import Derived.Test.YtmgfijllcdadgaaGreatDoorCards
import Derived.Test.YtmgfijllcdadgaaGreatDoorTie
import Derived.ProofKit
import Derived.OpenShut
import Derived.Deep.DeepHandedRow
import Derived.Lib.LaidTab
import Derived.Stop.LaidErr
import Derived.SliceStrings
import Derived.Carry
import Derived.WideKeyArgs
set_option linter.all false
set_option maxHeartbeats 8000000
set_option maxRecDepth 100000
namespace Go.Proofs.YtmgfijllcdadgaaGreatDoor
open Go.RowKit
open Go.ChangeShapes Go.WideShapes Go.ChangeAt Go.RowKit
open Go.Proofs.Tryz
open Mk hiding rest
variable {w w' W:World}{P:Program}{rest:List Oper}{o:Oper}{b c:Nat}{s:Z}{l:Int}{a:Option Addr}{e:TypeId}{v:Value}{t:U}{f:List Nat}
def Hf(h:w.grownBy w' none):Below w.heap.size w w' :=⟨h.os,h.tape,h.output,h.size,λk a=>h.block k a<|by simp⟩
def Zm(w:World)(t b e:TypeId)(i:TypeInfo)(d:P.underlying t=some (.slice e))(f:P.info? e=some i)(a:Option Addr)(c:Nat):
 (Builtin.append_ #[t,t] b #[.slice none 0 0,.slice a 0 c]).run P w=.ok (.slice none 0 0) w:=by
 cases a<;>simp[Builtin.append_,run_underlying d,sizeOf,typeInfo,f,Builtin.lenOf,Builtin.firstCells,storeCells,loadCells,loadCellsFrom]
def Zn{b:Array Oper}{a:Act}{Q:Exit->Act->World->Prop}(d:o.guard=none)(s x:Operand)(t e:TypeId)
 (g:o.op=.call {callee:=.builtin .append,args:=#[s,x],argTypes:=#[t,t]}) (i:TypeInfo) (j:P.underlying t=some (.slice e)) (k:P.info? e=some i) (f:Option Addr) (c:Nat) (l:a.eval s=.slice none 0 0) (hx:a.eval x=.slice f 0 c)
 (h:wpList P b Q rest (a.put o.dst (.slice none 0 0)) w):wpList P b Q (o::rest) a w:=
 wpList_plain d λ_ m=>by
  unfold Oper.wp execOp;simp only[g,resolve,invoke,builtin,wW,wV,nT,FX,lf,qO,l,hx,Zm w t o.type e i j k f c];exact m _ _ h
def Zo{L:Lay}(h:bC w b s L)(Q:s.I.length<=1000000000):
 Calls prog 59 #[.pointer (some ⟨b,0,none⟩)] w λe w' =>∃F G,e=.returned (.slice F s.I.length G)/\w'.ownsRow w.heap.size 9 1 (.slice F s.I.length G) s.I.length (s.I.map sv)/\Below w.heap.size w w' :=by
 have q:=h.cell;have K:=h.lt;have p:=Y (h.rows.own (eH s L)<|by simp[rowsOf]);unfold cellsOf at q;clear h;cases d:s.I with
 |nil=>
  rw[d]at q;clear p d;obtain⟨t,v,f,i,k⟩:=lg Gu;go_enter func59,ntmps59;go_wp2_with(at_builtin;refine Zn rfl (.tmp 4) (.tmp 8) 34 9 rfl t underlying34 v L.oa L.oc rfl rfl ?_);go_ret;exact⟨none,0,rfl,lq _ _ _ _,Below.refl _ _⟩
 |cons y r=>
  obtain⟨g,c,H,z,N⟩:=World.ownsRow.form p.u (by simp[eH,d]);simp only[eH]at H;injection H with l A B;have m:=p.u;have a:Hid (∀j u,(s.I.map sv)[j]?=some u->w.cell? ((⟨g,0,none⟩:Addr).add j)=some u):=λj u C=>by
   have n:(⟨g,0,none⟩:Addr).add j=⟨g,j,none⟩:=by unfold Addr.add;split<;>simp_all
   have R:j<s.I.length:=by
    have:=(List.getElem?_eq_some_iff.1 C).1;simpa using this
   unfold Row.owned eH at m;simp only at m;rw[l]at m;rwa[n,Bc m j<|by omega]
  obtain⟨t,v,f,i,k⟩:=lg Gu;rw[l]at q;rw[<-d];have o:0<s.I.length:=by simp[d]
  have O:Hid (w.ownsRow w.heap.size 9 1 (.slice none 0 0) 0 []):=lq _ _ _ _;clear p m d A B z;go_enter func59,ntmps59;go_wp2_with(at_builtin;refine lI _ rfl (.tmp 4) (.tmp 8) 34 rfl w.heap.size 9 t _ 1 16 underlying34 v f i k rfl (by decide) (.slice none 0 0) 0 [] rfl O.u ⟨g,0,none⟩ s.I.length L.oc (s.I.map sv) rfl (by simp) a.u (by intro u C;obtain⟨x,_,rfl⟩:=List.mem_map.1 C;rfl) o (by unfold maxLen;omega) (by omega) (a_ _) w.heap.size rfl ?_;intro S P w2 hown hgrow D I;rw[jV]at *;have HOW:=Y hown;have E:=Y hgrow;clear hown hgrow D);go_ret;exact⟨_,_,rfl,HOW.u,Hf E.u⟩
def Zp{L:Lay}(h:bC w b s L)(f:s.I.length<=1000000000):
 Calls prog 40 #[.pointer (some ⟨b,0,none⟩)] w λe w' =>∃c d,e=.returned (.slice c s.I.length d)/\w'.ownsRow w.heap.size 9 1 (.slice c s.I.length d) s.I.length (s.I.map sv)/\Below w.heap.size w w' :=by
 have g:=Y (Zo h f);have i:=h.lt;clear h;go_enter func40,ntmps40;go_wp2_with(go_at_call 59;go_call g.u as e w' ⟨c,d,rfl,hown,a⟩;have HOW:=Y hown;have j:=Y a;clear hown a);go_ret;exact⟨_,_,rfl,HOW.u,j.u⟩
def NH(d a t:Int)(n:Bool)(e:a<=32):Inv 0 (bB d a t n) where
 hx:=by simp[bB]
 ht:=by simp[bB]
 c0:=by simp[bB]
 c1:=by simp[bB]
 hl:=by simp[bB]
 ho:=by simp[bB]
 ha:=by simp[bB]
 hi:=λ_ _=>by simp[bB]
 oA:=e
 hb:=by simp[bB]
 hc:=by simp[bB]
 cb:=λc hc=>by simp[bB]at hc
 av:=λx hx=>by simp[bB]at hx
 an:=λx hx=>by simp[bB]at hx
 ax:=by simp[bB]
 bv:=λx hx=>by
  have:x=(Mk.qP,Mk.lu):=by simpa[bB]using hx
  subst this;decide
 hs:=.inl rfl
 pt:=by simp[Pt,bB]
 rn:=by simp[bB]
 r0:=by simp[bB]
 r1:=by simp[bB]
 m0:=by simp[bB]
 m1:=by simp[bB]
 am:=rfl
 on:=λy b=>by simp[bB]at b
 hn:=by simp[bB]
 ev:=λy b=>by simp[bB]at b
 l0:=by simp[bB]
 l1:=by simp[bB]
 vG:=by simp[bB]
 vH:=by simp[bB]
def Zi{k:Nat}(h:Inv k s):Inv k (qL s):=by
 unfold qL bK;split
 .exact{h with hl:=(by simp),ev:=(λe a=>by simp at a)}
 exact{h with hx:=(by simp),hl:=(by simp),ev:=(λe a=>by simp at a)}
def Zj{k:Nat}(h:Inv k s)(l:U):Inv (k+12*l.length) (dM s l).1:=by
 unfold dM;split
 .exact Zi (DI l h)
 exact h.mono (by omega)
def Zl(s:Z)(l:U):s.A<=(dM s l).1.A/\(dM s l).1.A<=s.A+l.length:=by
 unfold dM;split
 .have b:=He l s;have a:=Yj (aQ s l);show s.A<=(bK (aQ s l)).A/\(bK (aQ s l)).A<=_;rwa[a]
 exact⟨vq _,by show s.A<=_;omega⟩
def vJ.slice{w:World}{v:Value}{l:List Ev}{b:List Nat}(h:vJ w v l b):∃a c,v=.slice a l.length c:=by
 obtain⟨e,f,d,g,i,j⟩:=h.ex;exact slice_form d
def DJ{B j:Nat}{b a:Array Value}{t:TypeId}{u:Value}(h:W.heap[B]?=some (.cells b t (0,0)))(c:b.setIfInBounds j u=a):(W.setCell ⟨B,j,none⟩ u).heap[B]?=some (.cells a t (0,0)):=by
 rw[<-c];exact rY _ _ _ _ _ _ h
def BS(x:U)(k:Int)(hx:x.length<=100000000)(h: -100000000<=k)(i:k<=100000000)(w:World):
 Calls prog 176 #[.string ⟨x.toArray⟩,.int .i64 k] w λe w' =>e=.returned (.string ⟨(gy x k).toArray⟩)/\w' =w:=by
 obtain⟨z,a⟩:=akb (gy x k);rw[a];by_cases b:k<0
 .have d:=nR b;have:z=[]:=by rw[<-a];rw[gy,J (.inl b)]
  subst this;clear a;go_enter func176,ntmps176;go_wp2;go_ret;exact⟨rfl,rfl⟩
 have d:=pV b;by_cases c:(x.length:Int)<k
 .have f:=nR c;have:z=[]:=by rw[<-a];rw[gy,J (.inr c)]
  subst this;clear a;go_enter func176,ntmps176;go_wp2;go_ret;exact⟨rfl,rfl⟩
 have f:=pV c;obtain⟨n,rfl⟩:∃n:Nat,k=(n:Int):=⟨k.toNat,by omega⟩;have j:n<=x.length:=by omega
 have g:(ByteArray.extract ⟨x.toArray⟩ n x.length)=⟨z.toArray⟩:=by
  rw[Dg,<-a,gy,M];simp
 have l:¬(n:Int)<0:=b;have m:(n:Int)<=(x.length:Int):=by omega
 clear a;go_enter func176,ntmps176;go_wp2;go_ret;exact⟨rfl,rfl⟩
structure zM(w wx:World)(ou:U)(c l:Int)(dn:U)(a:Option Addr)(cap:Nat):Prop where
 cH:Below w.heap.size w wx
 p:wx.heap[w.heap.size]?=some (.cells #[.int .i64 c,.int .i64 l] 87 (0,0))
 row:wx.ownsRow (w.heap.size+1) 5 1 (.slice a dn.length cap) dn.length (dn.map bv)
 fin:ou=dn++iJ c l
 pt:l=0\/oH c l
 len:dn.length+l.toNat<=3
structure BU(w wx:World)(ou:U)(c l:Int)(dn:U)(a:Option Addr)(cap:Nat)(q:Nat)(b:Int):Prop extends zM w wx ou c l dn a cap where
 q1:wx.heap[q]?=some (.cells #[.int .i64 ((eO c l b).getD (0,0)).1,.int .i64 ((eO c l b).getD (0,0)).2] 87 (0,0))
 q2:w.heap.size<q
 q3:(Value.slice a dn.length cap).ownBlock≠some q
def zM.below{f i:World}{d:U}{c:Int}{e:U}(h:zM w f d c l e a b)(g:Below f.heap.size f i):zM w i d c l e a b:=by
 have j:=(Array.getElem?_eq_some_iff.1 h.p).1;refine⟨h.cH.trans (g.mono<|by omega),(g.block _ j).trans h.p,?_,h.fin,h.pt,h.len⟩;exact mo (r:=⟨5,1,.slice a e.length b,e.length,e.map bv⟩) h.row λk m=>g.block k (h.row.lt k m).2
def adG{c:Int}(h:oH c l){x:UInt8}{r:U}(hx:iJ c l=x::r)(b:Int)(e:128<=b)(a:b<x.toNat):eO c l b=none:=by
 obtain⟨rfl,h⟩|⟨rfl,h⟩|⟨rfl,h⟩:=h
 .have:x=128:=by simp[iJ]at hx;exact hx.1.symm
  subst this;have:b<128:=a;omega
 .by_cases d:c=0
  .subst d;have:x=160:=by simp[iJ]at hx;exact hx.1.symm
   subst this;have a:b<160:=a;rw[eO,M,_root_.if_neg];unfold gU;simp;omega
  have:x=128:=by simp[iJ,d]at hx;exact hx.1.symm
  subst this;have:b<128:=a;omega
 by_cases d:c=0
 .subst d;have:x=144:=by simp[iJ]at hx;exact hx.1.symm
  subst this;have a:b<144:=a;rw[eO,M,_root_.if_neg];unfold gU;simp;omega
 have:x=128:=by simp[iJ,d]at hx;exact hx.1.symm
 subst this;have:b<128:=a;omega
def adH{c:Int}(h:oH c l){x:UInt8}{r:U}(hx:iJ c l=x::r):128<=x.toNat/\x.toNat<=160:=by
 obtain⟨rfl,h⟩|⟨rfl,h⟩|⟨rfl,h⟩:=h
 .have:x=128:=by simp[iJ]at hx;exact hx.1.symm
  subst this;decide
 .by_cases a:c=0
  .subst a;have:x=160:=by simp[iJ]at hx;exact hx.1.symm
   subst this;decide
  have:x=128:=by simp[iJ,a]at hx;exact hx.1.symm
  subst this;decide
 by_cases a:c=0
 .subst a;have:x=144:=by simp[iJ]at hx;exact hx.1.symm
  subst this;decide
 have:x=128:=by simp[iJ,a]at hx;exact hx.1.symm
 subst this;decide
def BU.again{t n:World}{g:U}{c:Int}{i:U}{d:Nat}{q:Nat}{b b' :Int}(h:BU w t g c l i a d q b)(v:Below t.heap.size t n)(o s:Int)(x:o=((eO c l b').getD (0,0)).1/\s=((eO c l b').getD (0,0)).2):
 BU w ((n.setCell ⟨q,0,none⟩ (.int .i64 o)).setCell ⟨q,1,none⟩ (.int .i64 s)) g c l i a d q b' :=by
 have f:=h.tozM.below v;have y:=(Array.getElem?_eq_some_iff.1 h.q1).1;have m:∀k,k≠q->((n.setCell ⟨q,0,none⟩ (.int .i64 o)).setCell ⟨q,1,none⟩ (.int .i64 s)).heap[k]?=n.heap[k]?:=λk m=>by rw[kR _ _ _ _ m,kR _ _ _ _ m]
 refine⟨⟨(f.cH.setCell (by show w.heap.size<=q;have:=h.q2;omega) _).setCell (by show w.heap.size<=q;have:=h.q2;omega) _,(m _<|by have:=h.q2;omega).trans f.p,?_,f.fin,f.pt,f.len⟩,?_,h.q2,h.q3⟩
 .exact mo (r:=⟨5,1,.slice a i.length d,i.length,i.map bv⟩) f.row λk z=>m k λe=>h.q3 (e▸z)
 have A:=(v.block q y).trans h.q1;have:=DJ (j:=1) (u:=.int .i64 s) (DJ (j:=0) (u:=.int .i64 o) A rfl) rfl;rw[this];simp[x.1,x.2]
def adI(c l:Int)(h:l=0\/oH c l)(w:World):
 Calls prog 122 #[.agg #[.int .i64 c,.int .i64 l]] w λe w' =>∃a d,e=.returned (.slice a (iJ c l).length d)/\w'.ownsRow w.heap.size 5 1 (.slice a (iJ c l).length d) (iJ c l).length ((iJ c l).map bv)/\Below w.heap.size w w' :=by
 obtain⟨t,hF⟩:=aj8 (iJ c l);rw[<-hF];have a5:0<=l/\l<=3/\(l≠0->0<=c/\c<=17407):=by
  obtain h|h:=h
  .omega
  unfold oH at h;omega
 have HI:Hid (zM w (w.alloc (.cells #[.int .i64 c,.int .i64 l] 87)) t c l [] none 0):=⟨(Below.refl _ _).alloc (a_ _) _,dI w _,lq _ _ _ _,hF,h,by simp;omega⟩;obtain⟨i0,hi,a6,a7,a8⟩:=lg yR;clear h hF a5;go_enter func122,ntmps122;go_wp2_with fail;go_loopg [3,4,5,6,7] l.toNat λg s3 s4 s5 s6 s7 wx=>∃(wy:World) (c l:Int) (f:U) (a:Option Addr) (d:Nat),wy=wx/\g=l.toNat/\s3=.slice a f.length d/\s4=.int .i64 l/\Hid (zM w wy t c l f a d);case atStart=>exact⟨_,c,l,[],none,0,rfl,rfl,rfl,rfl,HI⟩
 case round=>
  clear HI;obtain⟨wy,c,l,f,a,d,a9,rfl,rfl,rfl,D⟩:=hrel;subst a9;have aq:=D.u.len;obtain aa|m:=D.u.pt
  .subst aa;have hf:t=f:=by have:=D.u.fin;rw[this];simp[iJ]
   have HF:=Y hf;clear hf;go_wp2;go_ret;rw[HF.u];exact⟨a,d,rfl,Mg D.u.row<|by omega,D.u.cH⟩
  have au:0<l/\l<=3/\0<=c/\c<=17407:=by unfold oH at m;omega
  obtain⟨x,r,O,B,H,P,ab,ad⟩:=QL m;have ae:=adH m B;have af:=Y (adG m B);have Q:=Y λ(b:Int) (h0:0<=b) (h1:b<=255) w=>LR c l b h0 h1 (by omega) (by omega) (by omega) (by omega) w;have HX:=Y (ajN B (ajN H P));have ag:=Y (Qv m H);have ah:∀i,wy.cell? ⟨w.heap.size,i,none⟩=[.int .i64 c,.int .i64 l][i]?:=λi=>by simp[World.cell?,D.u.p]
  have e1:decide (0<l)=true:=aj_;clear B H P m ab ad;go_wp2_with(go_at_call 127;go_call(Q.u 128 (by decide) (by decide) _)as e R ⟨rfl,I⟩);have C:=D.u.below I;have ai:=(Array.getElem?_eq_some_iff.1 C.p).1;have HK:Hid (BU w (R.alloc (.cells #[.int .i64 ((eO c l 128).getD (0,0)).1,.int .i64 ((eO c l 128).getD (0,0)).2] 87)) t c l f a d R.heap.size 128):=
   ⟨C.below ((Below.refl _ _).alloc (a_ _) _),dI R _,by omega,λe=>by have:=(C.row.lt _ e).2;omega⟩
  generalize hq:R.heap.size=q at *;generalize(R.alloc (.cells #[.int .i64 ((eO c l 128).getD (0,0)).1,.int .i64 ((eO c l 128).getD (0,0)).2] 87))=w2 at *;clear C I ai hq D ah;go_loopg [5,7] (x.toNat - 128) λg s5 s7 wx=>∃(n:World) (b:Nat),n=wx/\g=x.toNat - b/\128<=b/\b<=x.toNat/\s5=.int .u8 (b:Int)/\s7=.bool (eO c l (b:Int)).isSome/\Hid (BU w n t c l f a d q (b:Int));case atStart=>exact⟨_,128,rfl,rfl,by omega,ae.1,rfl,rfl,HK⟩
  case round=>
   obtain⟨n,b,aj,rfl,I,av,rfl,rfl,A⟩:=hrel;subst aj;clear HK;have S:∀i,n.cell? ⟨w.heap.size,i,none⟩=[.int .i64 c,.int .i64 l][i]?:=λi=>by simp[World.cell?,A.u.p]
   have o:=A.u.q1;have aw:=A.u.q2;have E:q<n.heap.size:=(Array.getElem?_eq_some_iff.1 o).1;by_cases ax:b<x.toNat
   .have ak:eO c l (b:Int)=none:=af.u b (by omega) (by omega);rw[ak];have e2:decide ((b:Int)<191)=true:=aj_;have ay:IntKind.u8.wrap ((b:Int)+1)=(b:Int)+1:=by rw[IntKind.wrap_u8];omega
    have al:=Y λw=>Q.u ((b:Int)+1) (by omega) (by omega) w;have T:∀(N:World),Below n.heap.size n N->(∀i,N.cell? ⟨q,i,none⟩=[.int .i64 ((eO c l (b:Int)).getD (0,0)).1,.int .i64 ((eO c l (b:Int)).getD (0,0)).2][i]?)/\(∀i,N.frozen? ⟨q,i,none⟩=false):=λN hb=>by
     have h1:=(hb.block q E).trans o;exact⟨λi=>by simp[World.cell?,h1],λi=>by simp[World.frozen?,h1]⟩
    have W:=Y T;clear o T;go_wp2_with fail;go_call(al.u _)as e N ⟨rfl,K⟩;obtain⟨az,b0⟩:=W.u N K;have HG:=Y (A.u.again K (b' :=(b:Int)+1) _ _ ⟨rfl,rfl⟩);clear K W A S;go_wp2;go_roundg (x.toNat - (b+1));case measure=>omega
    case rel=>exact⟨_,b+1,rfl,rfl,by omega,by omega,by simp,by simp,HG⟩
   obtain rfl:b=x.toNat:=by omega
   have v:eO c l (x.toNat:Int)=some (O,l - 1):=HX.u.2.1;have X:(eO c l (x.toNat:Int)).isSome=true:=by rw[v];rfl
   rw[X];rw[v]at o;have hrow:=A.u.row;have L:=(Below.refl n.heap.size n).alloc (a_ _) (.cells #[.int .u8 (x.toNat:Int)] 5);have a0:=Y (A.u.tozM.below L);have HO:=Y (A.u.tozM.below L).row;have HB:=Y (dI n (.cells #[.int .u8 (x.toNat:Int)] 5));have a1:=A.u.q3;have a2:=A.u.p;have F:some w.heap.size≠(Value.slice a f.length d).ownBlock:=λe=>by have:=(hrow.lt _ e.symm).1;omega
   have am:Hid (∀y:World,(n.alloc (.cells #[.int .u8 (x.toNat:Int)] 5)).grownBy y (Value.slice a f.length d).ownBlock->(∀i,y.cell? ⟨q,i,none⟩=[.int .i64 O,.int .i64 (l - 1)][i]?)/\(∀i,y.cell? ⟨w.heap.size,i,none⟩=[.int .i64 c,.int .i64 l][i]?)/\(∀i,y.frozen? ⟨w.heap.size,i,none⟩=false)/\y.heap[w.heap.size]?=some (.cells #[.int .i64 c,.int .i64 l] 87 (0,0))):=by
    intro y hgrow;have an:=(hgrow.block q (by simp<;>omega) λe=>a1 e.symm).trans ((dG _ _ _ E).trans o);have s:=(hgrow.block w.heap.size (by simp<;>omega) F).trans ((dG _ _ _<|by omega).trans a2);exact⟨λi=>by simp[World.cell?,an],λi=>by simp[World.cell?,s],λi=>by simp[World.frozen?,s],s⟩
   clear L X a1 F;go_wp2_with(at_builtin;refine lI _ rfl (.tmp 34) (.tmp 36) 74 rfl (w.heap.size+1) 5 i0 _ 1 1 underlying74 hi a6 a7 a8 rfl (by decide) (.slice a f.length d) f.length (f.map bv) rfl HO.u ⟨n.heap.size,0,none⟩ 1 1 [.int .u8 (x.toNat:Int)] (by simp[Act.eval]) rfl (jT HB.u) (by intro u hu;simp at hu;subst hu;rfl) (by decide) (by unfold maxLen;omega) (by omega) (by simp<;>omega) (n.heap.size+1) (by simp) ?_;intro g2 G y hown hgrow a3 ar;obtain⟨b1,b2,b3,s⟩:=am.u y hgrow;have HOW:=Y hown;have ao:=Y hgrow;have b4:=Y a3;have ap:=Y s;clear hown hgrow a3 s S o a2);have b5:(l - 1).toNat+1=l.toNat:=by omega
   go_roundg (l - 1).toNat;case measure=>omega
   case rel=>
    refine⟨_,O,l - 1,f++[x],some ⟨g2,0,none⟩,G,rfl,rfl,by simp,rfl,?_⟩;have z:=ao.u;have a4:Below w.heap.size w y:=a0.u.cH.trans ⟨z.os,z.tape,z.output,z.size,λk hk=>z.block k (by simp;omega) λe=>by have:=(hrow.lt k e.symm).1;omega⟩;refine⟨(a4.setCell (a_ _) _).setCell (a_ _) _,?_,?_,?_,ag.u,by simp;omega⟩
    .have:=DJ (j:=1) (u:=.int .i64 (l - 1)) (DJ (j:=0) (u:=.int .i64 O) ap.u rfl) rfl;rw[this];rfl
    .have h5:=HOW.u;have h6:=mo (w:=y) (w' :=(y.setCell ⟨w.heap.size,0,none⟩ (.int .i64 O)).setCell ⟨w.heap.size,1,none⟩ (.int .i64 (l - 1))) (base:=w.heap.size+1) (r:=⟨5,1,.slice (some ⟨g2,0,none⟩) (f.length+1) G,f.length+1,f.map bv++[Value.int .u8 (x.toNat:Int)]⟩) h5 λk hv=>by
      have:=(h5.lt k hv).1;rw[kR _ _ _ _<|by show k≠w.heap.size;omega,kR _ _ _ _<|by show k≠w.heap.size;omega]
     simpa[Row.owned,bv]using h6
    rw[a0.u.fin,HX.u.1,HX.u.2.2];simp
def af7(l:U):Lib.strCells ⟨l.toArray⟩=l.map bv:=by unfold Lib.strCells bv;simp
def qT{h:Nat}{t u p:TypeId}{i:TypeInfo}(z:P.underlying t=some (.slice e))(A:P.underlying u=some .string)(B:P.info? e=some i)(H:i.zero=some (.int .u8 0))(a:i.size=1)(k:i.bytes=1)
 {q:Value} {n:Nat} {r:List Value} (hown:w.ownsRow h e 1 v n r) (s:ByteArray) (C:n+s.size<=maxLen) (x:n+s.size<=140737488355328)
 (D:(Builtin.append_ #[t,u] p #[v,.string s]).run P w=.ok q w') (l:q=.slice none 0 0↔v=.slice none 0 0/\s.size=0):q.ownBlock=v.ownBlock\/q.ownBlock=some w.heap.size:=by
 have y:n+s.size<=9223372036854775807:=by simp only[maxLen]at C;omega
 have E:r.length=n:=by simpa using hown.1
 have hrow:=hown;obtain⟨rfl,rfl⟩|⟨g,b,m,rfl,K,L,N,O,F,G⟩:=hown.2
 .by_cases Q:s.size=0
  .rw[l.2 ⟨rfl,Q⟩];exact .inl rfl
  have c:=run_append_nil_string (P:=P) w t u p e i (.int .u8 0) z A B H s (by omega) (by omega) (by rw[k];omega);rw[D]at c;injection c with o _;rw[o];exact .inr rfl
 by_cases d:n+s.size<=b
 .have I:m.size=b:=by simpa using F
  have c:=Lib.run_append_room_string (P:=P) w t u p e i z A B a g n b m L s d (by omega);rw[D]at c;injection c with o _;rw[o];exact .inl rfl
 have f:∀j u,r[j]?=some u->w.cell? ((⟨g,0,none⟩:Addr).add j)=some u:=hrow.cells (g:=g) rfl;have c:=Lib.run_append_grow_string (P:=P) w t u p e i (.int .u8 0) z A B H ⟨g,0,none⟩ n b r (by rw[a];simpa using E) f s (by omega) (by omega) (by rw[k];exact growslice_fits (by omega) (by omega));rw[D]at c;injection c with o _;rw[o];exact .inr rfl
def af8{j:Array Oper}{a:Act}{Q:Exit->Act->World->Prop}(m:o.guard=none)(q x:Operand)(t u:TypeId)
 (C:o.op=.call {callee:=.builtin .append,args:=#[q,x],argTypes:=#[t,u]})
 (b:Nat) (e:TypeId) (i:TypeInfo) (r:P.underlying t=some (.slice e)) (y:P.underlying u=some .string) (z:P.info? e=some i) (A:i.zero=some (.int .u8 0))
 (d:i.size=1) (k:i.bytes=1)
 (v:Value) (n:Nat) (p:List Value) (D:a.eval q=v) (hown:w.ownsRow b e 1 v n p) (s:ByteArray) (hx:a.eval x=.string s)
 (l:n+s.size<=maxLen) (c:n+s.size<=140737488355328) (f:b<=w.heap.size)
 (h:∀g w', w'.ownsRow b e 1 g (n+s.size) (p++Lib.strCells s)->w.grownBy w' v.ownBlock->(g.ownBlock=v.ownBlock\/g.ownBlock=some w.heap.size)->wpList P j Q rest (a.put o.dst g) w'):wpList P j Q (o::rest) a w:=by
 refine wpList_plain m λK E=>?_;obtain⟨g,w', B,F,G,H⟩:=Lib.run_append_own_string (P:=P) w b t u o.type e i r y z A d k v n p hown s l c f;have I:=qT r y z A d k hown s l c B H;unfold Oper.wp execOp;simp only[C,resolve,invoke,builtin,wW,wV,nT,FX,lf,qO,D,hx,B];exact E _ _ (h g w' F G I)
structure WT(w:World)(b:Nat)(t:U)(a:Option Addr)(c:Nat):Prop where
 blk:w.heap[b]?=some (.cells #[.slice a t.length c] 150 (0,0))
 row:w.ownsRow (b+1) 5 1 (.slice a t.length c) t.length (t.map bv)
def fZ(w:World)(b:Nat)(t:U)(f:List Nat):Prop:=∃a c,WT w b t a c/\f=(Value.slice a t.length c).ownBlock.toList
section
variable {w w' :World}{b:Nat}{t:U}{a:Option Addr}{c:Nat}{f:List Nat}
def WT.lt(h:WT w b t a c):b<w.heap.size:=(Array.getElem?_eq_some_iff.1 h.blk).1
def WT.cell(h:WT w b t a c):w.cell? ⟨b,0,none⟩=some (.slice a t.length c):=by simp[World.cell?,h.blk]
def WT.keep(h:WT w b t a c)(d:Below w.heap.size w w'):WT w' b t a c:=
 ⟨(d.block b h.lt).trans h.blk,mo (r:=⟨5,1,_,_,_⟩) h.row λk e=>d.block k (World.ownsRow.lt h.row k e).2⟩
def xW(h:fZ w b t f):b<w.heap.size/\∀k∈f,b<k/\k<w.heap.size:=by
 obtain⟨c,d,a,rfl⟩:=h;refine⟨a.lt,λk e=>?_⟩;have g:(Value.slice c t.length d).ownBlock=some k:=by simpa using e
 have i:=World.ownsRow.lt a.row k g;omega
def EX(h:fZ w b t f)(a:Below w.heap.size w w'):fZ w' b t f:=by
 obtain⟨c,d,e,rfl⟩:=h;exact⟨c,d,e.keep a,rfl⟩
def Kb(h:fZ w b t f)(o:Obj):fZ (w.alloc o) b t f/\Fr w (w.alloc o) b f f:=⟨EX h ((Below.refl _ _).alloc (a_ _) _),Fr.alloc _ _ _ _⟩
def WT.grow(h:WT w b t a c){m:U}(l:w'.ownsRow (b+1) 5 1 v (t.length+m.length) (t.map bv++m.map bv))(g:w.grownBy w' (Value.slice a t.length c).ownBlock)(n:v.ownBlock=(Value.slice a t.length c).ownBlock\/v.ownBlock=some w.heap.size):
 (∃x,fZ (w'.setCell ⟨b,0,none⟩ v) b (t++m) x/\Fr w (w'.setCell ⟨b,0,none⟩ v) b (Value.slice a t.length c).ownBlock.toList x)/\w'.cell? ⟨b,0,none⟩=some (.slice a t.length c)/\w'.frozen? ⟨b,0,none⟩=false/\b<w'.heap.size:=by
 have o:some b≠(Value.slice a t.length c).ownBlock:=λe=>by
  have:=(World.ownsRow.lt h.row b e.symm).1;omega
 have d:w'.heap[b]?=some (.cells #[.slice a t.length c] 150 (0,0)):=(g.block b h.lt o).trans h.blk;have p:b<w'.heap.size:=(Array.getElem?_eq_some_iff.1 d).1;obtain⟨i,j,y⟩:=slice_form l;subst y;refine⟨⟨(Value.slice i (t.length+m.length) j).ownBlock.toList,⟨i,j,⟨?_,?_⟩,by simp⟩,?_⟩,by simp[World.cell?,d],by simp[World.frozen?,d],p⟩
 .simp[World.setCell,rE,d]
 .have:(w'.setCell ⟨b,0,none⟩ (.slice i (t.length+m.length) j)).ownsRow (b+1) 5 1 (.slice i (t.length+m.length) j) (t.length+m.length) (t.map bv++m.map bv):=mo (r:=⟨5,1,_,_,_⟩) l λk f=>kR _ _ _ _ (by
   have:=(World.ownsRow.lt l k f).1
   show k≠b
   omega)
  simpa using this
 refine⟨g.os,g.tape,g.output,by simpa using g.size,λk f s u=>?_,λk f=>?_⟩
 .rw[kR _ _ _ _ (show k≠b from s)];refine g.block k f λe=>u ?_;rw[<-e];simp
 have f:(Value.slice i (t.length+m.length) j).ownBlock=some k:=by simpa using f
 obtain q|q:=n
 .left;rw[<-q,f];simp
 right;rw[f]at q;cases q;exact a_ _
end
def sS(h:fZ w b t f)(s:U)(B:t.length+s.length<=1000000000):
 Calls prog 168 #[.pointer (some ⟨b,0,none⟩),.string ⟨s.toArray⟩] w λe w' =>e=.returned (.tuple #[])/\∃n,fZ w' b (t++s) n/\Fr w w' b f n:=by
 obtain⟨a,c,h,rfl⟩:=h;have C:=h.cell;have q:=h.lt;obtain⟨r,v,j,k,l⟩:=lg yR;have o:=Y h;clear h;go_enter func168,ntmps168;go_wp2_with(at_builtin;refine af8 rfl _ _ _ _ rfl (b+1) 5 r underlying74 underlying9 v j k l (.slice a t.length c) t.length (t.map bv) rfl o.u.row ⟨s.toArray⟩ rfl (by show t.length+s.length<=_;unfold maxLen;omega) (by show t.length+s.length<=_;omega) (by omega) ?_;intro D E d i g;rw[af7]at d;obtain⟨F,G,rfl⟩:=slice_form d;obtain⟨p,x,y,z⟩:=o.u.grow (m:=s) d i g;have A:=Y p;clear p d i g);go_end0
 exact⟨rfl,A.u⟩
def Sq(x:UInt8)(w:World):Calls prog 211 #[.int .u8 (x.toNat:Int)] w λe w' =>e=.returned (.string ⟨(oK x).toArray⟩)/\w' =w:=by
 have hx:∀k:UInt8,x=k↔(x.toNat:Int)=(k.toNat:Int):=λk=>⟨λe=>by rw[e],λe=>UInt8.toNat_inj.1<|by omega⟩;obtain⟨a,b⟩:=aj8 (oK x);rw[<-b];by_cases c:(x.toNat:Int)=60
 .have g:=aka c;have:a=[38,108,116,59]:=by rw[b,(hx 60).2 c];rfl
  subst this;clear b;go_enter func211,ntmps211;go_wp2;go_ret;exact⟨rfl,rfl⟩
 by_cases d:(x.toNat:Int)=62
 .have g:=aj7 c;have i:=aka d;have:a=[38,103,116,59]:=by rw[b,(hx 62).2 d];rfl
  subst this;clear b;go_enter func211,ntmps211;go_wp2;go_ret;exact⟨rfl,rfl⟩
 by_cases f:(x.toNat:Int)=38
 .have g:=aj7 c;have i:=aj7 d;have j:=aka f;have:a=[38,97,109,112,59]:=by rw[b,(hx 38).2 f];rfl
  subst this;clear b;go_enter func211,ntmps211;go_wp2;go_ret;exact⟨rfl,rfl⟩
 by_cases h:(x.toNat:Int)=13
 .have g:=aj7 c;have i:=aj7 d;have j:=aj7 f;have l:=aka h;have:a=[38,35,49,51,59]:=by rw[b,(hx 13).2 h];rfl
  subst this;clear b;go_enter func211,ntmps211;go_wp2;go_ret;exact⟨rfl,rfl⟩
 have g:=aj7 c;have i:=aj7 d;have j:=aj7 f;have l:=aj7 h;have:a=[]:=by
  rw[b,oK,M λk=>c ((hx 60).1 k),M λk=>d ((hx 62).1 k),M λk=>f ((hx 38).1 k),M λk=>h ((hx 13).1 k)]
 subst this;clear b;go_enter func211,ntmps211;go_wp2;go_ret;exact⟨rfl,rfl⟩
def af9(x:UInt8)(w:World):Calls prog 229 #[.int .u8 (x.toNat:Int)] w λe w' =>e=.returned (.string ⟨(qF x).toArray⟩)/\w' =w:=by
 have hx:∀k:UInt8,x=k↔(x.toNat:Int)=(k.toNat:Int):=λk=>⟨λe=>by rw[e],λe=>UInt8.toNat_inj.1<|by omega⟩;obtain⟨a,b⟩:=aj8 (qF x);rw[<-b];by_cases c:(x.toNat:Int)=34
 .have g:=aka c;have:a=[38,113,117,111,116,59]:=by rw[b,(hx 34).2 c];rfl
  subst this;clear b;go_enter func229,ntmps229;go_wp2;go_ret;exact⟨rfl,rfl⟩
 by_cases d:(x.toNat:Int)=9
 .have g:=aj7 c;have h:=aka d;have:a=[38,35,57,59]:=by rw[b,(hx 9).2 d];rfl
  subst this;clear b;go_enter func229,ntmps229;go_wp2;go_ret;exact⟨rfl,rfl⟩
 by_cases f:(x.toNat:Int)=10
 .have g:=aj7 c;have h:=aj7 d;have i:=aka f;have:a=[38,35,49,48,59]:=by rw[b,(hx 10).2 f];rfl
  subst this;clear b;go_enter func229,ntmps229;go_wp2;go_ret;exact⟨rfl,rfl⟩
 have g:=aj7 c;have h:=aj7 d;have i:=aj7 f;have:a=oK x:=by
  rw[b,qF,M λk=>c ((hx 34).1 k),M λk=>d ((hx 9).1 k),M λk=>f ((hx 10).1 k)]
 subst this;clear b;go_enter func229,ntmps229;go_wp2_with fail;go_call(Sq x _)as e j ⟨rfl,rfl⟩;go_wp2;go_ret;exact⟨rfl,rfl⟩
def Sr(h:fZ w b t f)(x:UInt8)(r:U)(Q:t.length+r.length+1<=1000000000):
 Calls prog 212 #[.pointer (some ⟨b,0,none⟩),.int .u8 (x.toNat:Int),.string ⟨r.toArray⟩] w λe w' =>e=.returned (.tuple #[])/\∃k,fZ w' b (t++either x r) k/\Fr w w' b f k:=by
 cases r with
 |cons y r=>
  have e0:((y::r)==([]:U))=false:=rfl;have E:=Y (sS h (y::r)<|by omega);have g:either x (y::r)=y::r:=by rw[either,M]
  rw[g];generalize(y::r)=z at *;clear g h;go_enter func212,ntmps212;go_wp2_with fail;go_call E.u as e R ⟨rfl,s⟩;have l:=Y s;clear s;go_wp2;go_end0
  exact⟨rfl,l.u⟩
 |nil=>
  obtain⟨a,c,h,rfl⟩:=h;obtain⟨F,G,n,o,p⟩:=lg yR;have S:=h.cell;have H:=h.lt;have v:=h.keep ((Below.refl w.heap.size w).alloc (a_ _) (.cells #[.int .u8 (x.toNat:Int)] 5));have HA:=Y v;have I:=Y (show(w.alloc (.cells #[.int .u8 (x.toNat:Int)] 5)).heap[w.heap.size]?=_ from dI w _);have g:either x []=[x]:=rfl;rw[g];clear h v g;go_enter func212,ntmps212;go_wp2_with(at_builtin;refine lI _ rfl _ _ 74 rfl (b+1) 5 F _ 1 1 underlying74 G n o p rfl (by decide) (.slice a t.length c) t.length (t.map bv) (by simp[Act.eval]) HA.u.row ⟨w.heap.size,0,none⟩ 1 1 [.int .u8 (x.toNat:Int)] (by simp[Act.eval]) rfl (jT I.u) (by intro u A;simp at A;subst A;rfl) (by decide) (by unfold maxLen;omega) (by omega) (by simp;omega) (w.heap.size+1) (by simp) ?_;intro T B W i j d C;obtain⟨D,K,L,N⟩:=HA.u.grow (m:=[x]) i j (by obtain q|q:=d;exact .inl q.symm;exact .inr (by rw[q];simp[Value.ownBlock]));have l:=Y D;clear D i j d);refine bodyPost_ret (CU rfl _ _ _) rfl ?_;obtain⟨k,O,P⟩:=l.u;exact⟨rfl,k,O,(Fr.alloc _ _ _ _).trans P⟩
def af_(s:U)(i:Nat)(y:UInt8)(a:s[i]?=some y):nJ (s.take (i+1))=nJ (s.take i)++either y (oK y):=by
 rw[qM,a,af5];congr 1
 unfold nJ;simp
def aga(s:U)(i:Nat)(y:UInt8)(a:s[i]?=some y):nK (s.take (i+1))=nK (s.take i)++either y (qF y):=by
 rw[qM,a,af6];congr 1
 unfold nK;simp
def Kc(y:UInt8):(oK y).length<=6/\(qF y).length<=6:=by
 unfold qF oK;constructor<;>(repeat' split)<;>simp
def EY:∀(s:U),(nJ s).length<=6*s.length/\(nK s).length<=6*s.length
 |[]=>⟨a_ _,a_ _⟩
 |x::r=>by
  have e:nJ (x::r)=either x (oK x)++nJ r:=rfl;have b:nK (x::r)=either x (qF x)++nK r:=rfl;have h:=EY r;have a:=Kc x;have k:∀z:U,z.length<=6->(either x z).length<=6:=λz c=>by
   unfold either;split
   .simp
   exact c
  rw[e,b,bT,bT,cT];have:=k _ a.1;have:=k _ a.2;omega
def agb(h:fZ w b t f)(s:U)(E:t.length+6*s.length+10<=1000000000):
 Calls prog 171 #[.pointer (some ⟨b,0,none⟩),.string ⟨s.toArray⟩] w λe w' =>e=.returned (.tuple #[])/\∃a,fZ w' b (t++nJ s) a/\Fr w w' b f a:=by
 have n:=Y h;have d:=Y (af_ s);clear h;go_enter func171,ntmps171;go_wp2_with fail;go_loopg [4] s.length (λg r o=>∃i:Nat,i<=s.length/\g=s.length - i/\r=.int .i64 (i:Int)/\Hid (∃a,fZ o b (t++nJ (s.take i)) a/\Fr w o b f a));case atStart=>exact⟨0,by omega,rfl,rfl,⟨f,by show fZ w b (t++nJ []) f;simpa[nJ]using n.u,Fr.refl _ _ _⟩⟩
 case round=>
  obtain⟨i,F,rfl,rfl,v,c⟩:=hrel;clear n;by_cases x:i<s.length
  .have z:decide ((i:Int)<(s.length:Int))=true:=aj_;have A:(i:Int)<(s.length:Int):=by omega
   obtain⟨y,j⟩:∃y,s[i]?=some y:=⟨s[i],by simp[x]⟩;have B:∀h,(ByteArray.mk s.toArray)[i]'h=y:=λh=>(List.getElem?_eq_some_iff.1 j).2;have k:=Y (Sr c.1 y (oK y)<|by have C:=(EY (s.take i)).1;have:=(Kc y).1;rw[iB]at C;rw[bT];omega);rw[jB,<-d.u i y j]at k;clear j d;go_wp2_with fail;go_call(Sq y _)as e G ⟨rfl,rfl⟩;go_wp2_with fail;go_call k.u as e w2 ⟨rfl,D,p,q⟩;have l:=Y (ajN p (c.2.trans q));clear p q k c;go_wp2;go_roundg (s.length - (i+1));case measure=>omega
   case rel=>exact⟨i+1,by omega,rfl,by simp,D,l.u⟩
  have z:decide ((i:Int)<(s.length:Int))=false:=aj9;have m:i=s.length:=by omega
  have l:Hid (∃a,fZ wr b (t++nJ s) a/\Fr w wr b f a):=by
   have:=c;rw[m,tv]at this;exact⟨v,this⟩
  clear c d;go_wp2;go_end0
  exact⟨rfl,l.u⟩
def agc(h:fZ w b t f)(s:U)(E:t.length+6*s.length+10<=1000000000):
 Calls prog 210 #[.pointer (some ⟨b,0,none⟩),.string ⟨s.toArray⟩] w λe w' =>e=.returned (.tuple #[])/\∃a,fZ w' b (t++nK s) a/\Fr w w' b f a:=by
 have n:=Y h;have d:=Y (aga s);clear h;go_enter func210,ntmps210;go_wp2_with fail;go_loopg [4] s.length (λg r o=>∃i:Nat,i<=s.length/\g=s.length - i/\r=.int .i64 (i:Int)/\Hid (∃a,fZ o b (t++nK (s.take i)) a/\Fr w o b f a));case atStart=>exact⟨0,by omega,rfl,rfl,⟨f,by show fZ w b (t++nK []) f;simpa[nK]using n.u,Fr.refl _ _ _⟩⟩
 case round=>
  obtain⟨i,F,rfl,rfl,v,c⟩:=hrel;clear n;by_cases x:i<s.length
  .have z:decide ((i:Int)<(s.length:Int))=true:=aj_;have A:(i:Int)<(s.length:Int):=by omega
   obtain⟨y,j⟩:∃y,s[i]?=some y:=⟨s[i],by simp[x]⟩;have B:∀h,(ByteArray.mk s.toArray)[i]'h=y:=λh=>(List.getElem?_eq_some_iff.1 j).2;have k:=Y (Sr c.1 y (qF y)<|by have C:=(EY (s.take i)).2;have:=(Kc y).2;rw[iB]at C;rw[bT];omega);rw[jB,<-d.u i y j]at k;clear j d;go_wp2_with fail;go_call(af9 y _)as e G ⟨rfl,rfl⟩;go_wp2_with fail;go_call k.u as e w2 ⟨rfl,D,p,q⟩;have l:=Y (ajN p (c.2.trans q));clear p q k c;go_wp2;go_roundg (s.length - (i+1));case measure=>omega
   case rel=>exact⟨i+1,by omega,rfl,by simp,D,l.u⟩
  have z:decide ((i:Int)<(s.length:Int))=false:=aj9;have m:i=s.length:=by omega
  have l:Hid (∃a,fZ wr b (t++nK s) a/\Fr w wr b f a):=by
   have:=c;rw[m,tv]at this;exact⟨v,this⟩
  clear c d;go_wp2;go_end0
  exact⟨rfl,l.u⟩
def Ss(h:fZ w b t f)(n v:U)(y:t.length+n.length+6*v.length+20<=1000000000):
 Calls prog 170 #[.pointer (some ⟨b,0,none⟩),.string ⟨n.toArray⟩,.string ⟨v.toArray⟩] w λe w' =>e=.returned (.tuple #[])/\∃g,fZ w' b (t++jQ n v) g/\Fr w w' b f g:=by
 have i:=Y (sS h (32::(n++[61,34]))<|by simp;omega);clear h;go_enter func170,ntmps170;go_wp2_with fail;go_call i.u as e z ⟨rfl,A,j,k⟩;have l:=Y (agc j v<|by simp;omega);have a:=Y k;clear j k i;go_wp2_with fail;go_call l.u as e w2 ⟨rfl,B,m,o⟩;have p:=Y (sS m [34]<|by have:=(EY v).2;simp;omega);have c:=Y (a.u.trans o);clear m o l a;go_wp2_with fail;go_call p.u as e q ⟨rfl,d,s,r⟩;have x:Hid (fZ q b (t++jQ n v) d/\Fr w q b f d):=by
  refine⟨?_,c.u.trans r⟩;have e:t++32::(n++[61,34])++nK v++[34]=t++jQ n v:=by unfold jQ;simp
  rwa[<-e]
 clear s r p c;go_wp2;go_end0
 exact⟨rfl,d,x.u⟩
def agd(p:U)(b:p.length<=1000000000)(w:World):Calls prog 169 #[.string ⟨p.toArray⟩] w λe w' =>e=.returned (.string ⟨(m_ p).toArray⟩)/\w' =w:=by
 cases p with
 |nil=>
  have e0:(([]:U)==[])=true:=rfl;show Calls _ _ _ _ λe w' =>e=.returned (.string ⟨#[120,109,108,110,115]⟩)/\w' =w;go_enter func169,ntmps169;go_wp2;go_ret;exact⟨rfl,rfl⟩
 |cons y r=>
  have e0:((y::r)==([]:U))=false:=rfl;have a:m_ (y::r)=120::109::108::110::115::58::(y::r):=by rw[m_,M];rfl
  rw[a];generalize(y::r)=z at *;have c:¬9223372036854775807<6+z.length:=by omega
  clear a;go_enter func169,ntmps169;go_wp2;refine bodyPost_ret (results_tmp rfl _ _ _) rfl ⟨?_,rfl⟩;show Ending.returned (.string (_++_))=_;congr 2
def B_(w:World)(a:Option Addr)(l:List aI):Prop:=
 ∀k (b:k<l.length),∃g,a=some ⟨g,0,none⟩/\g<w.heap.size/\w.cell? ⟨g,k*3,none⟩=some (.string ⟨l[k].B.toArray⟩)/\w.cell? ⟨g,k*3+2,none⟩=some (.string ⟨l[k].val.toArray⟩)
def B_.of{l:List aI}(h:w.ownsRow 0 69 3 (.slice a l.length c) l.length (cQ l)):B_ w a l:=λk d=>by
 obtain⟨g,e,f,b⟩:=vB (m:=3) (l:=l) gG (λ_=>rfl) (by decide) h k d;exact⟨g,e,f,b 0<|by decide,b 2<|by decide⟩
structure Ca where
 pa:Option Addr
 pc:Nat
 va:Option Addr
 vc:Nat
 ma:Option Addr
 mc:Nat
def below_drewN{B:Nat}{a:World}(h:Below B a w)(n:Nat):Below B a (w.drewN n):=⟨h.os,h.tape,h.output,h.size,h.block⟩
def tx(u:U):Ev:=⟨3,[],[],u,[]⟩
def out(l:List Ev)(t:U):List Ev:=if t.length=0 then l else l++[tx t]
def vJ.cap{l:List Ev}{d:List Nat}(e:vJ w (.slice a l.length c) l d):l.length<=c:=by
 obtain⟨j,k,f,m,_,_⟩:=e.ex;obtain⟨b,n⟩|⟨g,h,i,b,_,_,o,_⟩:=f.2
 .omega
 injection b with _ _ p;omega
def vJ.zP{l:List Ev}{fp:List Nat}(y:vJ w v l fp)(k:Nat)(C:k<l.length):
 ∃g c b e,v=.slice (some ⟨g,0,none⟩) l.length c/\g<w.heap.size/\w.cell? ⟨g,k*5,none⟩=some (.int .i64 l[k].kind)/\w.cell? ⟨g,k*5+1,none⟩=some (.string ⟨l[k].B.toArray⟩)/\w.cell? ⟨g,k*5+2,none⟩=some (.string ⟨l[k].space.toArray⟩)/\w.cell? ⟨g,k*5+3,none⟩=some (.string ⟨l[k].val.toArray⟩)/\w.cell? ⟨g,k*5+4,none⟩=some (.slice b l[k].f.length e)/\B_ w b l[k].f/\(bR (l[k],.slice b l[k].f.length e)).owned w 0:=by
 obtain⟨a,j,z,A,_,_⟩:=y.ex;have B:a.length=l.length:=by rw[<-j];simp
 have m:k<a.length:=by omega
 obtain⟨g,d,f1,h,q⟩:=Zg (l:=a) (λp=>fP p.1 p.2) (λ_=>rfl) (by decide) z B.symm k m;have n:a[k].1=l[k]:=by simp only[<-j,Av]
 have o:=A _ (iZ m);obtain⟨b,e,f⟩:=slice_form o;have i:w.ownsRow 0 69 3 a[k].2 a[k].1.f.length (cQ a[k].1.f):=o;have f:a[k].2=.slice b a[k].1.f.length e:=f;rw[f,n]at i;have r:=q 0 (by decide);have s:=q 1 (by decide);have t:=q 2 (by decide);have u:=q 3 (by decide);have x:=q 4 (by decide);rw[f,n]at r s t u x;exact⟨g,d,b,e,f1,h,r,s,t,u,x,B_.of i,i⟩
def NI{H:Type}{g:TypeId×Value->H}{s:Nat->Bool}{d:Bool}{a:Nat}{t:TypeId}{n:Nat}{j:List Value}{zs:List U}{p:List MemPlace}
 (u:P.underlying t=some (.array n e)) (v:P.underlying e=some .string) (k:P.cellsOf e=1) (l:P.cellsOf t=n)
 (h:DataW.trod g P w c s d a t j=some (.agg (zs.map λz=>.lit (.string z)),p)):j=zs.map λz=>Value.string ⟨z.toArray⟩:=by
 cases a with
 |zero=>simp[DataW.trod]at h
 |succ a=>
  simp only[DataW.trod,u,k,l,uz]at h;split at h
  .rename_i F;obtain⟨m,r,hx⟩:=Option.map_eq_some_iff.1 h;have f:m.map (·.1)=zs.map λz=>(DataW.lit (.string z):DataW H):=by
    have:=congrArg Prod.fst hx;simpa using this
   have x:m.length=n:=by simpa using Lib.mapM_length r
   have y:zs.length=n:=by
    have:=congrArg List.length f;simp at this;omega
   apply List.ext_getElem?;intro i;by_cases A:i<n
   .obtain⟨b,B,C⟩:=Lib.mapM_at r i i (by simp[A]);obtain⟨z,D,rfl,_⟩:=yG v C;have E:j[i]?=some (.string z):=by
     have:=congrArg (·[0]?) D;simpa[List.getElem?_take,List.getElem?_drop]using this
    have o:(m.map (·.1))[i]?=some (DataW.lit (.string z.data.toList):DataW H):=by simp[B]
    rw[f]at o;simp only[List.getElem?_map,Option.map_eq_some_iff,DataW.lit.injEq,Lit.string.injEq]at o;obtain⟨G,q,rfl⟩:=o;simp[E,q]
   rw[CM<|by omega,CM<|by simp;omega]
  cases h
theorem NJ : prog.globalNamed "markup/refs.names" = some 1 := by kernel_rfl
theorem Hg : prog.globalNamed "markup/refs.named" = some 2 := by kernel_rfl
theorem Zq:(prog.globals[1]?).map (·.type)=some 183:=by kernel_rfl
theorem Zr:(prog.globals[2]?).map (·.type)=some 186:=by kernel_rfl
theorem NK:prog.cellsOf 183=5:=by kernel_rfl
theorem Zs:prog.cellsOf 186=5:=by kernel_rfl
theorem Bj:prog.cellsOf 9=1:=by kernel_rfl
theorem DK:prog.cellsOf 3=1:=by kernel_rfl
def tables  (h : laidMetH prog [("markup/refs.names", Rows.laid_markup_refs_names), ("markup/refs.named", Rows.laid_markup_refs_named)] W) : Gl W ∧ 2 < W.heap.size := by
 have d : laidMet prog [("markup/refs.names", Rows.laid_markup_refs_names), ("markup/refs.named", Rows.laid_markup_refs_named)] W := h;have e : Lib.TabIs prog W "markup/refs.named" .i64 [60, 62, 38, 34, 39] := Lib.tabIs_of_head (rest := []) Hg Zr underlying186 underlying3 DK Zs d.tail;have j : W.var? prog "markup/refs.names" = some (([[108, 116, 59], [103, 116, 59], [97, 109, 112, 59], [113, 117, 111, 116, 59], [97, 112, 111, 115, 59]] : List U).map λz => Value.string ⟨z.toArray⟩).toArray := by
  obtain⟨k,⟨l,m,n,f,p,q,b,c,a,hd,_,_⟩,_⟩:=d;obtain rfl:=Option.some.inj (NJ.symm.trans b);obtain rfl:=Option.some.inj (Zq.symm.trans c);rw[a,<-NI (zs:=[[108,116,59],[103,116,59],[97,109,112,59],[113,117,111,116,59],[97,112,111,115,59]]) underlying183 underlying9 Bj NK hd]
 refine⟨⟨λi=>?_,λi=>?_⟩,?_⟩
 .rw[World.var?_cell NJ j i];simp[fG]
 .rw[World.var?_cell Hg e i];simp[fG]
 have:=e;unfold Lib.TabIs World.var? at this;rw[Hg]at this;simp only[Option.bind_some]at this;cases g:W.heap[2]? with
 |none=>rw[g]at this;cases this
 |some o=>exact(Array.getElem?_eq_some_iff.1 g).1
def Zt{g o:Nat}{x:Value}(h:W.cell? ⟨g,o,none⟩=some x):g<W.heap.size:=by
 unfold World.cell? at h;cases a:W.heap[g]? with
 |none=>simp[a]at h
 |some o=>exact(Array.getElem?_eq_some_iff.1 a).1
def Oa{H:Type}{a:TypeId×Value->H}{P:Program}(k:laidOutB P=true){W l:World}(m:Below W.heap.size W l){sp:Nat->Bool}:
 ∀{ts:List TypeId} {i:List Value} {j:List (DataW H)} {b:List MemPlace},(∀t∈ts,P.readableRec t=true/\t<P.types.size)->(∀q∈b,q.block<W.heap.size)->(∀q∈b,sp q.block=true)->
  DataW.TrodAll a P W 0 (λ_=>true) true ts i j b->DataW.TrodAll a P l 0 sp true ts i j b
 |[],[],[],_,_,_,_,h=>h
 |t::ts,v::i,d::j,b,n,c,f,⟨p,q,o,r,e⟩=>by
  subst e;refine⟨p,q,?_,Oa k m (λt g=>n t (iU _ g)) (λx hx=>c x (nS _ hx)) (λx hx=>f x (nS _ hx)) r,rfl⟩;have g:=n t jU;exact WideElems.Trod_stays k g.1 g.2 o (λx hx=>m.same (c x (oP _ hx))) λx hx=>f x (oP _ hx)
