import Derived.Test.YtmgfijllcdadgaaGreatDoorUW42
import Derived.Test.YtmgfijllcdadgaaGreatDoorUW36
set_option linter.all false
set_option maxHeartbeats 8000000
set_option maxRecDepth 100000
namespace Go.Proofs.YtmgfijllcdadgaaGreatDoor.U
open Go.RowKit
open V
open List
open Go.Proofs.Tryz
open Rf (lG fN lZ)
open Mk hiding Rf rest
variable {w d w3 w2 w' w1:World}{e:TypeId}{n c k i pb g2 cap K:Nat}{a:Option Addr}{l:List Row}{p' :Pl}{L' :Lay}{X:Nat->Prop}{s:Mk.Z}
def t_:Value->Value
 |.slice a _ c=>.slice a c c
 |v=>v
def ab5{b:Nat}{d:Nat}{m:List Value}(h:w.ownsRow b e d (.slice a n c) n m):iI w d a c 0 []/\(∀k,cB a k->b<=k/\k<w.heap.size):=by
 refine⟨?_,λk q=>World.ownsRow.lt h k<|by cases a with|none=>exact aj6 q mH|some x=>exact q⟩;obtain⟨f,_⟩|⟨g,o,i,f,y,p,r,s,t,_⟩:=h.2
 .injection f with j u l;subst j l;exact .nil _ _ _ _
 injection f with j u l;subst j l;exact⟨s,λ_=>⟨g,i,e,rfl,p,by omega,λq v=>by cases v⟩⟩
def sI(h:cB a k):(Value.slice a n c).ownBlock=some k:=by
 cases a with
 |none=>exact aj6 h mH
 |some x=>exact h
def Qf{x:Row}(h:(cZ (x::l)).Nodup){y:Row}(a:y∈l)(b:x.v.ownBlock=some k)(c:y.v.ownBlock=some k):False:=by
 rw[cZ,fF,b]at h;exact(nodup_cons.1 h).1 (mem_filterMap.2 ⟨y,a,c⟩)
def Qg(h:(cZ l).Nodup)(i:Nat):(cZ (l.drop i)).Nodup:=by
 unfold cZ at h⊢;exact h.sublist ((drop_sublist i l).filterMap _)
theorem DY:(prog.info? 63).map (λi=>(i.zero,i.size,i.bytes))=some (some (.slice none 0 0),1,24):=by kernel_rfl
section
variable {w:World}{O:Nat->Nat×Nat}{b:Nat}{pl:List (Pl×PA)}{pa:Option Addr}{pc:Nat}{fp:List Nat}{n0:Nat}{es:List (Ev×Value)}{aa:Option Addr}{ac:Nat}
def zE{r:Nat->Nat×Nat}{g:List HA}{s:Option Addr}{t:Nat}(h:WI d r b pl g pa pc s t)(u:c<=3){o:Nat}{x:List Value}(y:d.ownsRow o e (rP c) (.slice a n i) n x)(z:∀k,cB a k->r k=fr)(A:g.length<=17000000000000):
 Calls prog 68 #[.pointer (some ⟨b,0,none⟩),.pointer (some ⟨d.heap.size,0,none⟩)] (d.alloc (.cells (qC c (.slice a i i) 0) 120)) λe w' =>e=.returned (.tuple #[])/\∃p j l,WI w' p b pl (g++[⟨d.heap.size,c,a,i,i⟩]) pa pc j l/\eT (cB a) r p d w' :=by
 have m:=jG d (.cells (qC c (.slice a i i) 0) 120);obtain⟨B,v⟩:=ab5 y;refine(ab4 (h.below m) (dI d _) u (h.nw _ (a_ _)) (B.below m) (λk q=>⟨z k q,by have:=(v k q).2;omega,by have:=(v k q).2;simp;omega⟩) A).mono λe w' ⟨C,p,j,l,D,w⟩=>⟨C,p,j,l,D,?_⟩;refine⟨Ch.trans (.of_below m) w.ch λk E f=>?_,λk E f F=>w.tag k (by simp;omega) f λe=>?_⟩
 .rcases f with f|f|f
  .exact .inl f
  .omega
  exact .inr f
 obtain e|e:=e
 .omega
 exact F e
structure KI(w:World)(O:Nat->Nat×Nat)(b:Nat)(pl:List (Pl×PA))(pa:Option Addr)(pc:Nat)(fp:List Nat)(n0:Nat)(es:List (Ev×Value))(aa:Option Addr)(ac:Nat)(i:Nat)(wx:World)(O2:Nat->Nat×Nat)(hl2:List HA)(ha2:Option Addr)(hc2:Nat):Prop where
 wi:WI wx O2 b pl hl2 pa pc ha2 hc2
 len:hl2.length=n0+1+i
 ny:eT (· ∈fp) O O2 w wx
 row:wx.ownsRow w.heap.size 63 1 (.slice aa es.length ac) es.length (es.map λp=>t_ p.2)
 ro:∀k,cB aa k->O2 k=fr
 es:∀p∈es.drop i,(bR p).owned wx 0/\∀k,p.2.ownBlock=some k->O2 k=fr
def KI.next{n:World}{s O3:Nat->Nat×Nat}{g:List HA}{t gZ:Option Addr}{u hc3:Nat}(h:KI w O b pl pa pc fp n0 es aa ac i n s g t u)(v:i<es.length){m:Nat}(A:es[i].2=.slice a m c)(x:(cZ (es.map bR)).Nodup)(y:∀k∈cZ (es.map bR),k∈fp/\k<w.heap.size)
 (G:WI w3 O3 b pl (g++[⟨n.heap.size,1,a,c,c⟩]) pa pc gZ hc3) (j:eT (cB a) s O3 n w3):
 KI w O b pl pa pc fp n0 es aa ac (i+1) w3 O3 (g++[⟨n.heap.size,1,a,c,c⟩]) gZ hc3:=by
 have l:∀k,cB a k->k∈fp/\k<w.heap.size:=λk q=>y k (mem_filterMap.2 ⟨bR es[i],rZ (iZ v),by simp only[bR,A];exact sI q⟩);have d:∀k,k<n.heap.size->s k=fr->¬cB a k->w3.heap[k]?=n.heap[k]?/\O3 k=fr:=λk B C D=>⟨j.ch.block k B λe=>by obtain e|e:=e;exact e C;exact D e,j.tag k B C D⟩;have f:=Qg x i;rw[<-map_drop,gB v,lf]at f;have o:∀p∈es.drop (i+1),∀k,p.2.ownBlock=some k->¬cB a k:=λp r k q e=>Qf f (rZ r) (show es[i].2.ownBlock=some k by rw[A];exact sI e) q;refine⟨G,by rw[bT,h.len];simp;omega,h.ny.trans j λq I e=>(l q e).1,?_,λk q=>?_,λp r=>?_⟩
 .exact oG h.row λk q=>(d k (World.ownsRow.lt h.row k q).2 (h.ro k (pG q)) λe=>by have E:=(World.ownsRow.lt h.row k q).1;have H:=(l k e).2;omega).1
 .have E:=World.ownsRow.lt h.row k (sI q);exact(d k E.2 (h.ro k q) λe=>by have H:=(l k e).2;omega).2
 obtain⟨z,F⟩:=h.es p (by rw[gB v];exact iU _ r);exact⟨mo z λk q=>(d k (World.ownsRow.lt z k q).2 (F k q) (o p r k q)).1,λk q=>(d k (World.ownsRow.lt z k q).2 (F k q) (o p r k q)).2⟩
def KI.first{u:List HA}{f:World}{v:Nat->Nat×Nat}{G m:Option Addr}{H j:Nat}{l:List Ev}(x:WI w O b pl u pa pc G H)(o:∀k∈fp,O k=fr/\k<w.heap.size)(C:fJ w 0 (⟨65,5,.slice a es.length j,l.length,dU es⟩::es.map bR))(r:∀k∈cZ (⟨65,5,.slice a es.length j,l.length,dU es⟩::es.map bR),k∈fp)
 (y:Below w.heap.size w f) (hrow:f.ownsRow w.heap.size 63 1 (.slice aa es.length ac) es.length (es.map λp=>t_ p.2)) (z:WI w2 v b pl (u++[⟨f.heap.size,0,a,j,j⟩]) pa pc m n) (g:eT (cB a) O v f w2):
 KI w O b pl pa pc fp u.length es aa ac 0 w2 v (u++[⟨f.heap.size,0,a,j,j⟩]) m n:=by
 have s:∀k,cB a k->k∈fp:=λk q=>r k (mem_filterMap.2 ⟨_,jU,sI q⟩);have c:∀k,k<f.heap.size->O k=fr->¬cB a k->w2.heap[k]?=f.heap[k]?/\v k=fr:=λk D E F=>⟨g.ch.block k D λe=>by obtain e|e:=e;exact e E;exact F e,g.tag k D E F⟩;have t:∀k,cB aa k->k<f.heap.size/\O k=fr/\¬cB a k:=λk q=>by
  have d:=World.ownsRow.lt hrow k (sI q);exact⟨d.2,x.nw k d.1,λe=>by have:=(o k (s k e)).2;omega⟩
 refine⟨z,by simp,(eT.of_below (· ∈fp) y).trans g λq _ e=>s q e,oG hrow λk q=>?_,λk q=>?_,λp I=>?_⟩
 .obtain⟨d,A,B⟩:=t k (pG q);exact(c k d A B).1
 .obtain⟨d,A,B⟩:=t k q;exact(c k d A B).2
 have h:bR p∈es.map bR:=rZ I;have K:=C.own _ (iU _ h);have i:∀k,p.2.ownBlock=some k->k<w.heap.size/\O k=fr/\¬cB a k:=λk q=>by
  have d:=o k (r k (@uG [_] _ k (mem_filterMap.2 ⟨_,h,q⟩)));exact⟨d.2,d.1,λe=>Qf C.nd h (sI e) q⟩
 have L:=y.size;exact⟨mo K λk q=>((c k (by have:=(i k q).1;omega) (i k q).2.1 (i k q).2.2).1).trans (y.block k (i k q).1),λk q=>(c k (by have:=(i k q).1;omega) (i k q).2.1 (i k q).2.2).2⟩
theorem ab6(v:Value)(m:Int):qC 0 v m=#[v,.slice none 0 0,.slice none 0 0,.slice none 0 0,.int .i64 m]:=rfl
theorem ab7(v:Value)(m:Int):qC 1 v m=#[.slice none 0 0,v,.slice none 0 0,.slice none 0 0,.int .i64 m]:=rfl
theorem ab8(v:Value)(m:Int):qC 2 v m=#[.slice none 0 0,.slice none 0 0,v,.slice none 0 0,.int .i64 m]:=rfl
theorem Ew(v:Value)(m:Int):qC 3 v m=#[.slice none 0 0,.slice none 0 0,.slice none 0 0,v,.int .i64 m]:=rfl
def Qh{Q:List HA}{ha:Option Addr}{hc:Nat}{v:Value}{l:List Ev}(h:WI w O b pl Q pa pc ha hc)(hg:o_ w v l fp)(s:∀k∈fp,O k=fr/\k<w.heap.size)(hn:Q.length+l.length+1<=17000000000000)(au:l.length<=1000000000):
 Calls prog 69 #[.pointer (some ⟨b,0,none⟩),v] w λe w' =>e=.returned (.tuple #[])/\∃O' W av aw,WI w' O' b pl W pa pc av aw/\W.length=Q.length+l.length+1/\eT (· ∈fp) O O' w w' :=by
 obtain⟨es,x,C,h3⟩:=hg.ex;have D:es.length=l.length:=by rw[<-x];simp
 have E:=C.head;unfold Row.owned at E;dsimp only at E;rw[<-D]at E hn au;obtain⟨R,F,ax⟩:=iE E;subst ax;have ay:=C.nd;have az:=Y D;have z:=Y (ajN h (ajN s (ajN C h3)));have HC:=Y λk hk=>sD (l:=es) (λp=>fP p.1 p.2) (λ_=>rfl) (by decide) E rfl k hk;have HE:=Y λk (hk:k<es.length)=>C.own (bR es[k]) (iU _ (rZ (iZ hk)));have HN:Hid (w.ownsRow w.heap.size 63 1 (.slice none 0 0) 0 []):=lq _ _ _ _;have G:=Y E;obtain⟨i0,a0,a1,a2,a3⟩:=lg DY;clear h hg s x C h3 D E ay;go_enter func69,ntmps69;go_wp2_with fail;go_loopg [5,6] es.length λg s5 s6 wx=>∃(i:Nat) (aa:Option Addr) (ac:Nat),i<=es.length/\g=es.length - i/\s5=.slice aa i ac/\s6=.int .i64 i/\Hid (Below w.heap.size w wx/\wx.ownsRow w.heap.size 63 1 (.slice aa i ac) i ((es.take i).map λp=>t_ p.2));case atStart=>exact⟨0,none,0,dO _,rfl,rfl,rfl,Y ⟨Below.refl _ _,by simpa using HN.u⟩⟩
 case round=>
  obtain⟨i,aa,ac,hi,rfl,rfl,rfl,r⟩:=hrel;by_cases d:i<es.length
  .have e1:decide ((i:Int)<(es.length:Int))=true:=aj_;have e2:(i:Int)<(es.length:Int):=by omega
   obtain⟨g,c9,f1,f2,f3⟩:=HC.u i d;injection f1 with f1 _ b0;subst f1 b0;have f4:=f3 4 (by decide);rw[<-mG (r.u.1.block g f2)]at f4;have a4:g<wr.heap.size:=i_ f2 r.u.1.size;have H:=r.u.1.size;have hx:=HE.u i d;have a6:=Y (show i+1<=maxLen by unfold maxLen;omega);have hrow:(es.take (i+1)).map (λp=>t_ p.2)=((es.take i).map λp=>t_ p.2)++[t_ es[i].2]:=by rw[qM,l_ d,mP];rfl
   have A:=Y hrow;simp only[fP,List.getElem?_cons_succ,tH]at f4;obtain⟨f,hz⟩|⟨g', a,b1,f,_,_,a7,a8,_⟩:=hx.2
   .replace f:es[i].2=.slice none 0 0:=f;rw[f]at f4 A;have HO:=Y (r.u.2.alloc (.cells #[.slice none 0 0] 63));have HB:=Y (show(wr.alloc (.cells #[.slice none 0 0] 63)).heap[wr.heap.size]?=_ from dI wr _);have I:=Y (r.u.1.alloc H (.cells #[.slice none 0 0] 63));clear hx hz f3 HC HE hrow f r;go_wp2_with(at_builtin;refine lI _ rfl _ _ 109 rfl w.heap.size 63 i0 _ 1 24 underlying109 a0 a1 a2 a3 rfl (by decide) (.slice aa i ac) i ((es.take i).map λp=>t_ p.2) (by simp[Act.eval]) HO.u ⟨wr.heap.size,0,none⟩ 1 1 [.slice none 0 0] (by simp[Act.eval]) rfl (jT HB.u) (by simp[Value.oneCell']) (by decide) a6.u (by omega) (by simp;omega) (wr.heap.size+1) (by simp) ?_;intro g2 t w3 hown hgrow K a9;have HG:=Y (ajN (Gj I.u (by simp;omega) HO.u hgrow) hown);clear hown hgrow K);go_roundg (es.length - (i+1));case measure=>omega
    case rel=>exact⟨i+1,some ⟨g2,0,none⟩,t,by omega,rfl,rfl,by simp,Y ⟨HG.u.1,by rw[A.u];exact HG.u.2⟩⟩
   replace f:es[i].2=.slice (some ⟨g', 0,none⟩) es[i].1.f.length a:=f;rw[f]at f4 A;have HO:=Y (r.u.2.alloc (.cells #[.slice (some ⟨g', 0,none⟩) a a] 63));have HB:=Y (show(wr.alloc (.cells #[.slice (some ⟨g', 0,none⟩) a a] 63)).heap[wr.heap.size]?=_ from dI wr _);have I:=Y (r.u.1.alloc H (.cells #[.slice (some ⟨g', 0,none⟩) a a] 63));have b4:(es[i].1.f.length:Int)<=(a:Int):=by have:es[i].1.f.length<=a:=a7;omega
   have b3:a<=9223372036854775807:=a8;generalize es[i].1.f.length=al at *;clear hx a7 a8 f3 HC HE hrow f r;go_wp2_with(at_builtin;refine lI _ rfl _ _ 109 rfl w.heap.size 63 i0 _ 1 24 underlying109 a0 a1 a2 a3 rfl (by decide) (.slice aa i ac) i ((es.take i).map λp=>t_ p.2) (by simp[Act.eval]) HO.u ⟨wr.heap.size,0,none⟩ 1 1 [.slice (some ⟨g', 0,none⟩) a a] (by simp[Act.eval]) rfl (jT HB.u) (by simp[Value.oneCell']) (by decide) a6.u (by omega) (by simp;omega) (wr.heap.size+1) (by simp) ?_;intro g2 t w3 hown hgrow K a9;have HG:=Y (ajN (Gj I.u (by simp;omega) HO.u hgrow) hown);clear hown hgrow K);go_roundg (es.length - (i+1));case measure=>omega
   case rel=>exact⟨i+1,some ⟨g2,0,none⟩,t,by omega,rfl,rfl,by simp,Y ⟨HG.u.1,by rw[A.u];exact HG.u.2⟩⟩
  have e1:decide ((i:Int)<(es.length:Int))=false:=aj9;have e3:decide (i<es.length)=false:=aj9;obtain⟨j,hj⟩:∃j,j=i:=⟨i,rfl⟩;subst hj;have ab:=Y (show j=es.length by omega);rw[ab.u,tv]at r;obtain⟨ad,s,hR,ae⟩:=z.u;have hw:=ad.below r.u.1;have af:wr.ownsRow 0 65 (rP 0) (.slice R es.length F) es.length (dU es):=oG G.u λk q=>r.u.1.block k (World.ownsRow.lt G.u k q).2;have ag:∀k,cB R k->O k=fr:=λk q=>(s k (ae k (mem_filterMap.2 ⟨_,jU,sI q⟩))).1;have L:=Y (zE hw (by decide) af ag (by omega));have H:=r.u.1.size;have HW:=Y hw;have N:(R=none/\F=0/\es.length=0)\/∃g,R=some ⟨g,0,none⟩/\es.length<=F/\F<=9223372036854775807:=by
   obtain⟨x,C⟩|⟨g,a,b1,x,_,_,h4,h5,_⟩:=G.u.2
   .injection x with x _ h5;exact .inl ⟨x,h5,C⟩
   injection x with x _ h5;subst h5;exact .inr ⟨g,x,h4,by assumption⟩
  have b5:(es.length:Int)<=(F:Int):=by omega
  clear ad s hR ae hw af ag HC HE d hi;rw[ab6]at L;have X:∀w2 B m o,WI w2 B b pl (Q++[⟨wr.heap.size,0,R,F,F⟩]) pa pc m o->eT (cB R) O B wr w2->Hid (∃B P m o,KI w O b pl pa pc fp Q.length es aa ac 0 w2 B P m o):=λw2 B m o S T=>Y ⟨_,_,_,_,KI.first z.u.1 z.u.2.1 z.u.2.2.1 z.u.2.2.2 r.u.1 r.u.2 S T⟩;have ah:=Y X;clear X;obtain⟨rfl,rfl,-⟩|⟨g,rfl,b6,b7⟩:=N;all_goals
   go_wp2_with fail;go_call L.u as e w2 ⟨rfl,B,m,o,ai,aj⟩;have ak:=ah.u w2 B m o ai aj;clear ai aj L r HW ah;go_wp2_with fail;go_loopg [8] es.length (λg s8 wx=>∃i:Nat,i<=es.length/\g=es.length - i/\s8=.int .i64 i/\Hid (∃B P m o,KI w O b pl pa pc fp Q.length es aa ac i wx B P m o));case atStart=>exact⟨0,dO _,rfl,rfl,ak⟩
   case round=>
    obtain⟨i,hi,rfl,rfl,HJ⟩:=hrel;clear ak;by_cases d:i<es.length
    .try(exfalso;omega)
     all_goals
      have e1:decide ((i:Int)<(es.length:Int))=true:=aj_;have e2:(i:Int)<(es.length:Int):=by omega
      have e4:(i:Int)<(j:Int):=by have:=ab.u;omega
      obtain⟨O4,am,an,ao,y⟩:=HJ.u;obtain⟨ho,hf⟩:=y.es es[i] (by rw[gB d];exact jU);unfold Row.owned at ho;obtain⟨a5,c5,f⟩:=iE ho;rw[f]at ho;have ap:=y.len;replace f:es[i].2=.slice a5 (bR es[i]).n c5:=f;have L:=Y (zE y.wi (c:=1) (by decide) ho (λk q=>hf k<|by rw[f];exact sI q) (by omega));rw[ab7]at L;obtain⟨g6,rfl,a4,aq⟩:=xO (xo y.row (dO _)) d;rw[show(es.map λp=>t_ p.2)[i]?=some (.slice a5 c5 c5) by simp[d,f,t_]]at aq;have ar:=Y λw3 O3 gZ hc3 S T=>y.next (w3:=w3) (O3:=O3) (gZ:=gZ) (hc3:=hc3) d f (Qg z.u.2.2.1.nd 1) (λk q=>⟨z.u.2.2.2 k (@uG [_] _ k q),(z.u.2.1 k (z.u.2.2.2 k (@uG [_] _ k q))).2⟩) S T;clear y ho hf f HJ ap;go_wp2_with fail;go_call L.u as e w3 ⟨rfl,O3,gZ,hc3,S,T⟩;have b2:=Y (ar.u w3 O3 gZ hc3 S T);clear S T ar L aq a4;go_wp2_with fail;go_roundg (es.length - (i+1));case measure=>omega
      case rel=>exact⟨i+1,by omega,rfl,by simp,Y ⟨_,_,_,_,b2.u⟩⟩
    have e1:decide ((i:Int)<(es.length:Int))=false:=aj9;have e3:decide (i<es.length)=false:=aj9;rw[show i=es.length by omega]at HJ;go_wp2_with fail;go_end0
    obtain⟨O4,am,an,ao,y⟩:=HJ.u;exact⟨rfl,O4,am,an,ao,y.wi,by rw[y.len,<-az.u];omega,y.ny⟩
end
def sJ(O:Nat->Nat×Nat)(i a:Nat)(f:List Nat):Nat->Nat×Nat:=λk=>if k∈f then(4,i)else if O k=(4,i)/\k≠a then fr else O k
section
variable {w w' :World}{O:Nat->Nat×Nat}{b:Nat}{pl:List (Pl×PA)}{hl:List HA}{pa ha:Option Addr}{pc hc:Nat}
def WI.old(h:WI w O b pl hl pa pc ha hc)(q:O k≠fr):k<w.heap.size:=by
 by_cases e:k<w.heap.size
 .exact e
 exact aj6 (h.nw k<|by omega) q
def WI.upd(h:WI w O b pl hl pa pc ha hc)(G:i<pl.length)(m:Ch (λk=>k=pl[i].2.xb\/k=pl[i].2.pb\/k∈aY pl[i].1.s pl[i].2.L) w w')
 (hx:w'.heap[pl[i].2.xb]?=some (.cells (ju p' pl[i].2.pb) 57 (0,0))) (C:bC w' pl[i].2.pb p'.s L') (H:∀k∈aY p'.s L', k∈aY pl[i].1.s pl[i].2.L\/w.heap.size<=k):
 WI w' (sJ O i pl[i].2.pb (aY p'.s L')) b (pl.set i (p', ⟨pl[i].2.xb,pl[i].2.pb,L'⟩)) hl pa pc ha hc/\eT (λ_=>False) O (sJ O i pl[i].2.pb (aY p'.s L')) w w' /\
  ∀k,k∉aY p'.s L' ->k≠pl[i].2.pb->(k∈aY pl[i].1.s pl[i].2.L\/w.heap.size<=k)->sJ O i pl[i].2.pb (aY p'.s L') k=fr:=by
 have f:=h.ps i G;generalize I:pl[i].2=A at *;generalize K:pl[i].1=p at *;have D:∀k,k∈aY p'.s L' ->O k=(4,i)\/O k=fr:=λk q=>by
  obtain q|q:=H k q
  .exact .inl (f.of k q)
  exact .inr (h.nw k q)
 have n:∀k x y,O k=(x,y)->x<7->(x,y)≠(4,i)->sJ O i A.pb (aY p'.s L') k=O k:=λk x y e o t=>by
  unfold sJ
  rw[M (λq=>by
   obtain q|q:=D k q
   .exact t (e.symm.trans q)
   exact lz o (e.symm.trans q)),M λq=>t (e.symm.trans q.1)]
 have r:∀k x y,O k=(x,y)->x<7->(x,y)≠(4,i)->(x,y)≠(3,i)->w'.heap[k]?=w.heap[k]?:=λk x y e o t E=>by
  refine m.block k (h.old<|by rw[e];exact lz o) λq=>?_;obtain q|q|q:=q
  .exact E (e.symm.trans (q▸f.ox))
  .exact t (e.symm.trans (q▸f.op))
  exact t (e.symm.trans (f.of k q))
 have F:sJ O i A.pb (aY p'.s L') A.pb=(4,i):=by
  unfold sJ;rw[M C.nb,M λq=>q.2 rfl];exact f.op
 have a:∀x y:Nat,(x≠4\/y≠i)->(x,y)≠(4,i):=λx y q e=>by injection e with g l;obtain q|q:=q;exact q g;exact q l
 have c:∀x y:Nat,(x≠3\/y≠i)->(x,y)≠(3,i):=λx y q e=>by injection e with g l;obtain q|q:=q;exact q g;exact q l
 have u:qD (pl.set i (p', ⟨A.xb,A.pb,L'⟩))=qD pl:=by
  rw[qD,map_set];have g:(pl.map λp=>Value.pointer (some ⟨p.2.xb,0,none⟩))[i]'(by simpa using G)=.pointer (some ⟨A.xb,0,none⟩):=by simp[I]
  rw[<-g];exact set_getElem_self _
 refine⟨⟨?_,?_,?_,λk q=>?_,?_,λk q=>?_,λj z=>?_,λj z=>?_,λk q=>?_⟩,⟨?_,λk B d _=>?_⟩,λk B d v=>?_⟩
 .rw[r b 0 0 h.ob (by decide) (a _ _ (.inl<|by decide)) (c _ _ (.inl<|by decide)),AP];exact h.blk
 .exact(n b 0 0 h.ob (by decide) (a _ _ (.inl<|by decide))).trans h.ob
 .rw[u,AP];exact oG h.pr λk q=>r k 1 0 (h.po k (pG q)) (by decide) (a _ _ (.inl<|by decide)) (c _ _ (.inl<|by decide))
 .exact(n k 1 0 (h.po k q) (by decide) (a _ _ (.inl<|by decide))).trans (h.po k q)
 .exact oG h.hr λk q=>r k 2 0 (h.ho k (pG q)) (by decide) (a _ _ (.inl<|by decide)) (c _ _ (.inl<|by decide))
 .exact(n k 2 0 (h.ho k q) (by decide) (a _ _ (.inl<|by decide))).trans (h.ho k q)
 .by_cases e:i=j
  .subst e;rw[getElem_set_self];exact⟨hx,(n _ 3 i f.ox (by decide) (a _ _ (.inl<|by decide))).trans f.ox,C,F,λk q=>by unfold sJ;rw[J q],f.lo⟩
  rw[getElem_set_ne e];rw[AP]at z;exact(h.ps j z).keep λk B d=>by
   obtain d|d:=d
   .exact⟨r k _ _ d (by decide) (a _ _ (.inl<|by decide)) (c _ _ (.inr λl=>e l.symm)),n k _ _ d (by decide) (a _ _ (.inl<|by decide))⟩
   exact⟨r k _ _ d (by decide) (a _ _ (.inr λl=>e l.symm)) (c _ _ (.inl<|by decide)),n k _ _ d (by decide) (a _ _ (.inr λl=>e l.symm))⟩
 .exact(h.hs j z).keep (λk B d=>by obtain d|d:=d<;>exact⟨r k _ _ d (by decide) (a _ _ (.inl<|by decide)) (c _ _ (.inl<|by decide)),n k _ _ d (by decide) (a _ _ (.inl<|by decide))⟩) h.nw
 .have g:=h.nw k (cL m.size q);unfold sJ;rwa[M λe=>by have:=(C.jh k e).2;omega,M λe=>by rw[g]at e;cases e.1]
 .refine m.wide λk _ q=>.inl ?_;obtain q|q|q:=q
  .rw[q,f.ox];exact lz
  .rw[q,f.op];exact lz
  rw[f.of k q];exact lz
 .unfold sJ
  rw[M (λe=>by
   obtain e|e:=H k e
   .have:=f.of k e;rw[d]at this;cases this
   omega),M λe=>by rw[d]at e;cases e.1]
  exact d
 unfold sJ;rw[M B];obtain v|v:=v
 .rw[J ⟨f.of k v,d⟩]
 have g:=h.nw k v;rwa[M λe=>by rw[g]at e;cases e.1]
end
def sK(O:Nat->Nat×Nat)(n a b c:Nat)(f:List Nat):Nat->Nat×Nat:=λk=>if k=a then(3,n)else if k=b\/k∈f then(4,n)else if k=c then(1,0)else O k
section
variable {w:World}{O:Nat->Nat×Nat}{b:Nat}{pl:List (Pl×PA)}{hl:List HA}{pa ha:Option Addr}{pc hc:Nat}
def WI.more(h:WI w O b pl hl pa pc ha hc){W:World}{xb:Nat}{p:Pl}{L:Lay}(d:Ch (cB pa) w W)(hx:W.heap[xb]?=some (.cells (ju p pb) 57 (0,0)))(Q:w.heap.size<=xb)(r:bC W pb p.s L)(R:w.heap.size<=pb)(g:∀k∈aY p.s L,w.heap.size<=k)
 (t:xb≠pb) (u:xb∉aY p.s L) (v:cB pa g2\/(w.heap.size<=g2/\g2≠xb/\g2≠pb/\g2∉aY p.s L)) (hrow:W.ownsRow 0 54 1 (.slice (some ⟨g2,0,none⟩) (pl.length+1) cap) (pl.length+1) (qD pl++[.pointer (some ⟨xb,0,none⟩)])) (z:2+1<pb):
 WI (W.setCell ⟨b,0,none⟩ (.slice (some ⟨g2,0,none⟩) (pl.length+1) cap)) (sK O pl.length xb pb g2 (aY p.s L)) b (pl++[(p,⟨xb,pb,L⟩)]) hl (some ⟨g2,0,none⟩) cap ha hc/\eT (λ_=>False) O (sK O pl.length xb pb g2 (aY p.s L)) w (W.setCell ⟨b,0,none⟩ (.slice (some ⟨g2,0,none⟩) (pl.length+1) cap)):=by
 have A:=gY h.blk;have H:g2<W.heap.size:=(World.ownsRow.lt hrow g2 rfl).2;have a:g2<w.heap.size->O g2=(1,0):=λq=>by obtain e|e:=v;exact h.po g2 e;omega
 have B:g2≠xb:=λe=>by
  obtain q|q:=v
  .have:=h.old (k:=g2) (by rw[h.po g2 q];exact lz);omega
  exact q.2.1 e
 have C:¬(g2=pb\/g2∈aY p.s L):=λe=>by
  obtain q|q:=v
  .have l:=h.old (k:=g2) (by rw[h.po g2 q];exact lz);obtain e|e:=e
   .omega
   have:=g _ e;omega
  obtain e|e:=e
  .exact q.2.2.1 e
  exact q.2.2.2 e
 have D:g2≠b:=λe=>by
  have l:=a (by omega);rw[e,h.ob]at l;cases l
 have f:∀k,k<w.heap.size->sK O pl.length xb pb g2 (aY p.s L) k=if k=g2 then(1,0)else O k:=λk q=>by
  unfold sK
  rw[M,M (λe=>by
   obtain e|e:=e
   .omega
   have:=g k e;omega)]
 have I:∀k,O k≠fr->sK O pl.length xb pb g2 (aY p.s L) k=O k:=λk q=>by
  have m:=h.old q;rw[f k m];by_cases e:k=g2
  .rw[J e,e];exact(a (e▸m)).symm
  rw[M e]
 have K:∀k x y,O k=(x,y)->x<7->x≠0->x≠1->(W.setCell ⟨b,0,none⟩ (.slice (some ⟨g2,0,none⟩) (pl.length+1) cap)).heap[k]?=w.heap[k]?:=λk x y e n E l=>by
  rw[n_ W ⟨b,0,none⟩ k _ λ(q:k=b)=>by rw[q,h.ob]at e;cases e;exact E rfl];refine d.block k (h.old<|by rw[e];exact lz n) λq=>?_;have:=h.po k q;rw[e]at this;cases this;exact l rfl
 have F:∀k x y,O k=(x,y)->x<7->x≠0->x≠1->(W.setCell ⟨b,0,none⟩ (.slice (some ⟨g2,0,none⟩) (pl.length+1) cap)).heap[k]?=w.heap[k]?/\sK O pl.length xb pb g2 (aY p.s L) k=O k:=λk x y e n E l=>⟨K k x y e n E l,I k<|by rw[e];exact lz n⟩;have G:W.heap[b]?=_:=(d.block b A λe=>by have:=h.po b e;rw[h.ob]at this;cases this).trans h.blk;refine⟨⟨?_,(I b<|by rw[h.ob];exact lz).trans h.ob,?_,λk q=>?_,?_,λk q=>?_,λi N=>?_,λj S=>?_,λk q=>?_⟩,⟨?_,λk m c _=>?_⟩⟩
 .rw[rY W b 0 _ _ _ G,bT];rfl
 .have P:(pl++[(p,(⟨xb,pb,L⟩:PA))]).length=pl.length+1:=by simp
  have o:qD (pl++[(p,(⟨xb,pb,L⟩:PA))])=qD pl++[.pointer (some ⟨xb,0,none⟩)]:=by simp[qD]
  rw[P,o];exact oG hrow λk q=>n_ W ⟨b,0,none⟩ k _ λe=>D ((vT.1 (pG q)).trans e)
 .have e:=vT.1 q;subst e;unfold sK;rw[M B,M C,J rfl]
 .exact oG h.hr λk q=>K k 2 0 (h.ho k (pG q)) (by decide) (by decide) (by decide)
 .exact(F k 2 0 (h.ho k q) (by decide) (by decide) (by decide)).2.trans (h.ho k q)
 .by_cases e:i<pl.length
  .rw[LG e];exact(h.ps i e).keep λk m c=>by obtain c|c:=c<;>exact F k _ _ c (by decide) (by decide) (by decide)
  have o:i=pl.length:=by rw[bT]at N;simp at N;omega
  subst o;rw[Db (a_ _)];simp only[Nat.sub_self,wR]
  refine⟨(n_ W ⟨b,0,none⟩ xb _ (show xb≠b by omega)).trans hx,by unfold sK;rw[J rfl],r.keep λk q=>n_ W ⟨b,0,none⟩ k _ (show k≠b from λe=>by
   obtain q|q:=q
   .omega
   have:=g k q;omega),by unfold sK;rw[M (Ne.symm t),J (.inl rfl)],λk q=>by unfold sK;rw[M (show k≠xb from λe=>u (e▸q)),J (.inr q)],z⟩
 .exact(h.hs j S).keep (λk m c=>by obtain c|c:=c<;>exact F k _ _ c (by decide) (by decide) (by decide)) h.nw
 .have P:W.heap.size<=k:=by simpa using q
  have o:=d.size;have X:=gY hx;have e4:=r.lt;unfold sK
  rw[M,M (λe=>by
   obtain e|e:=e
   .omega
   have:=(r.jh k e).2;omega),M]
  exact h.nw k (by omega)
 .refine d.wide (T:=λk=>O k≠fr\/False) ?_ |>.trans (T:=λk=>k=b) ⟨rfl,rfl,rfl,by simp,λk _ q=>n_ W ⟨b,0,none⟩ k _ q⟩ λk _ q=>.inl (by rw[q,h.ob];exact lz)
  intro k _ q;exact .inl (by rw[h.po k q];exact lz)
 rwa[f k m,M λe=>by have:=a (e▸m);rw[<-e,c]at this;cases this]
end
def kV(a b c:Int)(d:Bool):Pl:=⟨a,b,c,d,bB a b c d,[],0⟩
theorem acv:(prog.info? 54).map (λi=>(i.zero,i.size,i.bytes))=some (some (.pointer none),1,8):=by kernel_rfl
def Jh(w:World)(O:Nat->Nat×Nat)(b:Nat)(pl:List (Pl×PA))(hl:List HA)(ha:Option Addr)(hc:Nat)(f:List Pl)(w' :World):Prop:=∃e a c d,WI w' e b a hl c d ha hc/\eT (λ_=>False) O e w w' /\a.map (·.1)=pl.map (·.1)++f
section
variable {w:World}{O:Nat->Nat×Nat}{b:Nat}{pl:List (Pl×PA)}{hl:List HA}{pa ha:Option Addr}{pc hc:Nat}
def acw(h:WI w O b pl hl pa pc ha hc){X:World}{f g i:Int}{j:Bool}(l:X.grownBy d (Value.slice pa pl.length pc).ownBlock)(a:Below w.heap.size w w2)(m:bC w2 pb (bB f g i j) (L0 pb))(y:w.heap.size<pb)(z:2<w.heap.size)(n:Below w2.heap.size w2 X)(hx:X.heap[w2.heap.size]?=some (.cells (ju (kV f g i j) pb) 57 (0,0)))(A:X.heap.size=w2.heap.size+1+1)
 (hown:d.ownsRow 0 54 1 (.slice (some ⟨g2,0,none⟩) (pl.length+1) cap) (pl.length+1) (qD pl++[.pointer (some ⟨w2.heap.size,0,none⟩)])) (r:(Value.slice pa pl.length pc).ownBlock=some g2\/g2=w2.heap.size+1+1):
 Jh w O b pl hl ha hc [kV f g i j] (d.setCell ⟨b,0,none⟩ (.slice (some ⟨g2,0,none⟩) (pl.length+1) cap)):=by
 have B:=a.size;have E:=l.size;have C:=m.lt;have o:∀k,cB pa k->k<w.heap.size:=λk q=>h.old (by rw[h.po k q];exact lz);have s:∀k,k<X.heap.size->¬cB pa k->d.heap[k]?=X.heap[k]?:=λk t u=>l.block k t λe=>u (pG e.symm);have c:∀k∈aY (bB f g i j) (L0 pb),k=pb - 1:=λk q=>by rw[Bi]at q;exact mem_singleton.1 q
 have v:bC d pb (bB f g i j) (L0 pb):=m.keep λk q=>by
  have D:k<w2.heap.size/\w.heap.size<=k:=by
   obtain q|q:=q
   .omega
   have:=c k q;omega
  exact(s k (by omega) λe=>by have:=o k e;omega).trans (n.block k D.1)
 have x:=h.more (W:=d) (xb:=w2.heap.size) (pb:=pb) (g2:=g2) (cap:=cap) (p:=kV f g i j) (L:=L0 pb) ⟨l.os.trans (n.os.trans a.os),l.tape.trans (n.tape.trans a.tape),l.output.trans (n.output.trans a.output),by omega,λk t u=>(s k (by omega) u).trans ((n.block k<|by omega).trans (a.block k t))⟩
  ((s _ (by omega) λe=>by have:=o _ e;omega).trans hx) B v (by omega) (λk q=>by have:=c k q;omega) (by omega) (λq=>by have:=c _ q;omega) (by
   obtain q|q:=r
   .exact .inl (pG q)
   exact .inr ⟨by omega,by omega,by omega,λe=>by have:=c _ e;omega⟩) hown (by omega)
 exact⟨_,_,_,_,x.1,x.2,by simp⟩
def Qq(h:WI w O b pl hl pa pc ha hc)(c d f:Int)(i:Bool)(Q:2<w.heap.size)(hn:pl.length<=1000000000000):
 Calls prog 24 #[.pointer (some ⟨b,0,none⟩),.agg #[.int .i64 c,.int .i64 d,.int .i64 f,.bool i]] w λe w' =>e=.returned (.bool true)/\Jh w O b pl hl ha hc (if lG c d f then[kV c d f i]else[]) w' :=by
 have HA:=Y (I_ c d f i);have B:=Y h;obtain⟨y,z,s⟩:=bN h.blk;cases t:lG c d f with
 |false=>
  rw[t]at HA;have N:=Y (Ja c d f i t);clear h y z s;go_enter func24,ntmps24;go_wp2_with fail;go_call(N.u _)as e w1 ⟨rfl,m⟩;obtain⟨j,n⟩:=vX m;obtain⟨v,x,o⟩:=bN j;have a:=Y n;clear m n j;go_wp2_with fail;go_call(HA.u _)as e w2 ⟨rfl,g⟩;have l:=Y (a.u.trans (g.mono a.u.size));clear g a v x o;go_wp2_with fail;go_ret;exact⟨rfl,O,pl,pa,pc,B.u.below l.u,eT.of_below _ l.u,by simp⟩
 |true=>
  obtain⟨d1,d2,a1,a2,t1,t2⟩:=BL t;rw[t]at HA;have N:=Y (GZ c d f i d1 d2 a1 a2 t1 t2);obtain⟨i0,hi,R,S,T⟩:=lg acv;clear h y z s d1 d2 a1 a2 t1 t2;go_enter func24,ntmps24;go_wp2_with fail;go_call(N.u _)as e w1 ⟨p,rfl,C,m,D⟩;obtain⟨j,n⟩:=vX m;obtain⟨v,x,o⟩:=bN j;have E:w.heap.size<p:=by simp at C;omega
  have a:=Y (ajN n D);clear m n D C N;go_wp2_with fail;go_call(HA.u _)as e w2 ⟨rfl,g⟩;have r:=a.u.1.trans (g.mono a.u.1.size);have F:bC w2 p (bB c d f i) (L0 p):=a.u.2.keep λk q=>g.block k (by obtain rfl|q:=q;exact a.u.2.lt;exact(a.u.2.jh k q).2);have G:=(g.block _ o).trans (show _ from j);clear v x o;obtain⟨v,x,o⟩:=bN G;obtain⟨y,z,s⟩:=bN (B.u.below r).blk;have l:=Y (ajN r F);have H:=(B.u.below r).pr;have W:=Y ((H.alloc (.cells (ju (kV c d f i) p) 57)).alloc (.cells #[.pointer (some ⟨w2.heap.size,0,none⟩)] 54))
  have A:=Y (show((w2.alloc (.cells (ju (kV c d f i) p) 57)).alloc (.cells #[.pointer (some ⟨w2.heap.size,0,none⟩)] 54)).heap[w2.heap.size+1]?=some (.cells #[.pointer (some ⟨w2.heap.size,0,none⟩)] 54 (0,0))from by
   have q:=dI (w2.alloc (.cells (ju (kV c d f i) p) 57)) (.cells #[.pointer (some ⟨w2.heap.size,0,none⟩)] 54)
   rw[show(w2.alloc (.cells (ju (kV c d f i) p) 57)).heap.size=w2.heap.size+1 by simp]at q
   exact q)
  have I:=Y (show((w2.alloc (.cells (ju (kV c d f i) p) 57)).alloc (.cells #[.pointer (some ⟨w2.heap.size,0,none⟩)] 54)).heap[w2.heap.size]?=some (.cells (ju (kV c d f i) p) 57 (0,0))from(dG _ _ _<|by simp).trans (dI w2 _));have a0:=Y (show pl.length+1<=maxLen by unfold maxLen;omega);have K:=B.u.below r;have H3:=Y λ(X w3:World) (hX:X.heap=((w2.alloc (.cells (ju (kV c d f i) p) 57)).alloc (.cells #[.pointer (some ⟨w2.heap.size,0,none⟩)] 54)).heap) (q:X.grownBy w3 (Value.slice pa pl.length pc).ownBlock)=>(q.block b (by rw[hX];simp;omega) λe=>by have q2:=K.po b (pG e.symm);rw[K.ob]at q2;cases q2).trans ((congrArg (·[b]?) hX).trans ((dG _ _ _<|by simp;omega).trans ((dG _ _ _ s).trans K.blk)));have HW:=Y K;clear K;unfold ju kV at W A H3;clear g r F j G a HA H;go_wp2_with fail;go_region_law (refine tC _ rfl _ _ 49 rfl 0 54 i0 _ 1 8 underlying49 hi R S T rfl (by decide) (.slice pa pl.length pc) pl.length (qD pl) (by simp[Act.eval]) W.u ⟨w2.heap.size+1,0,none⟩ 1 1 [.pointer (some ⟨w2.heap.size,0,none⟩)] (by simp[Act.eval]) rfl (jT A.u) (by simp[Value.oneCell']) (by decide) a0.u (by omega) (dO _) (w2.heap.size+1+1) (by simp) ?_;intro g2 a4 w3 hown hgrow L a3;obtain⟨a5,a6,a7⟩:=bN (H3.u _ w3 (by rfl) hgrow);have P:=Y (ajN hown (ajN hgrow L));clear hown hgrow L);all_goals
   have hf:=acw B.u P.u.2.1 l.u.1 l.u.2 E Q (by have q:=xM w2 (.cells (ju (kV c d f i) p) 57) (.cells #[.pointer (some ⟨w2.heap.size,0,none⟩)] 54);exact⟨q.os,q.tape,q.output,q.size,q.block⟩) I.u (by simp) P.u.1 P.u.2.2;have HF:=Y hf;clear hf P l A W H3 HW I;go_wp2_with fail;go_ret;exact⟨rfl,HF.u⟩
end
structure Gt(w:World)(O:Nat->Nat×Nat):Prop where
 gl:Gl w
 gr:gQ w
 lt:2<w.heap.size
 fr:∀k,k<=2->O k=fr
def Ri(h:Gl w)(a:∀k,k<=2->w'.heap[k]?=w.heap[k]?):Gl w' :=
 ⟨λi=>(mG (a _<|by decide)).trans (h.names i),λi=>(mG (a _<|by decide)).trans (h.named i)⟩
def Gt.ny{O a:Nat->Nat×Nat}(h:Gt w O)(m:eT X O a w w')(b:∀k,k<=2->¬X k):Gt w' a:=by
 have hl:=h.lt;have c:∀k,k<=2->w'.heap[k]?=w.heap[k]?:=λk q=>m.ch.block k (by omega) λe=>by
  obtain e|e:=e
  .exact e (h.fr k q)
  exact b k q e
 exact⟨Ri h.gl c,h.gr.keep (c _<|by decide),i_ h.lt m.ch.size,λk q=>m.tag k (by omega) (h.fr k q) (b k q)⟩
structure jA(K:Nat)(p:Pl):Prop where
 d1:1<=p.od
 d2:p.od<=64
 a1:0<=p.oa
 a2:p.oa<=32
 t1:8<=p.S
 t2:p.S<=1024
 inv:Inv (12*K) p.s
 jv:0<=p.s.A
 tT:p.s.A<=K
 fd:p.aU.length<=K
 w:p.s.j=0->W p.s
 sd:p.s.od<=64
 st:p.s.S<=1024
def kD(p:Pl):Pl×Bool:=
 if p.said=0 then(if(fN p.od p.oa p.S p.on p.aU).whole then({p with s:=(jd p.s).1,said:=10},(jd p.s).2==0)else({p with s:=(jd p.s).1,said:=9},(jd p.s).2==9))else({p with s:=(jd p.s).1},(jd p.s).2==p.said)
def uT(p:Pl):Bool:=p.s.K==(fN p.od p.oa p.S p.on p.aU).K&&p.s.aN==(fN p.od p.oa p.S p.on p.aU).aN
def EK(w:World)(O:Nat->Nat×Nat)(b:Nat)(pl:List (Pl×PA))(hl:List HA)(pa:Option Addr)(pc:Nat)(ha:Option Addr)(hc i:Nat)(c:Pl)(w' :World):Prop:=∃a A,WI w' a b (pl.set i (c,A)) hl pa pc ha hc/\eT (λ_=>False) O a w w'
def adV(l m n:Int)(o:Bool)(w:World):Calls prog 30 #[.agg #[.int .i64 l,.int .i64 m,.int .i64 n,.bool o]] w λe w' =>e=.returned (.bool true)/\Below w.heap.size w w' :=by
 have HA:=Y (I_ l m n o);cases g:lG l m n with
 |false=>
  rw[g]at HA;have p:=Y (Ja l m n o g);go_enter func30,ntmps30;go_wp2_with fail;go_call(p.u _)as e z ⟨rfl,b⟩;obtain⟨c,d⟩:=vX b;obtain⟨h,i,j⟩:=bN c;have a:=Y d;clear b d c;go_wp2_with fail;go_call(HA.u _)as e w2 ⟨rfl,f⟩;have k:=Y (a.u.trans (f.mono a.u.size));clear f a h i j;go_wp2_with fail;go_ret;exact⟨rfl,k.u⟩
 |true=>
  obtain⟨r,s,t,v,x,y⟩:=BL g;rw[g]at HA;have p:=Y (GZ l m n o r s t v x y);clear r s t v x y;go_enter func30,ntmps30;go_wp2_with fail;go_call(p.u _)as e z ⟨B,rfl,A,b,q⟩;obtain⟨c,d⟩:=vX b;obtain⟨h,i,j⟩:=bN c;have a:=Y d;clear b d c q;go_wp2_with fail;go_call(HA.u _)as e w2 ⟨rfl,f⟩;have k:=Y (a.u.trans (f.mono a.u.size));clear f a h i j;go_wp2_with fail;go_ret;exact⟨rfl,k.u⟩
section
variable {w:World}{O:Nat->Nat×Nat}{b:Nat}{pl:List (Pl×PA)}{hl:List HA}{pa ha:Option Addr}{pc hc:Nat}
def WI.BV(h:WI w O b pl hl pa pc ha hc)(c:i<pl.length):pl[i].2.xb≠pl[i].2.pb/\pl[i].2.xb∉aY pl[i].1.s pl[i].2.L:=by
 have a:=h.ps i c;refine⟨λe=>?_,λe=>?_⟩
 .have:=a.ox;rw[e,a.op]at this;cases this
 have:=a.of _ e;rw[a.ox]at this;cases this
def WI.moved(h:WI w O b pl hl pa pc ha hc)(f:i<pl.length){s' :Mk.Z}(a:Mv w pl[i].2.pb (aY pl[i].1.s pl[i].2.L) w1 s' L')(c:Below w1.heap.size w1 w'):EK w O b pl hl pa pc ha hc i {pl[i].1 with s:=s' } w' :=by
 have hx:=h.BV f;have g:=h.ps i f;have m:bC w' pl[i].2.pb s' L' :=a.X.keep λk q=>c.block k (by obtain q|q:=q;exact q▸a.X.lt;exact(a.X.jh k q).2);have d:=gY g.blk;have q:=h.upd f (p' :={pl[i].1 with s:=s' }) (L' :=L') (w' :=w') ⟨c.os.trans a.fr.os,c.tape.trans a.fr.tape,c.output.trans a.fr.output,cL a.fr.size c.size,λk j l=>(c.block k (i_ j a.fr.size)).trans (a.fr.block k j (λe=>l (.inr (.inl e))) λe=>l (.inr (.inr e)))⟩
  ((c.block _ (i_ d a.fr.size)).trans ((a.fr.block _ d hx.1 hx.2).trans g.blk)) m a.fr.aY
 exact⟨_,_,q.1,q.2.1⟩
def WI.said(h:WI w O b pl hl pa pc ha hc){i:Nat}(f:i<pl.length){w1 w' :World}{s' :Mk.Z}{L' :Lay}(e:Int)(a:Mv w pl[i].2.pb (aY pl[i].1.s pl[i].2.L) w1 s' L')(c:Below w1.heap.size w1 w'):EK w O b pl hl pa pc ha hc i {pl[i].1 with s:=s', said:=e} (w'.setCell ⟨pl[i].2.xb,6,none⟩ (.int .i64 e)):=by
 have hx:=h.BV f;have m:=h.ps i f;have d:=gY m.blk;have g:=(c.block _ (i_ d a.fr.size)).trans ((a.fr.block _ d hx.1 hx.2).trans m.blk);have j:∀k,k=pl[i].2.pb\/k∈aY s' L' ->k≠pl[i].2.xb:=λk q e=>by
  subst e;obtain q|q:=q
  .exact hx.1 q
  obtain q|q:=a.fr.aY _ q
  .exact hx.2 q
  omega
 have o:bC (w'.setCell ⟨pl[i].2.xb,6,none⟩ (.int .i64 e)) pl[i].2.pb s' L' :=a.X.keep λk q=>(n_ w' ⟨pl[i].2.xb,6,none⟩ k _ (j k q)).trans (c.block k<|by obtain q|q:=q;exact q▸a.X.lt;exact(a.X.jh k q).2);have q:=h.upd f (p' :={pl[i].1 with s:=s', said:=e}) (L' :=L') (w' :=w'.setCell ⟨pl[i].2.xb,6,none⟩ (.int .i64 e)) ⟨c.os.trans a.fr.os,c.tape.trans a.fr.tape,c.output.trans a.fr.output,by have:=a.fr.size;have:=c.size;simp;omega,λk n l=>(n_ w' ⟨pl[i].2.xb,6,none⟩ k _ λe=>l (.inl e)).trans ((c.block k (i_ n a.fr.size)).trans (a.fr.block k n (λe=>l (.inr (.inl e))) λe=>l (.inr (.inr e))))⟩
  (rY w' _ 6 _ _ _ g) o a.fr.aY
 exact⟨_,_,q.1,q.2.1⟩
def Rj(h:WI w O b pl hl pa pc ha hc)(G:i<pl.length)(n:jA K pl[i].1)(hK:K<=100000000)(hG:Gt w O):
 Calls prog 26 #[.pointer (some ⟨pl[i].2.xb,0,none⟩)] w λe w' =>e=.returned (.bool (kD pl[i].1).2)/\EK w O b pl hl pa pc ha hc i (kD pl[i].1).1 w' :=by
 have v:=h.ps i G;have HW:=Y (ajN h (ajN G (ajN hG n)));have H:=Y (NC v.X);obtain⟨d,f,c⟩:=bN v.blk;have hx:=h.BV G;have HX:=Y v.blk;have a3:=Y hx;have I:=Y λw1 w' L' =>h.moved G (w1:=w1) (w' :=w') (s' :=(jd pl[i].1.s).1) (L' :=L');have x:=Y λw1 w' L' e=>h.said G (w1:=w1) (w' :=w') (s' :=(jd pl[i].1.s).1) (L' :=L') e;obtain⟨N,a⟩:=aj8 (kD pl[i].1);rw[<-a];unfold kD at a;have HR:=Y λ(W:World) (hb:gQ W)=>V.tP (on:=pl[i].1.on) n.d1 n.d2 n.a1 n.a2 n.t1 n.t2 (show pl[i].1.aU.length<=100000000 by have:=n.fd;omega) W hb;have a4:=v.X.lt;have C:=v.X.jh;have a5:=Y (ajN v.lo C);have y:=Y λ(w1:World) (s' :Mk.Z) (L' :Lay) (l:Mv w pl[i].2.pb (aY pl[i].1.s pl[i].2.L) w1 s' L')=>(show gQ w1 from hG.gr.keep (l.fr.block _ (by have:=hG.lt;omega) (by have:=v.lo;omega) λe=>by have:=(C _ e).1;have:=v.lo;omega));have m:=Y λ(w1:World) (s' :Mk.Z) (L' :Lay) (l:Mv w pl[i].2.pb (aY pl[i].1.s pl[i].2.L) w1 s' L')=>(l.fr.block _ c hx.1 hx.2).trans v.blk;unfold ju at d m;clear h n hG v hx C a4 a5 HW HX a3;generalize pl[i]=q at *;obtain⟨⟨od,oa,ot,on,st,aU,said⟩,⟨xb,pb,L⟩⟩:=q;clear G;dsimp only at a d f c H I x HR y m⊢;generalize P:(jd st).2=ce at *;generalize Q:(jd st).1=cs at *;have R:jd st=(cs,ce):=by rw[<-P,<-Q]
 rw[R]at H;clear R P Q;by_cases hs:said=0
 .subst hs;rw[J rfl]at a;have e0:((0:Int) !=0)=false:=rfl;generalize fN od oa ot on aU=A at *;have HF:=Y a;clear a;go_enter func26,ntmps26;go_wp2_with fail;go_call H.u as e w1 ⟨rfl,B,l⟩;clear d f c;obtain⟨d,f,c⟩:=bN (m.u w1 _ B l);have D:=Y λ(W:World) (hb:Below w1.heap.size w1 W)=>HR.u W ((y.u w1 _ B l).below hb);have a6:∀o j,(w1.alloc o).cell? ⟨xb,j,none⟩=(#[.pointer (some ⟨pb,0,none⟩),.int .i64 od,.int .i64 oa,.int .i64 ot,.bool on,.string ⟨aU.toArray⟩,.int .i64 0]:Array Value)[j]?:=λo j=>by rw[<-d j];exact mG (dG _ _ _ c)
  have S:=Y (m.u w1 _ B l);have HM:=Y l;clear l H HR y m;go_wp2_with fail;go_cut [4] λs4 wx=>Hid (zF w1 wx s4 A)
  case first=>
   have E:Below w1.heap.size w1 w1.drew:=⟨rfl,rfl,rfl,a_ _,λ_ _=>rfl⟩;have a7:∀o,Below w1.heap.size w1 (w1.alloc o).drew:=λo=>⟨rfl,rfl,rfl,by simp,λk n=>dG _ _ _ n⟩
   go_region_with (go_at_call 45;first
    |(go_call(D.u _ E)as e w4 ⟨v4,rfl,p,r⟩;obtain⟨ea,ec,z,oc,rfl,t⟩:=EA (W0:=w1) (W:=w1.drew) E p r;have a8:=Ey w4 A ea ec z oc;have HO:=Y t;clear t p r)
    |(go_call(D.u _ (a7 _))as e w4 ⟨v4,rfl,p,r⟩;obtain⟨ea,ec,z,oc,rfl,HZ,t⟩:=EB (W0:=w1) (W:=w1.drew) E p r;have a8:=Ez w4 w1.heap.size A ea ec z oc HZ;have HO:=Y t;clear t p r HZ))
   all_goals
    go_wp2_with fail;go_meet
    exact HO
  case rest=>
  obtain⟨g,ea,ec,z,oc,rfl,hg,T,-,F⟩:=hcut.u;rename World=>w2;obtain⟨a9,aa,ab⟩:=bN T;unfold mJ at a9;have X:=(F.block _ c).trans S.u;clear d f c T hcut a6;obtain⟨d,f,c⟩:=bN X;have HB:=Y F;clear F D X S;cases a0:A.whole with
  |true=>
   have hf:N=({od:=od,oa:=oa,S:=ot,on:=on,s:=cs,aU:=aU,said:=10},ce==0):=by rw[HF.u,a0];rfl
   clear HF;subst hf;go_wp2_with fail;go_ret;exact⟨rfl,x.u w1 _ B 10 HM.u HB.u⟩
  |false=>
   have hf:N=({od:=od,oa:=oa,S:=ot,on:=on,s:=cs,aU:=aU,said:=9},ce==9):=by rw[HF.u,a0];rfl
   clear HF;subst hf;go_wp2_with fail;go_ret;exact⟨rfl,x.u w1 _ B 9 HM.u HB.u⟩
 rw[M hs]at a;subst a;have e0:(said !=0)=true:=by simpa using hs
 clear hs HR x y;go_enter func26,ntmps26;go_wp2_with fail;go_call H.u as e w1 ⟨rfl,B,l⟩;clear d f c;obtain⟨d,f,c⟩:=bN (m.u w1 _ B l);have HM:=Y l;clear l H;go_wp2_with fail;go_ret;exact⟨rfl,I.u w1 _ B HM.u (Below.refl _ _)⟩
end
def uU(p:Pl):Bool:=decide (p.s.I=(fN p.od p.oa p.S p.on p.aU).I)
def sP(w:World)(O:Nat->Nat×Nat)(b:Nat)(pl:List (Pl×PA))(n:Nat)(pa:Option Addr)(pc:Nat)(w' :World):Prop:=∃e a c d,WI w' e b pl a pa pc c d/\a.length=n/\eT (λ_=>False) O e w w'
section
variable {w:World}{O:Nat->Nat×Nat}{b:Nat}{pl:List (Pl×PA)}{hl:List HA}{pa ha:Option Addr}{pc hc:Nat}
def adW(h:WI w O b pl hl pa pc ha hc)(hi:i<pl.length)(r:jA K pl[i].1)(hK:K<=100000000)(hG:Gt w O):
 Calls prog 49 #[.pointer (some ⟨pl[i].2.xb,0,none⟩)] w λe w' =>e=.returned (.bool (uT pl[i].1))/\Below w.heap.size w w' :=by
 have F:=h.ps i hi;have Q:=Y (Go.Proofs.YtmgfijllcdadgaaGreatDoor.G_ F.X);have G:=Y F.blk;obtain⟨c,s,f⟩:=bN F.blk;obtain⟨z,a⟩:=aj8 (uT pl[i].1);rw[<-a];unfold uT at a;have R:=Y λ(W:World) (S:Below w.heap.size w W)=>V.tP (on:=pl[i].1.on) r.d1 r.d2 r.a1 r.a2 r.t1 r.t2 (show pl[i].1.aU.length<=100000000 by have:=r.fd;omega) W (hG.gr.below S);unfold ju at c;clear h r hG F;generalize pl[i]=q at *;obtain⟨⟨od,oa,ot,on,st,aU,B⟩,⟨xb,pb,L⟩⟩:=q;clear hi;dsimp only at a c s f Q R G⊢;generalize fN od oa ot on aU=A at *;have H:=Y a;clear a;go_enter func49,ntmps49;go_wp2_with fail;go_call Q.u as e d ⟨rfl,nq,rfl⟩;clear c s f;have l:=V.below_drewN w nq;have C:=(l.block _ (gY G.u)).trans G.u;obtain⟨c,s,f⟩:=bN C;unfold ju at c;have v:=Y λ(W:World) (S:Below (w.drewN nq).heap.size (w.drewN nq) W)=>R.u W (l.trans (S.mono l.size));have x:=Y l;clear C Q R G l;generalize w.drewN nq=d at *;have T:∀o j,(d.alloc o).cell? ⟨xb,j,none⟩=(#[.pointer (some ⟨pb,0,none⟩),.int .i64 od,.int .i64 oa,.int .i64 ot,.bool on,.string ⟨aU.toArray⟩,.int .i64 B]:Array Value)[j]?:=λo j=>by rw[<-c j];exact mG (dG _ _ _ f)
 go_wp2_with fail;go_cut [5] λs5 wx=>Hid (zF d wx s5 A)
 case first=>
  have y:Below d.heap.size d d.drew:=⟨rfl,rfl,rfl,a_ _,λ_ _=>rfl⟩;have X:∀o,Below d.heap.size d (d.alloc o).drew:=λo=>⟨rfl,rfl,rfl,by simp,λk r=>dG _ _ _ r⟩
  go_region_with (go_at_call 45;first
   |(go_call(v.u _ y)as e w4 ⟨v4,rfl,m,n⟩;obtain⟨I,N,t,P,rfl,p⟩:=EA (W0:=d) (W:=d.drew) y m n;have a0:=Ey w4 A I N t P;have HO:=Y p;clear p m n)
   |(go_call(v.u _ (X _))as e w4 ⟨v4,rfl,m,n⟩;obtain⟨I,N,t,P,rfl,HZ,p⟩:=EB (W0:=d) (W:=d.drew) y m n;have a0:=Ez w4 d.heap.size A I N t P HZ;have HO:=Y p;clear p m n HZ))
  all_goals
   go_wp2_with fail;go_meet
   exact HO
 case rest=>
 obtain⟨g,I,N,t,P,rfl,hg,D,-,E⟩:=hcut.u;rename World=>w2;obtain⟨a3,a4,a5⟩:=bN D;unfold mJ at a3;have HB:=Y (x.u.trans (E.mono x.u.size));clear c s f D hcut T E v x;generalize a6:(st.K==A.K)=c1 at *;cases c1
 .have hf:z=false:=by rw[H.u];rfl
  clear H;subst hf;go_wp2_with fail;go_ret;exact⟨rfl,HB.u⟩
 have hf:z=(st.aN==A.aN):=by rw[H.u];rfl
 clear H;subst hf;go_wp2_with fail;go_ret;exact⟨rfl,HB.u⟩
end
section
variable {w:World}{O:Nat->Nat×Nat}{b:Nat}{pl:List (Pl×PA)}{hl:List HA}{pa ha:Option Addr}{pc hc:Nat}
def EL(a:Bool)(l m:List U)(i:Nat)(S:Bool):Prop:=(S=true->l.length=m.length/\a=decide (l.drop i=m.drop i))/\(S=false->a=false)
def EL.step{a:Bool}{l m:List U}(h:EL a l m i true)(c:i<l.length)(d:i<m.length):EL a l m (i+1) (l[i]==m[i]):=by
 obtain⟨f,b⟩:=h.1 rfl;rw[gB c,gB d]at b;refine⟨λq=>⟨f,?_⟩,λq=>?_⟩
 .have e:l[i]=m[i]:=by simpa using q
  rw[b];exact decide_eq_decide.2 (by rw[e];simp only[List.cons.injEq,true_and])
 have e:l[i]≠m[i]:=by simpa using q
 rw[b];exact pV λq=>e (List.cons.inj q).1
def Rk{O' :Nat->Nat×Nat}{hl' :List HA}{ha' :Option Addr}{hc' :Nat}(f:Below w.heap.size w d)(i:∀k,w.heap.size<=k->O k=fr)(c:∀k,cB a k->w.heap.size<=k)(g:WI w' O' b pl hl' pa pc ha' hc')(h:eT (cB a) O O' d w'):sP w O b pl hl'.length pa pc w' :=
 ⟨O', hl', ha', hc', g,rfl,(eT.of_below _ f).trans h λq j e=>by have:=c q e;omega⟩
def adX(h:WI w O b pl hl pa pc ha hc)(hi:i<pl.length)(f:jA K pl[i].1)(hK:K<=7000000)(hG:Gt w O)(hn:hl.length<=17000000000000):
 Calls prog 50 #[.pointer (some ⟨b,0,none⟩),.pointer (some ⟨pl[i].2.xb,0,none⟩)] w λe w' =>e=.returned (.bool (uU pl[i].1))/\sP w O b pl (hl.length+1) pa pc w' :=by
 have hP:=h.ps i hi;have HC:=Y (Go.Proofs.YtmgfijllcdadgaaGreatDoor.Zp hP.X<|by have:=f.inv.ho;omega);have HX:=Y hP.blk;have HW:=Y h;obtain⟨l,D,r⟩:=bN hP.blk;obtain⟨I,d⟩:=aj8 (uU pl[i].1);rw[<-d];unfold uU at d;have HR:=Y λ(W:World) (hb:Below w.heap.size w W)=>V.tP (on:=pl[i].1.on) f.d1 f.d2 f.a1 f.a2 f.t1 f.t2 (show pl[i].1.aU.length<=100000000 by have:=f.fd;omega) W (hG.gr.below hb);have ab:pl[i].1.s.I.length<=1000000000:=by have:=f.inv.ho;omega
 unfold ju at l;clear h f hG hP;generalize pl[i]=q at *;obtain⟨⟨od,oa,ot,on,st,aU,a7⟩,⟨xb,pb,L⟩⟩:=q;clear hi;dsimp only at d l D r HC HR HX ab⊢;generalize fN od oa ot on aU=A at *;have HF:=Y d;clear d;generalize st.I=a at *;go_enter func50,ntmps50;go_wp2_with fail;go_call HC.u as e m ⟨na,H,rfl,hrow,t⟩;clear l D r;have a8:=(t.block _ (gY HX.u)).trans HX.u;obtain⟨l,D,r⟩:=bN a8;unfold ju at l;have N:=Y λ(W:World) (hb:Below m.heap.size m W)=>HR.u W (t.trans (hb.mono t.size));have v:=Y (ajN t hrow);clear a8 HC HR HX t hrow;have ad:∀o j,(m.alloc o).cell? ⟨xb,j,none⟩=(#[.pointer (some ⟨pb,0,none⟩),.int .i64 od,.int .i64 oa,.int .i64 ot,.bool on,.string ⟨aU.toArray⟩,.int .i64 a7]:Array Value)[j]?:=λo j=>by rw[<-l j];exact mG (dG _ _ _ r)
 go_wp2_with fail;go_cut [6] λs6 wx=>Hid (zF m wx s6 A)
 case first=>
  have P:Below m.heap.size m m.drew:=⟨rfl,rfl,rfl,a_ _,λ_ _=>rfl⟩;have ae:∀o,Below m.heap.size m (m.alloc o).drew:=λo=>⟨rfl,rfl,rfl,by simp,λk f=>dG _ _ _ f⟩
  go_region_with (go_at_call 45;first
   |(go_call(N.u _ P)as e w4 ⟨v4,rfl,z,B⟩;obtain⟨ea,ec,E,oc,rfl,C⟩:=EA (W0:=m) (W:=m.drew) P z B;have af:=Ey w4 A ea ec E oc;have HO:=Y C;clear C z B)
   |(go_call(N.u _ (ae _))as e w4 ⟨v4,rfl,z,B⟩;obtain⟨ea,ec,E,oc,rfl,HZ,C⟩:=EB (W0:=m) (W:=m.drew) P z B;have af:=Ez w4 m.heap.size A ea ec E oc HZ;have HO:=Y C;clear C z B HZ))
  all_goals
   go_wp2_with fail;go_meet
   exact HO
 case rest=>
 obtain⟨g,ea,ec,E,oc,rfl,hg,a9,hL,Q⟩:=hcut.u;rename World=>w2;obtain⟨ag,ai,aj⟩:=bN a9;unfold mJ at ag;have aa:=v.u.1.trans (Q.mono v.u.1.size);have p:w2.ownsRow w.heap.size 9 1 (.slice na a.length H) a.length (a.map sv):=oG v.u.2 λk q=>Q.block k (World.ownsRow.lt v.u.2 k q).2;have HB:=Y (ajN aa (ajN p hL.nm));have ak:A.I.length<=9223372036854775807:=sF hL.nm;have R:=Y λk (f:k<a.length)=>xO (i:=k) (xo p (dO _)) f;have T:=Y λk (f:k<A.I.length)=>xO (i:=k) (xo hL.nm (dO _)) f;clear l D r a9 hcut ad Q N v hL aa p;go_wp2_with fail;go_loopg [7,8] a.length λg7 s7 s8 wx=>∃(i:Nat) (S:Bool),i<=a.length/\g7=a.length - i/\s7=.bool S/\s8=.int .i64 i/\Hid (EL I a A.I i S)/\∃n,wx=w2.drewN n;case atStart=>
  refine⟨0,_,dO _,rfl,rfl,rfl,Y ⟨λq=>⟨by have X:=q;simp at X;omega,by rw[HF.u];rfl⟩,λq=>?_⟩,0,rfl⟩;have:a.length≠A.I.length:=by have X:=q;simp at X;omega
  rw[HF.u];simp;intro e;exact this (by rw[e])
 case round=>
  obtain⟨i,S,hi,rfl,rfl,rfl,HN,nd,rfl⟩:=hrel;by_cases F:i<a.length;focus
   have e1:decide ((i:Int)<(a.length:Int))=true:=aj_;have e2:(i:Int)<(a.length:Int):=by omega
   cases S;focus
    have hf:I=false:=HN.u.2 rfl;have e3:decide (i<a.length)=true:=aj_
   rotate_left
   .have ah:=(HN.u.1 rfl).1;obtain⟨g1,rfl,l1,c1⟩:=R.u i F;obtain⟨g2,rfl,l2,c2⟩:=T.u i (by omega);have e4:(i:Int)<(A.I.length:Int):=by omega
    have hs:=HN.u.step F (by omega);rw[show(a.map sv)[i]?=some (.string ⟨a[i].toArray⟩) by simp[sv,F]]at c1;rw[show(A.I.map sv)[i]?=some (.string ⟨(A.I[i]'(by omega)).toArray⟩) by simp[sv]]at c2;have HS:=Y hs;clear HN hs R T;generalize a[i]=x at *;generalize A.I[i]'_=y at *;clear ah;go_wp2_with fail;go_quiet(fail);go_wp2_with fail;go_roundg (a.length - (i+1));case measure=>omega
    case rel=>exact⟨i+1,_,by omega,rfl,rfl,by simp,HS,nd+nq,by first|rfl|rw[uO]⟩
  rotate_left;focus
   have e1:decide ((i:Int)<(a.length:Int))=false:=aj9;have e3:decide (i<a.length)=false:=aj9;have hf:I=S:=by
    cases S with
    |false=>exact HN.u.2 rfl
    |true=>
     have X:=HN.u.1 rfl;rw[X.2,iF,iF];rfl
  all_goals
   clear R T HN HF;subst hf;have a0:=HB.u.1.trans ((V.below_drewN w2 nd).mono HB.u.1.size);have G:(w2.drewN nd).ownsRow w.heap.size 9 (rP 2) (.slice na a.length H) a.length (a.map sv):=oG HB.u.2.1 λk _=>by rw[heap_drewN]
   have a3:∀k,cB na k->w.heap.size<=k:=λk q=>(World.ownsRow.lt G k (sI q)).1;have HK:=Y (zE (HW.u.below a0) (c:=2) (by decide) G (λk q=>HW.u.nw k (a3 k q)) hn);rw[ab8]at HK;have HT:=Y λw5 O5 a4 a5=>Rk (w' :=w5) (O' :=O5) (ha' :=a4) (hc' :=a5) (hl' :=hl++[⟨(w2.drewN nd).heap.size,2,na,H,H⟩]) (pl:=pl) (pa:=pa) (pc:=pc) (b:=b) a0 HW.u.nw a3;have a6:(na=none/\H=0/\a.length=0)\/∃g1,na=some ⟨g1,0,none⟩/\a.length<=H/\H<=9223372036854775807:=by
    obtain⟨h1,h2⟩|⟨g1,al,am,h1,_,_,h4,h5,_⟩:=G.2
    .injection h1 with h1 _ h5;exact .inl ⟨h1,h5,h2⟩
    injection h1 with h1 _ h5;subst h5;exact .inr ⟨g1,h1,h4,by assumption⟩
   have an:(a.length:Int)<=(H:Int):=by omega
   clear a0 G a3 HB hi;obtain⟨rfl,rfl,-⟩|⟨g1,rfl,ao,ap⟩:=a6;all_goals try(exfalso;omega)
   all_goals
    clear F;go_wp2_with fail;go_call HK.u as e w5 ⟨rfl,O5,a4,a5,q1,q2⟩;have HD:=Y (HT.u w5 O5 a4 a5 q1 q2);clear q1 q2 HT HK;go_wp2_with fail;go_ret;refine⟨rfl,?_⟩;have X:=HD.u;rwa[bT]at X
end
def qh(s:Mk.Z):U:=if s.j=0 then Mk.rest s else[]
def uV(p:Pl):Bool:=if p.said=0 then Rf.vK p.od p.oa p.S p.on p.aU (qh p.s)else qh p.s==[]
def adY{b:Nat}{L:Lay}(h:bC w b s L)(g:s.j=0->W s)(i:Bd s)(hd:s.od<=64)(j:s.S<=1024)(f:Gl w)(k:2<w.heap.size):
 Calls prog 74 #[.pointer (some ⟨b,0,none⟩)] w λe w' =>∃a c,e=.returned (.slice a (qh s).length c)/\qE w w' (.slice a (qh s).length c) (qh s):=by
 by_cases d:s.j=0
 .have e:qh s=Mk.rest s:=by unfold qh;rw[J d]
  rw[e];exact adU h d (g d) i hd j f k
 have e:qh s=[]:=by unfold qh;rw[M d]
 rw[e];have hc:=h.cell;have l:=h.lt;have m:(s.j !=0)=true:=by simpa using d
 unfold cellsOf at hc;clear h d e f;go_enter func74,ntmps74;go_wp2_with fail;go_ret;exact⟨none,0,rfl,Below.refl _ _,lq _ _ _ _⟩
def adZ(a:s.j=0->W s)(hd:s.od<=64)(b:s.S<=1024):(qh s).length<=70000:=by
 unfold qh;split
 .rename_i h;exact(Rh (a h) hd b).1
 simp
section
variable {w:World}{O:Nat->Nat×Nat}{b:Nat}{pl:List (Pl×PA)}{hl:List HA}{pa ha:Option Addr}{pc hc:Nat}
def sP.below{n:Nat}{a w2:World}(h:sP w O b pl n pa pc a)(f:Below a.heap.size a w2):sP w O b pl n pa pc w2:=by
 obtain⟨g,c,d,e,i,j,k⟩:=h;exact⟨g,c,d,e,i.below f,j,k.trans (eT.of_below (λ_=>False) f) λ_ _ q=>q⟩
def ad0(h:WI w O b pl hl pa pc ha hc)(R:i<pl.length)(g:jA K pl[i].1)(hK:K<=7000000)(H:Gt w O)(hn:hl.length<=17000000000000):
 Calls prog 51 #[.pointer (some ⟨b,0,none⟩),.pointer (some ⟨pl[i].2.xb,0,none⟩)] w λe w' =>e=.returned (.bool (uV pl[i].1))/\sP w O b pl (hl.length+1) pa pc w' :=by
 have S:=h.ps i R;have T:=Y (adY S.X g.w (Inv.bd g.inv<|by omega) g.sd g.st H.gl H.lt);have X:=Y h;have a0:=adZ g.w g.sd g.st;obtain⟨n,x,y⟩:=bN S.blk;obtain⟨a7,a⟩:=aj8 (uV pl[i].1);rw[<-a];unfold uV at a;have HR:=Y λ(W:World) (hb:gQ W)=>abW (on:=pl[i].1.on) (rest:=qh pl[i].1.s) g.d1 g.d2 g.a1 g.a2 g.t1 g.t2 (show pl[i].1.aU.length+(qh pl[i].1.s).length<=100000000 by have:=g.fd;omega) W hb;have HG:=Y H;have o:=Y λ(f:World) (p:Nat->Nat×Nat) (a3:List HA) (j:Option Addr) (l:Nat) (q:WI f p b pl a3 pa pc j l)=>(q.ps i R).blk;unfold ju at n o;clear h g H S;generalize pl[i]=q at *;obtain⟨⟨od,oa,ot,on,st,aU,t⟩,⟨xb,pb,L⟩⟩:=q;clear R;dsimp only at a n x y T HR o a0⊢;have I:=Y a;clear a;generalize qh st=z at *;go_enter func51,ntmps51;go_wp2_with fail;go_call T.u as e w1 ⟨E,C,rfl,d⟩;have a4:=vC d.row;have r:∀k,cB E k->w.heap.size<=k:=λk q=>(World.ownsRow.lt d.row k (sI q)).1;have HK:=Y (zE (X.u.below d.cH) (c:=3) (by decide) d.row (λk q=>X.u.nw k (r k q)) hn);rw[Ew]at HK;have HT:=Y λf p j l=>Rk (w' :=f) (O' :=p) (ha' :=j) (hc' :=l) (hl' :=hl++[⟨w1.heap.size,3,E,C,C⟩]) (pl:=pl) (pa:=pa) (pc:=pc) (b:=b) d.cH X.u.nw r;have F:=Y (λf p (q:eT (cB E) O p w1 f)=>(HG.u.ny ((eT.of_below (λ_=>False) d.cH)) λ_ _ e=>e).ny q λk v h2=>by have:=r k h2;have:=HG.u.lt;omega);have A:(E=none/\C=0/\z.length=0)\/∃N,E=some ⟨N,0,none⟩/\z.length<=C/\C<=9223372036854775807:=by
  obtain⟨v,h2⟩|⟨N,a8,a9,v,_,_,h4,P,_⟩:=d.row.2
  .injection v with v _ P;exact .inl ⟨v,P,h2⟩
  injection v with v _ P;subst P;exact .inr ⟨N,v,h4,by assumption⟩
 have aa:(z.length:Int)<=(C:Int):=by omega
 clear d r T n x y HG;obtain⟨rfl,rfl,-⟩|⟨N,rfl,ab,ad⟩:=A;all_goals
  go_wp2_with fail;go_call HK.u as e f ⟨rfl,p,j,l,q1,q2⟩;have HD:=HT.u f p j l q1 q2;rw[bT]at HD;have G:=Y HD;obtain⟨n,x,y⟩:=bN (o.u f p _ j l q1);have B:=Y λ(W:World) (hb:Below f.heap.size f W)=>HR.u W ((F.u f p q2).gr.below hb);clear q1 q2 HT HK HD o HR a4 F;by_cases Q:t=0
  .subst Q;have D:=I.u;rw[J rfl]at D;have e0:((0:Int) !=0)=false:=rfl;rw[<-D]at B;clear I D;have a5:Below f.heap.size f f.drew:=⟨rfl,rfl,rfl,a_ _,λ_ _=>rfl⟩;go_wp2_with fail;go_region_with (go_at_call 75;go_call(B.u _ a5)as e w6 ⟨rfl,m⟩;have a6:=Y (show Below f.heap.size f w6 from⟨m.os,m.tape,m.output,m.size,m.block⟩);clear m);all_goals
    go_wp2_with fail;go_ret;exact⟨rfl,G.u.below a6.u⟩
  have D:=I.u;rw[M Q]at D;subst D;have e0:(t !=0)=true:=by simpa using Q
  clear I Q B;go_wp2_with fail;go_ret;refine⟨?_,G.u⟩;first
   |rfl
   |exact mU (by cases z<;>rfl)
end
def jH(p:Pl)(s:U):Pl×Bool:=
 if p.said=0 then({p with s:=(dM p.s s).1,said:=(Rf.aU p.od p.oa p.S p.on p.aU s).err,aU:=(p.aU++s).take (Rf.aU p.od p.oa p.S p.on p.aU s).A},lZ (dM p.s s).2.1 (Rf.aU p.od p.oa p.S p.on p.aU s).y&&(dM p.s s).2.2==(Rf.aU p.od p.oa p.S p.on p.aU s).err)
 else({p with s:=(dM p.s s).1},lZ (dM p.s s).2.1 []&&(dM p.s s).2.2==p.said)
section
variable {w:World}{O:Nat->Nat×Nat}{b:Nat}{pl:List (Pl×PA)}{hl:List HA}{pa ha:Option Addr}{pc hc:Nat}
def eT.agm{a:Nat->Prop}{i d:Nat->Nat×Nat}{e:World}(h:eT X O i w w')(k:eT a i d w' e)(j:∀q,q<w.heap.size->O q=fr->a q->X q):eT X O d w e:=
 ⟨h.ch.trans k.ch λq b f=>by
  by_cases c:O q=fr
  .by_cases g:X q
   .exact .inr g
   obtain f|f:=f
   .exact aj6 (h.tag q b c g) f
   exact .inr (j q b c f)
  exact .inl c,
  λq b c g=>k.tag q (i_ b h.ch.size) (h.tag q b c g) λl=>g (j q b c l)⟩
def agn(h:WI w O b pl hl pa pc ha hc)(p:i<pl.length){W:World}{fp:List Nat}(d:Below w.heap.size w w1)(c:Mv w1 pl[i].2.pb (aY pl[i].1.s pl[i].2.L) w2 p'.s L')(a:Below w2.heap.size w2 w3)
 (r:W.heap[pl[i].2.xb]?=some (.cells (ju p' pl[i].2.pb) 57 (0,0))) (f:∀k,k≠pl[i].2.xb->W.heap[k]?=w3.heap[k]?) (C:W.heap.size=w3.heap.size) (j:W.os=w3.os/\W.tape=w3.tape/\W.output=w3.output)
 (t:∀k∈fp,(pl[i].2.pb<=k+1/\k≠pl[i].2.pb)/\k<w2.heap.size/\k∉aY p'.s L' /\(k∈aY pl[i].1.s pl[i].2.L\/w1.heap.size<=k)):
 ∃o A,WI W o b (pl.set i (p', A)) hl pa pc ha hc/\eT (λ_=>False) O o w W/\(∀k∈fp,o k=fr/\k<W.heap.size/\W.heap[k]?=w2.heap[k]?)/\A.xb=pl[i].2.xb/\∀k,w.heap.size<=k->k<w1.heap.size->o k=fr/\k<W.heap.size/\W.heap[k]?=w1.heap[k]?:=by
 have u:=h.ps i p;have hx:=h.BV p;have D:=gY u.blk;have N:=d.size;have P:=c.fr.size;have Q:=a.size;have v:∀k∈aY pl[i].1.s pl[i].2.L,k<w.heap.size:=λk q=>(u.X.jh k q).2;have E:=u.X.lt;have x:∀k,k=pl[i].2.pb\/k∈aY p'.s L' ->k≠pl[i].2.xb:=λk q e=>by
  subst e;obtain q|q:=q
  .exact hx.1 q
  obtain q|q:=c.fr.aY _ q
  .exact hx.2 q
  omega
 have F:bC W pl[i].2.pb p'.s L' :=c.X.keep λk q=>(f k (x k q)).trans (a.block k<|by obtain q|q:=q;exact q▸c.X.lt;exact(c.X.jh k q).2);have G:∀k∈aY p'.s L', k∈aY pl[i].1.s pl[i].2.L\/w.heap.size<=k:=λk q=>by
  obtain q|q:=c.fr.aY k q
  .exact .inl q
  exact .inr (by omega)
 have y:Ch (λk=>k=pl[i].2.xb\/k=pl[i].2.pb\/k∈aY pl[i].1.s pl[i].2.L) w W:=⟨j.1.trans (a.os.trans (c.fr.os.trans d.os)),j.2.1.trans (a.tape.trans (c.fr.tape.trans d.tape)),j.2.2.trans (a.output.trans (c.fr.output.trans d.output)),by omega,λk m l=>by
  rw[f k λe=>l (.inl e),a.block k<|by omega,c.fr.block k (by omega) (λe=>l (.inr (.inl e))) λe=>l (.inr (.inr e))]
  exact d.block k m⟩
 obtain⟨H,I,B⟩:=h.upd p y r F G;refine⟨_,_,H,I,λk q=>?_,rfl,λk m l=>?_⟩
 .obtain⟨⟨_,m⟩,l,K,g⟩:=t k q;refine⟨B k K m (by obtain g|g:=g;exact .inl g;exact .inr (by omega)),by omega,?_⟩;have z:k≠pl[i].2.xb:=λe=>by
   subst e;obtain g|g:=g
   .exact hx.2 g
   omega
  rw[f k z,a.block k l]
 have n:k∉aY pl[i].1.s pl[i].2.L:=λe=>by have:=v k e;omega
 refine⟨B k (λe=>?_) (by omega) (.inr m),by omega,?_⟩
 .rcases c.fr.aY k e with e|e
  .exact n e
  omega
 rw[f k<|by omega,a.block k<|by omega,c.fr.block k l (by omega) n]
end
