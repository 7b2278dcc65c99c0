import Derived.Test.YtmgfijllcdadgaaGreatDoorUW07
import Derived.Test.YtmgfijllcdadgaaGreatDoorUW03
set_option linter.all false
set_option maxHeartbeats 8000000
set_option maxRecDepth 100000
namespace Go.Proofs.YtmgfijllcdadgaaGreatDoor
open Go.RowKit
open List
open Go.Proofs.Tryz
open Mk hiding rest
variable {n a b c:Nat}{w w2 w' :World}{e:TypeId}{v:Value}{s:Z}{L:Lay}
theorem Wz:(prog.info? 69).map (λi=>(i.zero,i.size,i.bytes))=some (some (.agg #[.string ByteArray.empty,.string ByteArray.empty,.string ByteArray.empty]),3,48):=by kernel_rfl
def Mf(a:aI):∀u∈gG a,u.oneCell' =true:=by
 intro u b;simp[gG]at b;obtain rfl|rfl|rfl:=b<;>rfl
structure w_(w wx:World)(s:Z)(ou:Option (List aI))(acc:List aI)(i:Nat)(a:Option Addr)(c:Nat):Prop where
 cH:Below w.heap.size w wx
 own:wx.ownsRow w.heap.size 69 3 (.slice a acc.length c) acc.length (cQ acc)
 fin:ou=mR s.m (s.f.drop i) acc
 le:acc.length<=i
 nm:∀x∈acc,x.B.length<=100000000
def WA(w:World)(b:Option (List aI))(e:Ending)(w' :World):Prop:=
 Below w.heap.size w w' /\((b=none/\e=.returned (.tuple #[.slice none 0 0,.bool false]))\/∃l a c,b=some l/\e=.returned (.tuple #[.slice a l.length c,.bool true])/\w'.ownsRow w.heap.size 69 3 (.slice a l.length c) l.length (cQ l))
def Gj{c:World}{k:Nat}{d:List Value}(h:Below n w c)(i:n<=c.heap.size)(f:c.ownsRow n e a v k d)(b:c.grownBy w2 v.ownBlock):Below n w w2:=
 ⟨b.os.trans h.os,b.tape.trans h.tape,b.output.trans h.output,cL h.size b.size,λj g=>(b.block j (by omega) λe=>by have:=(f.lt j e.symm).1;omega).trans (h.block j g)⟩
def yV{c:List Value}(h:w.ownsRow b e a v n c)(d:∀k,k<w.heap.size->w'.heap[k]?=w.heap[k]?):w'.ownsRow b e a v n c:=
 mo (r:=⟨e,a,v,n,c⟩) h λk f=>d k (h.lt k f).2
def w_.push{g:World}{e:Option (List aI)}{b:List aI}{i:Nat}{a:Option Addr}{j f:Nat}{x:aI}(k:Below w.heap.size w w2)(l:w.heap.size<=w2.heap.size)(m:w2.ownsRow w.heap.size 69 3 (.slice a b.length c) b.length (cQ b))
 (hown:g.ownsRow w.heap.size 69 3 (.slice (some ⟨j,0,none⟩) (b.length+1) f) (b.length+1) (cQ b++gG x)) (n:w2.grownBy g (Value.slice a b.length c).ownBlock) (o:e=mR s.m (s.f.drop (i+1)) (b++[x])) (h:b.length+1<=i+1) (p:∀y∈b,y.B.length<=100000000) (hx:x.B.length<=100000000):
 w_ w g s e (b++[x]) (i+1) (some ⟨j,0,none⟩) f:=by
 refine⟨Gj k l m n,?_,o,by simpa using h,λy d=>?_⟩
 .have q:(b++[x]).length=b.length+1:=by simp
  have r:cQ (b++[x])=cQ b++gG x:=by simp[cQ]
  rwa[q,r]
 obtain d|d:=mem_append.1 d
 .exact p y d
 simp at d;subst d;exact hx
def WB(h:bC w b s L)(ai:s.am=false)(aj:∀a∈s.f,a.B.length<=100000000)(a7:s.m.length<=300000000)(ax:s.f.length<=32):
 Calls prog 242 #[.pointer (some ⟨b,7,none⟩),.slice L.aa s.f.length L.ac] w (WA w (mR s.m s.f [])):=by
 obtain⟨B,O⟩:=aj8 (mR s.m s.f []);rw[<-O];have HI:Hid (w_ w w s B [] 0 none 0):=⟨Below.refl _ _,lq _ _ _ _,O,by simp,λx hx=>by cases hx⟩;have HH:=Y h;have ap:=Y ai;have aq:=Y aj;have ay:=h.lt;obtain⟨i0,hi,ak,al,an⟩:=lg Wz;obtain⟨aa,a8⟩:=aj8 L.aa;rw[<-a8];have ar:=Y a8;clear h O a8 ai aj;go_enter func242,ntmps242;go_wp2_with fail;go_loopg [6,7] s.f.length λg s6 s7 wx=>∃(n:World) (l:List aI) (i:Nat) (a:Option Addr) (c:Nat),n=wx/\i<=s.f.length/\g=s.f.length - i/\s6=.slice a l.length c/\s7=.int .i64 (i:Int)/\Hid (w_ w n s B l i a c);case atStart=>exact⟨w,[],0,none,0,rfl,by omega,rfl,rfl,rfl,HI⟩
 case round=>
  obtain⟨n,l,i,a,c,au,av,rfl,rfl,rfl,v⟩:=hrel;subst au;clear HI;have aw:=v.u.le;have G:w.heap.size<=n.heap.size:=v.u.cH.size;by_cases h3:i<s.f.length;focus
   have e1:decide ((i:Int)<(s.f.length:Int))=true:=aj_;have az:(i:Int)<(s.f.length:Int):=by omega
   obtain⟨g,hg,b0,c0,c1,c2⟩:=Me (HH.u.start.below v.u.cH).X ap.u i h3;rw[<-ar.u]at hg;have a4:=aq.u _ (iZ h3);have HP:=Y λw=>LM s.f[i].B a4 w;have P:=Y λw=>AY s.f[i].B a4 w;have t:=v.u.fin;rw[gB h3]at t;unfold mR at t;have a5:=Y a4;clear a4;generalize s.f[i]=x at *;subst hg;cases e2:Mk.jJ x.B;focus
    rw[e2]at HP t;simp only[cK,cE]at t;cases e3:(dH x.B==[]);focus
     skip;have Q:kz s.m x={x with space:=lW s.m (dH x.B)}:=by rw[kz,show(dH x.B !=[])=true by simp[bne,e3]];rfl
     rw[Q]at t;clear Q;have R:Below w.heap.size w (n.alloc (.cells #[.string ⟨x.B.toArray⟩,.string ⟨x.space.toArray⟩,.string ⟨x.val.toArray⟩] 69)):=v.u.cH.alloc G _;have HV:=Y (AZ (HH.u.start.below R).X a7 (dH x.B));obtain⟨m,a6⟩:=aj8 (lW s.m (dH x.B));rw[<-a6]at HV t;have y:Below w.heap.size w (n.alloc (.cells #[.string ⟨x.B.toArray⟩,.string ⟨m.toArray⟩,.string ⟨x.val.toArray⟩] 69)):=v.u.cH.alloc G _;have E:∀k,k<n.heap.size->(n.alloc (.cells #[.string ⟨x.B.toArray⟩,.string ⟨m.toArray⟩,.string ⟨x.val.toArray⟩] 69)).heap[k]?=n.heap[k]?:=λk hk=>dG _ _ _ hk;have S:(n.alloc (.cells #[.string ⟨x.B.toArray⟩,.string ⟨m.toArray⟩,.string ⟨x.val.toArray⟩] 69)).heap[n.heap.size]?=some (.cells #[.string ⟨x.B.toArray⟩,.string ⟨m.toArray⟩,.string ⟨x.val.toArray⟩] 69 (0,0)):=dI n _;have I:=Y (Di (HH.u.start.below y).X a7 (dH x.B));have K:=Y (Dk (yV v.u.own E) (by omega) v.u.nm ({x with space:=m}:aI) a5.u);have a9:=Y (yV v.u.own E);have N:=Y y;have ab:=Y S;have ad:=Y v.u.nm;have C:w.heap.size<(n.alloc (.cells #[.string ⟨x.B.toArray⟩,.string ⟨m.toArray⟩,.string ⟨x.val.toArray⟩] 69)).heap.size:=by simp;omega
     have H:=Y C;have T:(n.alloc (.cells #[.string ⟨x.B.toArray⟩,.string ⟨m.toArray⟩,.string ⟨x.val.toArray⟩] 69)).heap.size=n.heap.size+1:=by simp
     have ae:=Y T;clear R y E S C T v a6;generalize dH x.B=p at *;generalize pX s.m p=q at *;generalize W:vw l ({x with space:=m}:aI)=r at *;clear W;cases q
     .skip;have X:=Y (show B=none by simpa using t);clear t
      go_wp2_with(first
       |(go_at_call 245;go_call(HP.u _)as e A ⟨d,f⟩;subst d;subst f)
       |(go_at_call 241;go_call(P.u _)as e A ⟨d,f⟩;subst d;subst f)
       |(go_at_call 243;go_call HV.u as e A ⟨d,f⟩;subst d;subst f)
       |(go_at_call 240;go_call I.u as e A ⟨d,f⟩;subst d;subst f)
       |(go_at_call 248;go_call K.u as e w2 ⟨rfl,o⟩))
      go_ret2;exact⟨N.u,.inl ⟨X.u,rfl⟩⟩
     cases r
     .skip;have X:=Y (show B=mR s.m (s.f.drop (i+1)) (l++[({x with space:=m}:aI)]) by simpa using t);clear t;have af:=Y (show l.length+1<=maxLen by unfold maxLen;omega);have F:l.length+1<=i+1:=by omega
      go_wp2_with(first
       |(go_at_call 245;go_call(HP.u _)as e A ⟨d,f⟩;subst d;subst f)
       |(go_at_call 241;go_call(P.u _)as e A ⟨d,f⟩;subst d;subst f)
       |(go_at_call 243;go_call HV.u as e A ⟨d,f⟩;subst d;subst f)
       |(go_at_call 240;go_call I.u as e A ⟨d,f⟩;subst d;subst f)
       |(go_at_call 248;go_call K.u as e w2 ⟨rfl,o⟩;have z:Below w.heap.size w w2:=N.u.trans (o.mono (LC H.u));have a0:w.heap.size<=w2.heap.size:=z.size;have D:=(o.block n.heap.size<|by rw[ae.u];omega).trans ab.u;have hq:∀j,w2.cell? ⟨n.heap.size,j,none⟩=[.string ⟨x.B.toArray⟩,.string ⟨m.toArray⟩,.string ⟨x.val.toArray⟩][j]?:=(λj=>by simp[World.cell?,D]);have HO:=Y (World.ownsRow.alloc (yV a9.u λk hk=>o.block k hk) (.cells #[.string ⟨x.B.toArray⟩,.string ⟨m.toArray⟩,.string ⟨x.val.toArray⟩] 69));have HB:=Y (show(w2.alloc (.cells #[.string ⟨x.B.toArray⟩,.string ⟨m.toArray⟩,.string ⟨x.val.toArray⟩] 69)).heap[w2.heap.size]?=_ from dI w2 _);have a1:=Y (z.alloc a0 (.cells #[.string ⟨x.B.toArray⟩,.string ⟨m.toArray⟩,.string ⟨x.val.toArray⟩] 69));have a2:=Y (show w.heap.size<=(w2.alloc (.cells #[.string ⟨x.B.toArray⟩,.string ⟨m.toArray⟩,.string ⟨x.val.toArray⟩] 69)).heap.size by simp;omega);clear o z D)
       |(at_builtin;refine lI _ rfl (.tmp 41) (.tmp 43) 63 rfl w.heap.size 69 i0 _ 3 48 underlying63 hi ak al an rfl (by decide) (.slice a l.length c) l.length (cQ l) (by simp[Act.eval]) HO.u ⟨w2.heap.size,0,none⟩ 1 1 (gG ({x with space:=m}:aI)) (by simp[Act.eval]) rfl (jT HB.u) (Mf _) (by decide) af.u (by omega) a2.u (w2.heap.size+1) (by simp) ?_;intro g2 ag w3 hown hgrow ah ao;have a3:=Y (w_.push a1.u a2.u HO.u hown hgrow X.u F ad.u a5.u);clear hown hgrow ah))
      go_roundg (s.f.length - (i+1));case measure=>omega
      case rel=>exact⟨_,l++[({x with space:=m}:aI)],i+1,_,ag,rfl,by omega,rfl,by simp,by simp,a3⟩
    rotate_left;focus
     skip;have Q:kz s.m x=x:=by rw[kz,show(dH x.B !=[])=false by simp[bne,e3]];rfl
     rw[Q]at t;clear Q;have R:Below w.heap.size w (n.alloc (.cells #[.string ⟨x.B.toArray⟩,.string ⟨x.space.toArray⟩,.string ⟨x.val.toArray⟩] 69)):=v.u.cH.alloc G _;have y:=R;have E:∀k,k<n.heap.size->(n.alloc (.cells #[.string ⟨x.B.toArray⟩,.string ⟨x.space.toArray⟩,.string ⟨x.val.toArray⟩] 69)).heap[k]?=n.heap[k]?:=λk hk=>dG _ _ _ hk;have S:(n.alloc (.cells #[.string ⟨x.B.toArray⟩,.string ⟨x.space.toArray⟩,.string ⟨x.val.toArray⟩] 69)).heap[n.heap.size]?=some (.cells #[.string ⟨x.B.toArray⟩,.string ⟨x.space.toArray⟩,.string ⟨x.val.toArray⟩] 69 (0,0)):=dI n _;have I:=Y (Di (HH.u.start.below y).X a7 (dH x.B));have K:=Y (Dk (yV v.u.own E) (by omega) v.u.nm x a5.u);have a9:=Y (yV v.u.own E);have N:=Y y;have ab:=Y S;have ad:=Y v.u.nm;have C:w.heap.size<(n.alloc (.cells #[.string ⟨x.B.toArray⟩,.string ⟨x.space.toArray⟩,.string ⟨x.val.toArray⟩] 69)).heap.size:=by simp;omega
     have H:=Y C;have T:(n.alloc (.cells #[.string ⟨x.B.toArray⟩,.string ⟨x.space.toArray⟩,.string ⟨x.val.toArray⟩] 69)).heap.size=n.heap.size+1:=by simp
     have ae:=Y T;clear R y E S C T v;generalize dH x.B=p at *;generalize pX s.m p=q at *;generalize W:vw l x=r at *;clear W;cases q
     .skip;have X:=Y (show B=none by simpa using t);clear t
      go_wp2_with(first
       |(go_at_call 245;go_call(HP.u _)as e A ⟨d,f⟩;subst d;subst f)
       |(go_at_call 241;go_call(P.u _)as e A ⟨d,f⟩;subst d;subst f)
       |(go_at_call 243;go_call HV.u as e A ⟨d,f⟩;subst d;subst f)
       |(go_at_call 240;go_call I.u as e A ⟨d,f⟩;subst d;subst f)
       |(go_at_call 248;go_call K.u as e w2 ⟨rfl,o⟩))
      go_ret2;exact⟨N.u,.inl ⟨X.u,rfl⟩⟩
     cases r
     .skip;have X:=Y (show B=mR s.m (s.f.drop (i+1)) (l++[x]) by simpa using t);clear t;have af:=Y (show l.length+1<=maxLen by unfold maxLen;omega);have F:l.length+1<=i+1:=by omega
      go_wp2_with(first
       |(go_at_call 245;go_call(HP.u _)as e A ⟨d,f⟩;subst d;subst f)
       |(go_at_call 241;go_call(P.u _)as e A ⟨d,f⟩;subst d;subst f)
       |(go_at_call 243;go_call HV.u as e A ⟨d,f⟩;subst d;subst f)
       |(go_at_call 240;go_call I.u as e A ⟨d,f⟩;subst d;subst f)
       |(go_at_call 248;go_call K.u as e w2 ⟨rfl,o⟩;have z:Below w.heap.size w w2:=N.u.trans (o.mono (LC H.u));have a0:w.heap.size<=w2.heap.size:=z.size;have D:=(o.block n.heap.size<|by rw[ae.u];omega).trans ab.u;have hq:∀j,w2.cell? ⟨n.heap.size,j,none⟩=[.string ⟨x.B.toArray⟩,.string ⟨x.space.toArray⟩,.string ⟨x.val.toArray⟩][j]?:=(λj=>by simp[World.cell?,D]);have HO:=Y (World.ownsRow.alloc (yV a9.u λk hk=>o.block k hk) (.cells #[.string ⟨x.B.toArray⟩,.string ⟨x.space.toArray⟩,.string ⟨x.val.toArray⟩] 69));have HB:=Y (show(w2.alloc (.cells #[.string ⟨x.B.toArray⟩,.string ⟨x.space.toArray⟩,.string ⟨x.val.toArray⟩] 69)).heap[w2.heap.size]?=_ from dI w2 _);have a1:=Y (z.alloc a0 (.cells #[.string ⟨x.B.toArray⟩,.string ⟨x.space.toArray⟩,.string ⟨x.val.toArray⟩] 69));have a2:=Y (show w.heap.size<=(w2.alloc (.cells #[.string ⟨x.B.toArray⟩,.string ⟨x.space.toArray⟩,.string ⟨x.val.toArray⟩] 69)).heap.size by simp;omega);clear o z D)
       |(at_builtin;refine lI _ rfl (.tmp 41) (.tmp 43) 63 rfl w.heap.size 69 i0 _ 3 48 underlying63 hi ak al an rfl (by decide) (.slice a l.length c) l.length (cQ l) (by simp[Act.eval]) HO.u ⟨w2.heap.size,0,none⟩ 1 1 (gG x) (by simp[Act.eval]) rfl (jT HB.u) (Mf _) (by decide) af.u (by omega) a2.u (w2.heap.size+1) (by simp) ?_;intro g2 ag w3 hown hgrow ah ao;have a3:=Y (w_.push a1.u a2.u HO.u hown hgrow X.u F ad.u a5.u);clear hown hgrow ah))
      go_roundg (s.f.length - (i+1));case measure=>omega
      case rel=>exact⟨_,l++[x],i+1,_,ag,rfl,by omega,rfl,by simp,by simp,a3⟩
   rotate_left 2
   .rw[e2]at HP t;simp only[bY]at t;have a3:Hid (w_ w (n.alloc (.cells #[.string ⟨x.B.toArray⟩,.string ⟨x.space.toArray⟩,.string ⟨x.val.toArray⟩] 69)) s B l (i+1) a c):=⟨v.u.cH.alloc G _,v.u.own.alloc _,t,by omega,v.u.nm⟩;clear t v;go_wp2_with(go_at_call 245;go_call(HP.u _)as e A ⟨rfl,rfl⟩);go_roundg (s.f.length - (i+1));case measure=>omega
    case rel=>exact⟨_,l,i+1,a,c,rfl,by omega,rfl,rfl,by simp,a3⟩
  rotate_left 2
  .have e1:decide ((i:Int)<(s.f.length:Int))=false:=aj9;have t:=v.u.fin;rw[iF]at t;have X:=Y (show B=some l from t);clear t;go_wp2;go_ret2;exact⟨v.u.cH,.inr ⟨l,a,c,X.u,rfl,v.u.own⟩⟩
  all_goals
   skip;have X:=Y (show B=none by simpa using t);clear t
   go_wp2_with(first
    |(go_at_call 245;go_call(HP.u _)as e A ⟨d,f⟩;subst d;subst f)
    |(go_at_call 241;go_call(P.u _)as e A ⟨d,f⟩;subst d;subst f)
    |(go_at_call 243;go_call HV.u as e A ⟨d,f⟩;subst d;subst f)
    |(go_at_call 240;go_call I.u as e A ⟨d,f⟩;subst d;subst f)
    |(go_at_call 248;go_call K.u as e w2 ⟨rfl,o⟩))
   go_ret2;exact⟨N.u.trans (o.mono (LC H.u)),.inl ⟨X.u,rfl⟩⟩
def Mg{i:List Value}(h:w.ownsRow b e c v n i)(j:a<=b):w.ownsRow a e c v n i:=by
 refine⟨h.1,?_⟩;obtain k|⟨g,d,f,l,m,o⟩:=h.2
 .exact .inl k
 exact .inr ⟨g,d,f,l,cL j m,o⟩
def Mv.WC{r:World}{v:List Nat}(m:Mv r b v w s L)(t:s.am=false)(l:List aI)(a:Option Addr)(c B:Nat)(A:∀k∈aY s L,k<B)(C:b<B)(H:r.heap.size<=B)
 (q:w.ownsRow B 69 3 (.slice a l.length c) l.length (cQ l)):Mv r b v (w.setCell ⟨b,13,none⟩ (.slice a l.length c)) {s with f:=l} {L with aa:=a,ac:=c}:=by
 have y:(rowsOf s L).Perm (eC s L::(eH s L::fV s L::fE s L::gN s L::fK s L::fW s L::L.es.map bR)):=rI _ _ _ _;have u:=(m.X.rows.perm y).tail;have D:eC {s with f:=l} {L with aa:=a,ac:=c}=⟨69,3,.slice a l.length c,l.length,cQ l⟩:=by simp[eC,t]
 have g:(rowsOf {s with f:=l} {L with aa:=a,ac:=c}).Perm (⟨69,3,.slice a l.length c,l.length,cQ l⟩::(eH s L::fV s L::fE s L::gN s L::fK s L::fW s L::L.es.map bR)):=by
  rw[<-D];exact rI _ _ _ _
 have d:∀k∈cZ (eH s L::fV s L::fE s L::gN s L::fK s L::fW s L::L.es.map bR),k∈aY s L:=λk h=>nC y.symm k (@uG [eC s L] _ k h);have E:fJ w (b - 1) (⟨69,3,.slice a l.length c,l.length,cQ l⟩::(eH s L::fV s L::fE s L::gN s L::fK s L::fW s L::L.es.map bR)):=by
  refine⟨λx hx=>?_,?_⟩
  .rcases mem_cons.1 hx with rfl|hx
   .exact Mg q (by omega)
   exact u.own x hx
  unfold cZ;rw[fF];split
  .exact u.nd
  rename_i j n;refine nodup_cons.2 ⟨λo=>?_,u.nd⟩;have:=(q.lt j n).1;have:=A j (d j o);omega
 have F:fJ w (b - 1) (rowsOf {s with f:=l} {L with aa:=a,ac:=c}):=E.perm g.symm;have p:b∉aY {s with f:=l} {L with aa:=a,ac:=c}:=λo=>by
  have f:=nC g b o;rw[cZ,fF]at f;split at f
  .exact m.X.nb (d b f)
  rename_i j n;obtain e|f:=mem_cons.1 f
  .subst e;have:=(q.lt b n).1;omega
  exact m.X.nb (d b f)
 refine⟨⟨?_,?_,m.X.evs,p⟩,?_⟩
 .have:=m.X.blk;have G:(cellsOf s L).set 13 (.slice a l.length c)=cellsOf {s with f:=l} {L with aa:=a,ac:=c}:=by simp[cellsOf]
  rw[<-G];simp[World.setCell,rE,this]
 .refine F.keep λk h=>kR _ _ _ _ ?_;exact λ(e:k=b)=>p (e▸h)
 have i:=m.fr;refine⟨i.os,i.tape,i.output,by simpa[World.setCell]using i.size,λk h z o=>(kR _ _ _ _ z).trans (i.block k h z o),λk h=>?_⟩;have f:=nC g k h;rw[cZ,fF]at f;split at f
 .exact i.aY k (d k f)
 rename_i j n;obtain rfl|f:=mem_cons.1 f
 .have:=(q.lt k n).1;exact .inr (by omega)
 exact i.aY k (d k f)
def WE(w:World)(b:Nat)(s:Z)(L:Lay)(r:Z×Option (List aI))(e:Ending)(w' :World):Prop:=
 ∃d,Mv w b (aY s L) w' r.1 d/\d.aa=L.aa/\d.ac=L.ac/\((r.2=none/\e=.returned (.tuple #[.slice none 0 0,.bool false]))\/∃l a c B,r.2=some l/\e=.returned (.tuple #[.slice a l.length c,.bool true])/\(∀k∈aY r.1 d,k<B)/\b<B/\w.heap.size<=B/\w'.ownsRow B 69 3 (.slice a l.length c) l.length (cQ l))
def WG(h:Bd s):(cG s).1.m.length<=300000000/\(cG s).1.f=s.f/\(cG s).1.B=s.B/\(cG s).1.am=s.am:=by
 have e:∀(d:List aI) (b:List (U×U)) (c:Nat),(iG d b c).1.length<=b.length+d.length:=by
  intro d;induction d with
  |nil=>intro b c;simp[iG]
  |cons a r ih=>
   intro b c;unfold iG;split
   .have:=ih b c;simp only[cT];omega
   split
   .simp only[cT];omega
   have:=ih (b++[(Mk.kP a.B,a.val)]) (c+1);simp only[cT,bT,fB]at this⊢;omega
 have f:=e s.f s.m 0;have g:=h.hb;have i:=h.ha;unfold cG;dsimp only;split
 .exact⟨by show(iG s.f s.m 0).1.length<=_;omega,rfl,rfl,rfl⟩
 exact⟨by show(iG s.f s.m 0).1.length<=_;omega,rfl,rfl,rfl⟩
def Mh(h:bC w b s L)(m:Bd s):
 Calls prog 233 #[.pointer (some ⟨b,7,none⟩),.string ⟨s.B.toArray⟩,.slice L.aa s.f.length L.ac] w (WE w b s L (dY s)):=by
 have hrow:=h.rows.own (eC s L) (by simp[rowsOf]);have I:eC s L=⟨69,3,.slice L.aa s.f.length L.ac,s.f.length,cQ s.f⟩:=by simp[eC,m.am]
 rw[I]at hrow;have v:=Y (VO hrow m.ha m.an s.B m.hn);have x:=Y (Wy h m);have K:=Y λw=>AY s.B m.hn w;have q:=WG m;obtain⟨P,a⟩:=aj8 (dY s);rw[<-a];unfold dY at a;have Q:=Y h.start;have C:=Y m.am;have E:=Y m.an;have HA:=Y m.ha;clear hrow I;cases N:Mk.yM s.B s.f
 .rw[N]at a v;simp only[jC,bY]at a;have o:=Y a;clear h m a x q;go_enter func233,ntmps233;go_wp2_with(go_at_call 238;go_call v.u as e r ⟨c,d⟩;subst c;subst d);go_ret2;rw[o.u];exact⟨L,Q.u,rfl,rfl,.inl ⟨rfl,rfl⟩⟩
 rw[N]at a v;simp only[gz,cK,cE]at a;cases O:(cG s).2
 .rw[O]at a x;simp only[jC,bY]at a;have o:=Y a;clear h m a q;go_enter func233,ntmps233;go_wp2_with(first|(go_at_call 238;go_call v.u as e r ⟨c,d⟩;subst c;subst d)|(go_at_call 239;go_call x.u as e w2 ⟨rfl,y,f,i,j⟩;have g:=Y f;clear f));go_ret2;rw[o.u];exact⟨y,g.u,i,j,.inl ⟨rfl,rfl⟩⟩
 rw[O]at a x;simp only[gz,cK,cE]at a;obtain⟨F,G,b3,R⟩:=q;have S:=h.lt;generalize cG s=D at *;obtain⟨T,d2⟩:=D;dsimp only at *;generalize dH s.B=p at *;clear h m;cases B:pX T.m p
 .rw[B]at a;simp only[jC,bY]at a;have o:=Y a;clear a;go_enter func233,ntmps233;go_wp2_with(first|(go_at_call 238;go_call v.u as e r ⟨c,d⟩;subst c;subst d)|(go_at_call 239;go_call x.u as e w2 ⟨rfl,y,f,i,j⟩;have n:=Y (Di f.X F p);rw[B]at n;have g:=Y f;clear f)|(go_at_call 241;go_call(K.u _)as e r ⟨c,d⟩;subst c;subst d)|(go_at_call 240;go_call n.u as e r ⟨c,d⟩;subst c;subst d));go_ret2;rw[o.u];exact⟨y,g.u,i,j,.inl ⟨rfl,rfl⟩⟩
 rw[B]at a;simp only[gz,cK,cE]at a;have o:=Y a;clear a;go_enter func233,ntmps233;go_wp2_with(first|(go_at_call 238;go_call v.u as e r ⟨c,d⟩;subst c;subst d)|(go_at_call 239;go_call x.u as e w2 ⟨rfl,y,f,i,j⟩;have n:=Y (Di f.X F p);rw[B]at n;have z:=Y (WB f.X (R.trans C.u) (by rw[G];exact E.u) F (by rw[G];exact HA.u));rw[G,i,j]at z;have g:=Y f;clear f)|(go_at_call 241;go_call(K.u _)as e r ⟨c,d⟩;subst c;subst d)|(go_at_call 240;go_call n.u as e r ⟨c,d⟩;subst c;subst d)|(go_at_call 242;refine z.u.mono ?_;rintro e w3 ⟨A,(⟨t,rfl⟩|⟨l,W,X,t,rfl,H⟩)⟩))
 .go_ret2;rw[o.u];exact⟨y,g.u.below A,i,j,.inl ⟨t,rfl⟩⟩
 go_ret2;rw[o.u];exact⟨y,g.u.below A,i,j,.inr ⟨l,W,X,_,t,rfl,λk hk=>(g.u.X.jh k hk).2,g.u.X.lt,g.u.fr.size,H⟩⟩
def Mi(s:Z):oM s<=s.m.length:=by
 unfold oM;split
 .exact a_ _
 split<;>omega
def Gm{size:Nat}{a:Option Addr}{l:List Value}(h:w.ownsRow b e size (.slice a n c) n l):(a=none/\c=0/\n=0)\/∃g,a=some ⟨g,0,none⟩/\n<=c/\g<w.heap.size/\∀j,j<n*size->w.cell? ⟨g,j,none⟩=l[j]?:=by
 obtain⟨m,o⟩|⟨g,p,q,r,x,s,d,y,t,f⟩:=h.2
 .injection m with i u k;exact .inl ⟨i,k,o⟩
 injection r with i u k;subst i;subst k;exact .inr ⟨g,rfl,d,(Array.getElem?_eq_some_iff.1 s).1,λj v=>LP h j v⟩
def Mj(h:bC w b s L)(e:s.T≠[]):∃(l:List Nat) (x:Nat) (g:Nat),s.T=l++[x]/\s.T.length=l.length+1/\L.ca=some ⟨g,0,none⟩/\l.length+1<=L.cc/\w.cell? ⟨g,l.length,none⟩=some (.int .i64 (x:Int)):=by
 have hrow:=h.rows.own (fW s L) (by simp[rowsOf]);have d:s.T.length=s.T.dropLast.length+1:=by
  have:=length_pos_iff.2 e;rw[uo];omega
 obtain⟨_,_,f⟩|⟨g,i,k,f,j⟩:=Gm (a:=L.ca) (c:=L.cc) (n:=s.T.length) (size:=1) hrow
 .omega
 refine⟨s.T.dropLast,s.T.getLast e,g,(tF e).symm,d,i,by omega,?_⟩;rw[j _<|by omega];show(s.T.map nv)[_]?=_;rw[List.getElem?_map,l_<|by omega];simp only[FR,nv];congr 3
 rw[getLast_eq_getElem];congr 1
 omega
def Ml(h:bC w b s L)(y:s.m.length<=300000000)(i:s.T.length<=100000100)(a:∀c∈s.T,c<=32):
 Calls prog 237 #[.pointer (some ⟨b,7,none⟩)] w λe w' =>e=.returned (.int .i64 (oM s:Int))/\∃n,w' =w.drewN n:=by
 have j:=h.cell;have r:=h.lt;unfold cellsOf at j;by_cases d:s.T=[]
 .have f:oM s=s.m.length:=by simp[oM,d]
  have o:s.T.length=0:=by simp[d]
  rw[f];rw[o]at j;clear h f d o;go_enter func237,ntmps237;go_wp2;go_quiet(fail);go_wp2;go_ret;exact⟨rfl,_,rfl⟩
 obtain⟨l,x,g,k,m,t,z,A⟩:=Mj h d;have hx:x<=32:=a x (by rw[k];simp);have f:oM s=if s.m.length<x then s.m.length else s.m.length - x:=by simp[oM,k]
 rw[f];rw[m,t]at j;have e0:decide ((l.length:Int)<0)=false:=aj9;have u:((l.length+1:Nat):Int) - 1=(l.length:Int):=by omega
 rw[m]at i;clear h f k d a m;by_cases p:s.m.length<x
 .rw[J p];have v:decide ((s.m.length:Int)<(x:Int))=true:=aj_;go_enter func237,ntmps237;go_wp2;go_quiet(fail);go_wp2;go_ret;exact⟨rfl,_,rfl⟩
 rw[M p];have v:decide ((s.m.length:Int)<(x:Int))=false:=aj9;have q:((s.m.length - x:Nat):Int)=(s.m.length:Int) - (x:Int):=by omega
 rw[q];clear q;go_enter func237,ntmps237;go_wp2;go_quiet(fail);go_wp2;go_quiet(fail);go_wp2;go_ret;exact⟨rfl,_,Dj _ _ _⟩
def WH{P:Program}(w:World)(t b e:TypeId)(i:TypeInfo)(d:P.underlying t=some (.slice e))(f:P.info? e=some i)(a:Option Addr)(c:Nat):
 (Builtin.append_ #[t,t] b #[.slice none 0 0,.slice a 0 c]).run P w=.ok (.slice none 0 0) w:=by
 cases a<;>simp[Builtin.append_,run_underlying d,sizeOf,typeInfo,f,Builtin.lenOf,Builtin.firstCells,storeCells,loadCells,loadCellsFrom]
def Mm{P:Program}{b:Array Oper}{rest:List Oper}{o:Oper}{a:Act}{Q:Exit->Act->World->Prop}(d:o.guard=none)(s x:Operand)(t e:TypeId)
 (g:o.op=.call {callee:=.builtin .append,args:=#[s,x],argTypes:=#[t,t]}) (i:TypeInfo) (j:P.underlying t=some (.slice e)) (k:P.info? e=some i) (f:Option Addr) (c:Nat) (l:a.eval s=.slice none 0 0) (hx:a.eval x=.slice f 0 c)
 (h:wpList P b Q rest (a.put o.dst (.slice none 0 0)) w):wpList P b Q (o::rest) a w:=
 wpList_plain d λ_ m=>by
  unfold Oper.wp execOp;simp only[g,resolve,invoke,builtin,wW,wV,nT,FX,lf,qO,l,hx,WH w t o.type e i j k f c];exact m _ _ h
def WJ(h:w.grownBy w' none):Below w.heap.size w w' :=⟨h.os,h.tape,h.output,h.size,λk a=>h.block k a<|by simp⟩
def WK(l:List (U×U)):∀(k:Nat),jM (l.drop k)=(jM l).drop (k*2):=by
 induction l with
 |nil=>intro k;simp[jM]
 |cons x r ih=>
  intro k;cases k with
  |zero=>simp
  |succ k=>
   have a:jM (x::r)=.string ⟨x.1.toArray⟩::.string ⟨x.2.toArray⟩::jM r:=rfl;have b:(k+1)*2=k*2+1+1:=by omega
   rw[ajS,ih k,a,b,ajS,ajS]
def Mq(l:List (U×U)):(jM l).length=l.length*2:=by
 induction l with
 |nil=>rfl
 |cons x r ih=>simp only[jM,mQ,bT,cT]at ih⊢;rw[ih];simp[uH];omega
def Mr(h:bC w b s L)(hb:s.m.length<=300000000)(I:s.T.length<=100000100)(x:∀c∈s.T,c<=32):
 Calls prog 236 #[.pointer (some ⟨b,7,none⟩)] w λe w' =>∃a c,e=.returned (.slice a (dZ s).length c)/\w'.ownsRow w.heap.size 139 2 (.slice a (dZ s).length c) (dZ s).length (jM (dZ s))/\Below w.heap.size w w' :=by
 have K:=Y (Ml h hb I x);have a4:=Mi s;have hm:(dZ s).length=s.m.length - oM s:=by unfold dZ;simp
 have l:dZ s=s.m.drop (oM s):=rfl;rw[hm];have E:=Y l;generalize dZ s=tag at *;generalize oM s=F at *;obtain⟨N,O,P,Q,R⟩:=lg Mb;have S:=Y h;have hrow:=h.rows.own (fK s L) (by simp[rowsOf]);have d:w.ownsRow (b - 1) 139 2 (.slice L.ba s.m.length L.bc) s.m.length (jM s.m):=hrow;clear h l hm hrow x;obtain⟨G,q2,H⟩|⟨g,G,q2,H,q4⟩:=Gm d
 .have hF:F=0:=by omega
  subst hF;have i:tag=[]:=by have:=E.u;rw[wX]at this;rw[this];exact FT H
  have q:=Y i;rw[H];clear d i;go_enter func236,ntmps236;go_wp2_with fail;go_call K.u as e v ⟨rfl,n,rfl⟩;have y:=(S.u.drewN n).cell;rw[cellsOf,G,q2,H]at y;have f:Below w.heap.size w (w.drewN n):=⟨rfl,rfl,rfl,ajQ<|by rw[heap_drewN],λ_ _=>by rw[heap_drewN]⟩;have k:=Y f;clear f;generalize w.drewN n=v at *;go_wp2_with(at_builtin;refine Mm rfl (.tmp 7) (.tmp 13) 83 139 rfl N underlying83 O _ _ rfl rfl ?_);go_ret;refine⟨none,0,rfl,?_,k.u⟩;rw[q.u];exact lq _ _ _ _
 by_cases hz:F=s.m.length
 .have i:tag=[]:=by have:=E.u;rwa[hz,Dc]at this
  have z:s.m.length - F=0:=by omega
  rw[z];have q:=Y i;subst hz;clear d i z;go_enter func236,ntmps236;go_wp2_with fail;go_call K.u as e v ⟨rfl,n,rfl⟩;have y:=(S.u.drewN n).cell;rw[cellsOf,G]at y;have f:Below w.heap.size w (w.drewN n):=⟨rfl,rfl,rfl,ajQ<|by rw[heap_drewN],λ_ _=>by rw[heap_drewN]⟩;have k:=Y f;clear f;generalize w.drewN n=v at *;have k1:¬(s.m.length:Int)<0:=by omega
  have k2:s.m.length - s.m.length=0:=by omega
  go_wp2_with(at_builtin;refine Mm rfl (.tmp 7) (.tmp 13) 83 139 rfl N underlying83 O _ _ rfl (by simp[Act.eval];rfl) ?_);all_goals
   go_ret;refine⟨none,0,rfl,?_,k.u⟩;rw[q.u];exact lq _ _ _ _
 have A:0<s.m.length - F:=by omega
 have m:∀j u,(jM (s.m.drop F))[j]?=some u->w.cell? ⟨g,F*2+j,none⟩=some u:=λj u r=>by
  rw[WK,List.getElem?_drop]at r;have hj:=(List.getElem?_eq_some_iff.1 r).1;rw[Mq]at hj;rwa[q4 _ hj]
 have T:=Y m;have W:=Y (show(jM tag).length=(s.m.length - F)*2 by rw[E.u,Mq];simp);clear d m;go_enter func236,ntmps236;go_wp2_with fail;go_call K.u as e v ⟨rfl,n,rfl⟩;have y:=(S.u.drewN n).cell;rw[cellsOf,G]at y;have HN:Hid (∀j u,(jM tag)[j]?=some u->(w.drewN n).cell? ((⟨g,F*2,none⟩:Addr).add j)=some u):=λj u r=>by
  have B:(⟨g,F*2,none⟩:Addr).add j=⟨g,F*2+j,none⟩:=by unfold Addr.add;split<;>simp_all
  rw[B];rw[E.u]at r;exact T.u j u r
 have f:Below w.heap.size w (w.drewN n):=⟨rfl,rfl,rfl,ajQ<|by rw[heap_drewN],λ_ _=>by rw[heap_drewN]⟩;have k:=Y f;have t:=Y (show(w.drewN n).heap.size=w.heap.size by rw[heap_drewN]);have C:Hid ((w.drewN n).ownsRow w.heap.size 139 2 (.slice none 0 0) 0 []):=lq _ _ _ _;clear f;generalize w.drewN n=v at *;have k1:¬(F:Int)<0:=by omega
 have k2:(F:Int)<=(s.m.length:Int):=by omega
 have k3:¬(s.m.length:Int)<(F:Int):=by omega
 have o:∀u∈jM tag,u.oneCell' =true:=λu r=>by
  obtain⟨p,_,hp⟩:=mem_flatMap.1 r;exact Mc p u hp
 have D:=Y o;clear o;go_wp2_with(at_builtin;refine lI _ rfl (.tmp 7) (.tmp 13) 83 rfl w.heap.size 139 N _ 2 32 underlying83 O P Q R rfl (by decide) (.slice none 0 0) 0 [] rfl C.u ⟨g,F*2,none⟩ (s.m.length - F) (L.bc - F) (jM tag) (by simp[Act.eval]) W.u HN.u D.u A (by unfold maxLen;omega) (by omega) (by rw[t.u];exact a_ _) w.heap.size t.u ?_;intro g2 a5 w2 hown hgrow X a3;rw[jV]at *;have HOW:=Y hown;have a0:=Y hgrow;clear hown hgrow X);all_goals
  go_ret;have a1:=a0.u;have a2:Below w.heap.size v w2:=by
   have:=WJ a1;rwa[t.u]at this
  exact⟨_,_,rfl,HOW.u,k.u.trans a2⟩
def Ms{d:Nat}{a:Option Addr}{p:List Value}(h:w.ownsRow d e b (.slice a n c) n p)(k:Nat)(q:k<=n):w.ownsRow d e b (.slice a k c) k (p.take (k*b)):=by
 have A:=h.1;have r:k*b<=n*b:=oO _ q;refine⟨by rw[iB];omega,?_⟩;obtain⟨s,B⟩|⟨g,i,j,t,u,v,x,y,l,f⟩:=h.2
 .injection s with m z o;have:k=0:=by omega
  subst this;exact .inl ⟨by rw[m,o],rfl⟩
 injection t with m z o;refine .inr ⟨g,i,j,by rw[m,o],u,v,by omega,y,l,?_⟩;rw[<-f,CY];congr 1
 omega
def WL(l:List (U×U)):∀(k:Nat),jM (l.take k)=(jM l).take (k*2):=by
 induction l with
 |nil=>intro k;simp[jM]
 |cons x r ih=>
  intro k;cases k with
  |zero=>simp[jM]
  |succ k=>
   have a:jM (x::r)=.string ⟨x.1.toArray⟩::.string ⟨x.2.toArray⟩::jM r:=rfl;have b:(k+1)*2=k*2+1+1:=by omega
   have c:jM (x::r.take k)=.string ⟨x.1.toArray⟩::.string ⟨x.2.toArray⟩::jM (r.take k):=rfl;rw[oq,a,b,c,oq,oq,ih k]
section
variable {w0 w:World}{b:Nat}{f0:List Nat}{s:Z}{L:Lay}
def Mv.Dq(m:Mv w0 b f0 w s L)(k:Nat)(e:k<=s.m.length):Mv w0 b f0 (w.setCell ⟨b,7,none⟩ (.slice L.ba k L.bc)) {s with m:=s.m.take k} L:=by
 have hrow:=m.X.rows.own (fK s L) (by simp[rowsOf]);have c:w.ownsRow (b - 1) 139 2 (.slice L.ba s.m.length L.bc) s.m.length (jM s.m):=hrow;have a:(s.m.take k).length=k:=by rw[iB];omega
 have hown:(fK {s with m:=s.m.take k} L).owned w (b - 1):=by
  show w.ownsRow (b - 1) 139 2 (.slice L.ba (s.m.take k).length L.bc) (s.m.take k).length (jM (s.m.take k));rw[a,WL];exact Ms c k e
 have d:w.grownBy w (fK s L).v.ownBlock:=⟨rfl,rfl,rfl,a_ _,λ_ _ _=>rfl⟩;refine m.grow (s' :={s with m:=s.m.take k}) (L' :=L) (r:=fK s L) (r' :=fK {s with m:=s.m.take k} L) (rs:=eH s L::fV s L::eC s L::fE s L::gN s L::fW s L::L.es.map bR) 7 _ (Ba _ _ _ _ _ _ _) (Ba _ _ _ _ _ _ _) hown d (.inl ?_) ?_ m.X.evs
 .simp only[fK];cases L.ba<;>rfl
 simp[cellsOf,a]
def Mv.Mt(m:Mv w0 b f0 w s L)(k:Nat)(e:k<=s.T.length):Mv w0 b f0 (w.setCell ⟨b,8,none⟩ (.slice L.ca k L.cc)) {s with T:=s.T.take k} L:=by
 have hrow:=m.X.rows.own (fW s L) (by simp[rowsOf]);have c:w.ownsRow (b - 1) 3 1 (.slice L.ca s.T.length L.cc) s.T.length (s.T.map nv):=hrow;have a:(s.T.take k).length=k:=by rw[iB];omega
 have hown:(fW {s with T:=s.T.take k} L).owned w (b - 1):=by
  show w.ownsRow (b - 1) 3 1 (.slice L.ca (s.T.take k).length L.cc) (s.T.take k).length ((s.T.take k).map nv);rw[a,AF];have:=Ms c k e;rwa[uz]at this
 have d:w.grownBy w (fW s L).v.ownBlock:=⟨rfl,rfl,rfl,a_ _,λ_ _ _=>rfl⟩;refine m.grow (s' :={s with T:=s.T.take k}) (L' :=L) (r:=fW s L) (r' :=fW {s with T:=s.T.take k} L) (rs:=eH s L::fV s L::eC s L::fE s L::gN s L::fK s L::L.es.map bR) 8 _ (Dp _ _ _ _ _ _ _ _) (Dp _ _ _ _ _ _ _ _) hown d (.inl ?_) ?_ m.X.evs
 .simp only[fW];cases L.ca<;>rfl
 simp[cellsOf,a]
end
def WM(h:bC w b s L)(O:s.m.length<=300000000)(r:s.T.length<=100000100)(t:∀c∈s.T,c<=32):
 Calls prog 232 #[.pointer (some ⟨b,7,none⟩)] w λe w' =>e=.returned (.tuple #[])/\∃P,Mv w b (aY s L) w' (nO s) P:=by
 have C:=Y (Ml h O r t);have v:=Mi s;have y:nO s={s with m:=s.m.take (oM s),T:=s.T.dropLast}:=rfl;rw[y];clear y;generalize oM s=F at *;have D:=Y h;have d:w.ownsRow (b - 1) 139 2 (.slice L.ba s.m.length L.bc) s.m.length (jM s.m):=h.rows.own (fK s L) (by simp[rowsOf]);have f:=Gm d;clear d t;by_cases z:s.T=[]
 .have K:s.T.length=0:=by simp[z]
  have i:s.T.dropLast=s.T:=by rw[z];rfl
  rw[i];clear h z i;obtain⟨j,o,A⟩|⟨g,j,o,A,G⟩:=f
  .have H:F=0:=by omega
   subst H;go_enter func232,ntmps232;go_wp2_with fail;go_call C.u as e p ⟨rfl,n,rfl⟩;have a:=D.u.start.drewN n;obtain⟨k,I,q⟩:=a.X.zzv;have m:=Y (a.Dq 0<|by omega);unfold cellsOf at k;rw[j,o]at m;rw[j,o,A,K]at k;clear a;generalize w.drewN n=p at *;go_wp2;go_end0
   exact⟨rfl,L,m.u⟩
  go_enter func232,ntmps232;go_wp2_with fail;go_call C.u as e p ⟨rfl,n,rfl⟩;have a:=D.u.start.drewN n;obtain⟨k,I,q⟩:=a.X.zzv;have m:=Y (a.Dq F v);unfold cellsOf at k;rw[j]at m;rw[j,K]at k;clear a G;have Q:¬(F:Int)<0:=by omega
  have R:(F:Int)<=(L.bc:Int):=by omega
  generalize w.drewN n=p at *;go_wp2;go_end0
  exact⟨rfl,L,m.u⟩
 obtain⟨l,x,W,N,B,E,X,S⟩:=Mj h z;have i:s.T.dropLast=s.T.take l.length:=by rw[N];simp
 rw[i];clear h z i N S;rw[B]at r;have T:((l.length+1:Nat):Int) - 1=(l.length:Int):=by omega
 obtain⟨j,o,A⟩|⟨g,j,o,A,G⟩:=f
 .have H:F=0:=by omega
  subst H;go_enter func232,ntmps232;go_wp2_with fail;go_call C.u as e p ⟨rfl,n,rfl⟩;have a:=D.u.start.drewN n;obtain⟨k,I,q⟩:=a.X.zzv;have m:=Y (((a.Dq 0<|by omega).Mt l.length (by rw[B];omega)).drew);unfold cellsOf at k;rw[j,o,E]at m;rw[j,o,A,B,E]at k;clear a;generalize w.drewN n=p at *;go_wp2;go_region;all_goals
   go_wp2;go_end0
   exact⟨rfl,L,m.u⟩
 go_enter func232,ntmps232;go_wp2_with fail;go_call C.u as e p ⟨rfl,n,rfl⟩;have a:=D.u.start.drewN n;obtain⟨k,I,q⟩:=a.X.zzv;have m:=Y (((a.Dq F v).Mt l.length<|by rw[B];omega).drew);unfold cellsOf at k;rw[j,E]at m;rw[j,B,E]at k;clear a G;have Q:¬(F:Int)<0:=by omega
 have R:(F:Int)<=(L.bc:Int):=by omega
 generalize w.drewN n=p at *;go_wp2;go_region;all_goals
  go_wp2;go_end0
  exact⟨rfl,L,m.u⟩
def Dv(h:∀c∈s.T,c<=32):(dZ s).length<=32:=by
 rw[dZ,oM,lm];split
 .omega
 rename_i c a;have:=h c (CV a);split<;>omega
def Mx(s:Z)(e:Ev):(aX s e).F.length<=s.F.length/\(aX s e).C.length<=s.C.length+2:=by
 unfold aX bK;split
 .exact⟨a_ _,by simp⟩
 exact⟨by simp,by simp⟩
structure My(w1:World)(b:Nat)(f0:List Nat)(tag:List (U×U))(ou:Z)(wy:World)(t:Z)(i:Nat)(L1:Lay):Prop where
 mv:Mv w1 b f0 wy t L1
 fin:ou=gJ t (tag.drop i)
 x:t.F.length<=100000000
 l:t.C.length<=700000000+2*i
 le:i<=tag.length
def WV(h:bC w b s L)(z:Bd s):
 Calls prog 234 #[.pointer (some ⟨b,0,none⟩)] w λe w' =>e=.returned (.tuple #[])/\∃L', Mv w b (aY s L) w' (gK s) L' :=by
 have S:=Y (Mr h (cL z.hb) (cL z.hc) z.cb);have a0:=Dv z.cb;obtain⟨o,f⟩:=aj8 (gK s);rw[<-f];have j:o=gJ s ((dZ s).drop 0):=f;have T:=Y j;have hx:=z.hx;have hl:=z.hl;generalize dZ s=tag at *;have HS:=Y h.start;have I:=Y h.lt;have K:=Y h.jh;clear h z f j;go_enter func234,ntmps234;go_wp2_with fail;go_call S.u as e A ⟨a,c,rfl,hown,q⟩;have a1:=q.size;have HE:=Y λk hk=>vB (m:=2) (l:=tag) uH (λ_=>rfl) (by decide) hown k hk;have HOW:=Y hown.lt;have B:=HS.u.below q;have a2:=Y q;have W:Hid (My A b (aY s L) tag o A s 0 L):=⟨B.X.start,T.u,hx,by omega,by omega⟩;have N:=Y B;clear hown q B S T;go_wp2_with fail;go_loopg [3] tag.length λg s3 wx=>∃(F:World) (t:Z) (i:Nat) (O:Lay),F=wx/\g=tag.length - i/\s3=.int .i64 (i:Int)/\Hid (My A b (aY s L) tag o F t i O);case atStart=>exact⟨A,s,0,L,rfl,rfl,rfl,W⟩
 case round=>
  obtain⟨F,t,i,O,P,rfl,rfl,d⟩:=hrel;subst P;clear W;have a3:=d.u.le;have X:=d.u.mv.X.lt;by_cases h3:i<tag.length
  .have e1:decide ((i:Int)<(tag.length:Int))=true:=aj_;have a4:(i:Int)<(tag.length:Int):=by omega
   obtain⟨g,hg,Q,C⟩:=HE.u i h3;have c0:A.cell? ⟨g,i*2,none⟩=some (.string ⟨tag[i].1.toArray⟩):=C 0 (by decide);have c1:A.cell? ⟨g,i*2+1,none⟩=some (.string ⟨tag[i].2.toArray⟩):=C 1 (by decide);have a5:w.heap.size<=g:=(HOW.u g<|by rw[hg];rfl).1;have D:F.heap[g]?=A.heap[g]?:=d.u.mv.fr.block g Q (by have:=I.u;omega) (λhm=>by have:=(K.u g hm).2;omega);have d0:F.cell? ⟨g,i*2,none⟩=some (.string ⟨tag[i].1.toArray⟩):=by rw[<-c0];simp only[World.cell?,D]
   have d1:F.cell? ⟨g,i*2+1,none⟩=some (.string ⟨tag[i].2.toArray⟩):=by rw[<-c1];simp only[World.cell?,D]
   have r:=d.u.fin;rw[gB h3]at r;unfold gJ at r;have HA:=Y λn=>add_nil (d.u.mv.X.drewN n) ⟨6,tag[i].1,[],tag[i].2,[]⟩ rfl (cL d.u.x<|by decide) (by have:=d.u.l;omega);have y:=Mx t ⟨6,tag[i].1,[],tag[i].2,[]⟩;generalize tag[i].1=p at *;generalize tag[i].2=v at *;subst hg;have E:=Y r;have G:=Y y;clear r y C c0 c1 D;go_wp2;go_region_with (go_at_call 188;go_call(HA.u _)as e w2 ⟨rfl,L2,H⟩);all_goals
    have R:=Y ((d.u.mv.drewN _).call H);clear H;go_wp2;go_roundg (tag.length - (i+1));case measure=>omega
    case rel=>exact⟨_,_,i+1,L2,rfl,rfl,by simp,⟨R.u,E.u,cL G.u.1 d.u.x,by have:=G.u.2;have:=d.u.l;omega,by omega⟩⟩
  have e1:decide ((i:Int)<(tag.length:Int))=false:=aj9;have r:=d.u.fin;rw[iF]at r;have E:=Y (show o=t from r);clear r;go_wp2;go_end0
  rw[E.u];exact⟨rfl,O,N.u.call d.u.mv⟩
structure MB(w1:World)(b:Nat)(f0:List Nat)(tag:List (U×U))(ou:Z)(wy:World)(t:Z)(i:Nat)(L1:Lay):Prop where
 mv:Mv w1 b f0 wy t L1
 fin:ou=iV t (tag.take i).reverse
 x:t.F.length<=100000000
 l:t.C.length<=700000100 - 2*i
 le:i<=tag.length
def WW(h:bC w b s L)(y:Bd s):
 Calls prog 231 #[.pointer (some ⟨b,0,none⟩)] w λe w' =>e=.returned (.tuple #[])/\∃L', Mv w b (aY s L) w' (jb s) L' :=by
 have W:=Y (Mr h (cL y.hb) (cL y.hc) y.cb);have a1:=Dv y.cb;obtain⟨j,q⟩:=aj8 (jb s);rw[<-q];have f:j=iV s ((dZ s).take (dZ s).length).reverse:=by rwa[tv]
 have X:=Y f;have hx:=y.hx;have hl:=y.hl;generalize dZ s=tag at *;have HS:=Y h.start;have I:=Y h.lt;have K:=Y h.jh;clear h y q f;go_enter func231,ntmps231;go_wp2_with fail;go_call W.u as e B ⟨a,c,rfl,hown,o⟩;have a2:=o.size;have HE:=Y λk H=>vB (m:=2) (l:=tag) uH (λ_=>rfl) (by decide) hown k H;have HOW:=Y hown.lt;have z:=HS.u.below o;have a3:=Y o;have HI:Hid (MB B b (aY s L) tag j B s tag.length L):=⟨z.X.start,X.u,hx,by omega,by omega⟩;have N:=Y z;clear hown o z W X;go_wp2_with fail;go_loopg [3] tag.length λg s3 wx=>∃(C:World) (t:Z) (i:Nat) (O:Lay),C=wx/\g=i/\s3=.int .i64 ((i:Int) - 1)/\Hid (MB B b (aY s L) tag j C t i O);case atStart=>exact⟨B,s,tag.length,L,rfl,rfl,rfl,HI⟩
 case round=>
  obtain⟨C,t,i,O,P,Q,rfl,d⟩:=hrel;obtain rfl:=Q.symm;subst P;clear HI;have a4:=d.u.le;have a0:=d.u.mv.X.lt;by_cases h3:0<i
  .have e1:decide (0<=(i:Int) - 1)=true:=aj_;obtain⟨k,rfl⟩:∃k,i=k+1:=⟨i - 1,by omega⟩;have R:(((k+1:Nat):Int) - 1)=(k:Int):=by omega
   rw[R]at e1⊢;have H:k<tag.length:=by omega
   have a5:(k:Int)<(tag.length:Int):=by omega
   obtain⟨g,hg,S,D⟩:=HE.u k H;have c0:B.cell? ⟨g,k*2,none⟩=some (.string ⟨tag[k].1.toArray⟩):=D 0 (by decide);have a6:w.heap.size<=g:=(HOW.u g<|by rw[hg];rfl).1;have E:C.heap[g]?=B.heap[g]?:=d.u.mv.fr.block g S (by have:=I.u;omega) (λhm=>by have:=(K.u g hm).2;omega);have d0:C.cell? ⟨g,k*2,none⟩=some (.string ⟨tag[k].1.toArray⟩):=by rw[<-c0];simp only[World.cell?,E]
   have r:=d.u.fin;rw[Ga tag k H,reverse_append,reverse_singleton,singleton_append]at r;unfold iV at r;have HA:=Y λn=>add_nil (d.u.mv.X.drewN n) ⟨7,tag[k].1,[],[],[]⟩ rfl (cL d.u.x<|by decide) (by have:=d.u.l;omega);have v:=Mx t ⟨7,tag[k].1,[],[],[]⟩;generalize tag[k].1=p at *;subst hg;have A:=Y r;have F:=Y v;clear r v D c0 E;go_wp2;go_region_with (go_at_call 188;go_call(HA.u _)as e w2 ⟨rfl,L2,G⟩);all_goals
    have T:=Y ((d.u.mv.drewN _).call G);clear G;go_wp2;go_roundg k;case measure=>omega
    case rel=>exact⟨_,_,k,L2,rfl,rfl,by simp,⟨T.u,A.u,cL F.u.1 d.u.x,by have:=F.u.2;have:=d.u.l;omega,by omega⟩⟩
  have e1:decide (0<=(i:Int) - 1)=false:=aj9;have r:=d.u.fin;obtain rfl:i=0:=by omega
  rw[take_zero,reverse_nil]at r;have A:=Y (show j=t from r);clear r;go_wp2;go_end0
  rw[A.u];exact⟨rfl,O,N.u.call d.u.mv⟩
section
variable {w0 w w' :World}{b:Nat}{f0:List Nat}{s:Z}{L:Lay}
def Mv.MC(m:Mv w0 b f0 w s L)(x:U){g:Nat}(hown:w'.ownsRow (b - 1) 9 1 (.slice (some ⟨g,0,none⟩) (s.I.length+1) a) (s.I.length+1) (s.I.map sv++[.string ⟨x.toArray⟩]))
 (d:w.grownBy w' (eH s L).v.ownBlock) (c:(Value.slice L.oa s.I.length L.oc).ownBlock=some g\/g=w.heap.size):
 Mv w0 b f0 (w'.setCell ⟨b,5,none⟩ (.slice (some ⟨g,0,none⟩) (s.I.length+1) a)) {s with I:=s.I++[x]} {L with oa:=some ⟨g,0,none⟩,oc:=a}:=by
 refine m.grow (r:=eH s L) (r' :=eH {s with I:=s.I++[x]} {L with oa:=some ⟨g,0,none⟩,oc:=a}) (rs:=fV s L::eC s L::fE s L::gN s L::fK s L::fW s L::L.es.map bR) 5 _ (.refl _) (.refl _) ?_ d ?_ ?_ m.X.evs
 .show World.ownsRow _ _ _ _ _ _ _;simp only[eH,bT,cT,fB,jV,mP,lf,qO];exact hown
 .rcases c with h|h
  .exact .inl h.symm
  exact .inr (by rw[h];rfl)
 simp[cellsOf]
def Mv.WX(m:Mv w0 b f0 w s L)(x:aI)(a:s.am=false){g:Nat}(hown:w'.ownsRow (b - 1) 69 3 (.slice (some ⟨g,0,none⟩) (s.f.length+1) c) (s.f.length+1) (cQ s.f++gG x))
 (f:w.grownBy w' (Value.slice L.aa s.f.length L.ac).ownBlock) (d:(Value.slice L.aa s.f.length L.ac).ownBlock=some g\/g=w.heap.size):
 Mv w0 b f0 (w'.setCell ⟨b,13,none⟩ (.slice (some ⟨g,0,none⟩) (s.f.length+1) c)) {s with f:=s.f++[x]} {L with aa:=some ⟨g,0,none⟩,ac:=c}:=by
 have e:(eC s L).v=.slice L.aa s.f.length L.ac:=by simp[eC,a]
 refine m.grow (r:=eC s L) (r' :=eC {s with f:=s.f++[x]} {L with aa:=some ⟨g,0,none⟩,ac:=c}) (rs:=eH s L::fV s L::fE s L::gN s L::fK s L::fW s L::L.es.map bR) 13 _ (rI _ _ _ _) (rI _ _ _ _) ?_ (by rwa[e]) ?_ ?_ m.X.evs
 .show World.ownsRow _ _ _ _ _ _ _;simp only[eC,a,bT,cT,fB,jV,cQ,nB,mQ,Ay,aj1];exact hown
 .rw[e];obtain h|h:=d
  .exact .inl (by simp[eC,a];exact h.symm)
  exact .inr (by rw[h];simp[eC,a];rfl)
 simp[cellsOf]
end
theorem Gu:(prog.info? 9).map (λi=>(i.zero,i.size,i.bytes))=some (some (.string ByteArray.empty),1,16):=by kernel_rfl
theorem infoAt:(prog.info? 69).map (λi=>(i.zero,i.size,i.bytes))=some (some (.agg #[.string ByteArray.empty,.string ByteArray.empty,.string ByteArray.empty]),3,48):=by kernel_rfl
def WY(a:aI):∀u∈gG a,u.oneCell' =true:=by
 intro u b;simp[gG]at b;obtain rfl|rfl|rfl:=b<;>rfl
def WZ(h:Bd s):(gK s).B=s.B/\(gK s).f=s.f/\(gK s).am=false/\(gK s).F.length<=100000000/\(gK s).C.length<=700000100/\(gK s).m=s.m/\Mk.bQ (gK s) s.B=Mk.bQ s s.B:=by
 have e:=WU s;have a:=Gs (dZ s) s;have b:=Dv h.cb;have c:=h.hx;have d:=h.hl;refine⟨by rw[e],by rw[e],by rw[e];exact h.am,?_,?_,by rw[e],by rw[e];rfl⟩
 .show(gJ s (dZ s)).F.length<=_;omega
 show(gJ s (dZ s)).C.length<=_;omega
def Gv(h:bC w b s L)(f:Bd s):
 Calls prog 226 #[.pointer (some ⟨b,0,none⟩)] w λe w' =>e=.returned (.tuple #[])/\∃C,Mv w b (aY s L) w' (bX s) C:=by
 have p:=Y (WV h f);obtain⟨i,q,r,D,E,v,x⟩:=WZ f;have y:=Y (show bX s={aX (gK s) ⟨1,s.B,Mk.bQ s s.B,[],s.f⟩with f:=[]}from rfl);have c:=f.hn;have j:=f.hb;have N:=Y h.start;rw[<-x,<-q,<-i]at y;rw[<-i]at c;rw[<-v]at j;generalize gK s=t at *;generalize bX s=z at *;clear h f i q v x;go_enter func226,ntmps226;go_wp2_with fail;go_call p.u as e O ⟨rfl,P,a⟩;obtain⟨A,F,G⟩:=a.X.zzv;have k:=Y (yQ a.X (by omega) t.B c);have l:=Y (yQ a.drew.X (by omega) t.B c);have HA:=Y λn=>VU (a.X.drewN n) ⟨1,t.B,Mk.bQ t t.B,[],t.f⟩ rfl r (cL D) (cL E);have g:=Y a;generalize Mk.bQ t t.B=H at *;unfold cellsOf at A;clear a p;go_wp2_with first|(go_at_call 230;go_call k.u as e w2 ⟨rfl,rfl⟩)|(go_at_call 230;go_call l.u as e w2 ⟨rfl,rfl⟩)
 go_region_with (go_at_call 188;go_call(HA.u _)as e w2 ⟨rfl,Q,d⟩);all_goals
  obtain⟨m,I,B⟩:=d.X.zzv;have o:=Y (((g.u.drewN _).call d).VB);unfold cellsOf at m;clear d g A F;go_wp2;go_end0
  have K:z={{aX t ⟨1,t.B,H,[],t.f⟩with am:=true}with f:=[],am:=false}:=by
   rw[y.u];unfold aX bK;split<;>simp[r]
  rw[K];exact⟨rfl,_,o.u⟩
def W_(h:Bd s)(hl:s.C.length+2<=700000000)(e:Ev):Bd (aX s e):=by
 have e0:=kI s e;have a:=Gr s e;have b:=h.hx;rw[e0]at a⊢;dsimp only at a;exact{h with hx:=by show(aX s e).F.length<=_;omega,hl:=by show(aX s e).C.length<=_;omega}
def Gw(h:bC w b s L)(j:Bd s)(X:s.C.length+100<=700000000)(x:U)(G:x.length<=100000000):
 Calls prog 222 #[.pointer (some ⟨b,0,none⟩),.string ⟨x.toArray⟩] w λe w' =>e=.returned (.tuple #[])/\∃L', Mv w b (aY s L) w' (bZ s x) L' :=by
 have D:=Y (show bZ s x=Mk.iy {nO (jb (aX s ⟨2,x,Mk.bQ s x,[],[]⟩))with over:=decide (s.I.length=0)}from rfl);have k:=Y (yQ h (cL j.hb) x G);generalize Mk.bQ s x=E at *;have Q:=Y λn=>add_nil (h.drewN n) ⟨2,x,E,[],[]⟩ rfl (cL j.hx) (cL j.hl);have c:=Y (W_ j (by omega) ⟨2,x,E,[],[]⟩);have R:(aX s ⟨2,x,E,[],[]⟩).I=s.I:=by rw[kI]
 have l:=Y h.start;have S:=j.ho;generalize bZ s x=z at *;rw[<-R]at D S;generalize aX s ⟨2,x,E,[],[]⟩=t at *;have F:=WS t;have m:(jb t).m=t.m:=by rw[F]
 have p:(jb t).T=t.T:=by rw[F]
 have q:(nO (jb t)).I=t.I:=by rw[nO,F]
 have H:=Y (ajN m p);generalize r:jb t=u at *;have I:=Y r;clear h j R F m p r;go_enter func222,ntmps222;go_wp2_with(go_at_call 230;go_call k.u as e w2 ⟨rfl,rfl⟩);go_call(Q.u 0)as e w2 ⟨rfl,L2,d⟩;have K:=Y (WW d.X c.u);rw[I.u]at K;have y:=Y (l.u.call d);clear d Q l k;go_wp2_with fail;go_call K.u as e w3 ⟨rfl,L3,f⟩;have T:=Y (WM f.X (by rw[H.u.1];exact cL c.u.hb (by decide)) (by rw[H.u.2];exact cL c.u.hc (by decide)) (by rw[H.u.2];exact c.u.cb));have A:=Y (y.u.call f);clear f K y;generalize nO u=v at *;go_wp2_with fail;go_call T.u as e w4 ⟨rfl,L4,B⟩;have a:=A.u.call B;obtain⟨N,a0,W⟩:=a.X.zzv;rw[<-q]at D S;obtain⟨o,g⟩:=akb (decide (v.I.length=0));rw[g]at D;have i:=a.store 6 (.bool o) {v with over:=o} rfl rfl rfl;have H3:=Y (A_ i.X);have O:=Y i;have ed:((v.I.length:Int)==0)=o:=by rw[<-g,kF,ajP,wS];omega
 unfold cellsOf at N;clear B a i T A g q;go_wp2_with(go_at_call 189;go_call H3.u as e w5 ⟨rfl,C⟩;have P:=Y C;clear C);go_end0
 rw[D.u];exact⟨rfl,L4,O.u.call P.u⟩
def Xu(h:bC w b s L)(k:Bd s)(x:Int)(q:0<=x)(r:x<=255):
 Calls prog 139 #[.pointer (some ⟨b,0,none⟩),.int .u8 x] w (Does w b s L (eG s x)):=by
 obtain⟨t,A,v⟩:=h.zzv;have l:=Y h;have B:=k.ho;have d:=Y (WR h k x q r);unfold cellsOf at t;clear h k;cases f:(x==33);focus
  cases i:(x==63);focus
   cases o:(x==47);focus
    have c:x≠47:=by simpa using o
    cases j:dP x;focus
     have a:eG s x=(s,3):=by simp[eG,f,i,c,j]
     rw[a];clear a d c
    rotate_left;focus
     cases m:s.over;focus
      have a:eG s x=Mk.mg s x:=by simp[eG,f,i,c,j,m]
      rw[a];clear a c
     rotate_left;focus
      have a:eG s x=(s,3):=by simp[eG,f,i,c,j,m]
      rw[a];clear a d c
   rotate_left 3;focus
    have c:x=47:=by simpa using o
    by_cases n:0<s.I.length;focus
     have a:eG s x=({s with H:=20,aW:=0},0):=by simp[eG,c,n]
     rw[a];clear a d c
    rotate_left;focus
     have j:dP x=false:=by rw[c];decide
     have a:eG s x=(s,3):=by simp[eG,c,n,show dP 47=false by decide]
     rw[a];have m:s.I.length=0:=by omega
     clear a d c n
  rotate_left 5;focus
   have a:eG s x=({s with H:=8},0):=by simp[eG,f,i]
   rw[a];clear a d
 rotate_left 6;focus
  have a:eG s x=({s with H:=4},0):=by simp[eG,f]
  rw[a];clear a d
 all_goals
  go_enter func139,ntmps139;first
   |(go_wp2_with(go_at_call 190;go_call(vz _ _)as e p ⟨rfl,rfl⟩);go_ret;exact⟨rfl,L,l.u.start⟩)
   |(go_wp2_with(first|(go_at_call 190;go_call(vz _ _)as e p ⟨rfl,rfl⟩)|(go_at_call 191;go_call d.u as e p ⟨rfl,y,g⟩;have z:=Y g;clear g));go_ret;exact⟨rfl,y,z.u⟩)
   |(go_wp2;go_ret;exact⟨rfl,L,(l.u.start.store 4 (.int .i64 20) {s with H:=20} rfl rfl rfl).store 17 _ _ rfl rfl rfl⟩)
   |(go_wp2;go_ret;exact⟨rfl,L,l.u.start.store 4 _ _ rfl rfl rfl⟩)
def Xv(h:bC w b s L)(f:Bd s)(x:Int)(l:0<=x)(m:x<=255):
 Calls prog 140 #[.pointer (some ⟨b,0,none⟩),.int .u8 x] w (Does w b s L (gF s x)):=by
 obtain⟨j,n,k⟩:=h.zzv;have d:=Y h;have o:=f.ho;unfold cellsOf at j;clear h f;cases g:(x==45);focus
  cases i:(x==91);focus
   have c:x≠91:=by simpa using i
   have a:gF s x=(s,3):=by simp[gF,g,c]
   rw[a];clear a c
  rotate_left;focus
   have c:x=91:=by simpa using i
   by_cases e:0<s.I.length;focus
    have a:gF s x=({s with H:=6,aW:=0},0):=by simp[gF,c,e]
    rw[a];clear a c
   rotate_left;focus
    have a:gF s x=(s,3):=by simp[gF,c,e]
    rw[a];have p:s.I.length=0:=by omega
    clear a c e
 rotate_left 3;focus
  have a:gF s x=({s with H:=5},0):=by simp[gF,g]
  rw[a];clear a
 all_goals
  go_enter func140,ntmps140;go_wp2;go_ret;first
   |(exact⟨rfl,L,d.u.start⟩)
   |(exact⟨rfl,L,(d.u.start.store 4 (.int .i64 6) {s with H:=6} rfl rfl rfl).store 17 _ _ rfl rfl rfl⟩)
   |(exact⟨rfl,L,d.u.start.store 4 _ _ rfl rfl rfl⟩)
def Xw(h:bC w b s L)(i:Bd s)(x:Int)(m:0<=x)(n:x<=255):
 Calls prog 142 #[.pointer (some ⟨b,0,none⟩),.int .u8 x] w (Does w b s L (dQ s x)):=by
 obtain⟨j,o,k⟩:=h.zzv;have e:=Y h;have p:=i.m0;unfold cellsOf at j;clear h i;by_cases l:6<=s.aW;focus
  have a:dQ s x=(s,3):=by simp[dQ,l]
  rw[a];clear a
 rotate_left;focus
  rcases(by omega:s.aW=0\/s.aW=1\/s.aW=2\/s.aW=3\/s.aW=4\/s.aW=5)with g|g|g|g|g|g;focus
   cases d:(x==67);focus
    have c:x≠67:=by simpa using d
    have a:dQ s x=(s,3):=by simp[dQ,g,lK];omega
    rw[a];have f:((((⟨#[67,68,65,84,65,91]⟩:ByteArray)[0]'(by decide)).toNat:Int) !=x)=true:=by show((67:Int) !=x)=true;simp;omega
    clear a c
   rotate_left
   .have c:x=67:=by simpa using d
    have a:dQ s x=({s with aW:=1},0):=by simp[dQ,g,c,lK]
    rw[a];clear a;subst c;go_enter func142,ntmps142;go_wp2;go_ret;exact⟨rfl,L,(e.u.start.store 17 (.int .i64 1) {s with aW:=1} rfl rfl rfl)⟩
  rotate_left;focus
   cases d:(x==68);focus
    have c:x≠68:=by simpa using d
    have a:dQ s x=(s,3):=by simp[dQ,g,lK];omega
    rw[a];have f:((((⟨#[67,68,65,84,65,91]⟩:ByteArray)[1]'(by decide)).toNat:Int) !=x)=true:=by show((68:Int) !=x)=true;simp;omega
    clear a c
   rotate_left
   .have c:x=68:=by simpa using d
    have a:dQ s x=({s with aW:=2},0):=by simp[dQ,g,c,lK]
    rw[a];clear a;subst c;go_enter func142,ntmps142;go_wp2;go_ret;exact⟨rfl,L,(e.u.start.store 17 (.int .i64 2) {s with aW:=2} rfl rfl rfl)⟩
  rotate_left;focus
   cases d:(x==65);focus
    have c:x≠65:=by simpa using d
    have a:dQ s x=(s,3):=by simp[dQ,g,lK];omega
    rw[a];have f:((((⟨#[67,68,65,84,65,91]⟩:ByteArray)[2]'(by decide)).toNat:Int) !=x)=true:=by show((65:Int) !=x)=true;simp;omega
    clear a c
   rotate_left
   .have c:x=65:=by simpa using d
    have a:dQ s x=({s with aW:=3},0):=by simp[dQ,g,c,lK]
    rw[a];clear a;subst c;go_enter func142,ntmps142;go_wp2;go_ret;exact⟨rfl,L,(e.u.start.store 17 (.int .i64 3) {s with aW:=3} rfl rfl rfl)⟩
  rotate_left;focus
   cases d:(x==84);focus
    have c:x≠84:=by simpa using d
    have a:dQ s x=(s,3):=by simp[dQ,g,lK];omega
    rw[a];have f:((((⟨#[67,68,65,84,65,91]⟩:ByteArray)[3]'(by decide)).toNat:Int) !=x)=true:=by show((84:Int) !=x)=true;simp;omega
    clear a c
   rotate_left
   .have c:x=84:=by simpa using d
    have a:dQ s x=({s with aW:=4},0):=by simp[dQ,g,c,lK]
    rw[a];clear a;subst c;go_enter func142,ntmps142;go_wp2;go_ret;exact⟨rfl,L,(e.u.start.store 17 (.int .i64 4) {s with aW:=4} rfl rfl rfl)⟩
  rotate_left;focus
   cases d:(x==65);focus
    have c:x≠65:=by simpa using d
    have a:dQ s x=(s,3):=by simp[dQ,g,lK];omega
    rw[a];have f:((((⟨#[67,68,65,84,65,91]⟩:ByteArray)[4]'(by decide)).toNat:Int) !=x)=true:=by show((65:Int) !=x)=true;simp;omega
    clear a c
   rotate_left
   .have c:x=65:=by simpa using d
    have a:dQ s x=({s with aW:=5},0):=by simp[dQ,g,c,lK]
    rw[a];clear a;subst c;go_enter func142,ntmps142;go_wp2;go_ret;exact⟨rfl,L,(e.u.start.store 17 (.int .i64 5) {s with aW:=5} rfl rfl rfl)⟩
  rotate_left;focus
   cases d:(x==91);focus
    have c:x≠91:=by simpa using d
    have a:dQ s x=(s,3):=by simp[dQ,g,lK];omega
    rw[a];have f:((((⟨#[67,68,65,84,65,91]⟩:ByteArray)[5]'(by decide)).toNat:Int) !=x)=true:=by show((91:Int) !=x)=true;simp;omega
    clear a c
   rotate_left
   .have c:x=91:=by simpa using d
    have a:dQ s x=({s with aW:=6,H:=2},0):=by simp[dQ,g,c,lK]
    rw[a];clear a;subst c;go_enter func142,ntmps142;go_wp2;go_ret;exact⟨rfl,L,(e.u.start.store 17 (.int .i64 6) {s with aW:=6} rfl rfl rfl).store 4 _ _ rfl rfl rfl⟩
 all_goals
  go_enter func142,ntmps142;go_wp2;go_ret;exact⟨rfl,L,e.u.start⟩
