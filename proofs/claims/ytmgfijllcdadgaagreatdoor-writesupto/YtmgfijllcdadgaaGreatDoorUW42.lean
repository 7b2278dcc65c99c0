import Derived.Test.YtmgfijllcdadgaaGreatDoorUW41
import Derived.Laws.Cover3
import Derived.Lib.BufferWrite
import Derived.OwnWalk
import Derived.Test.YtmgfijllcdadgaaGreatDoorUW30
set_option linter.all false
set_option maxHeartbeats 8000000
set_option maxRecDepth 100000
namespace Go.Proofs.YtmgfijllcdadgaaGreatDoor.U
open Go.RowKit
open V
open Go.Lib
open Go.Proofs.Tryz
open Rf (lG lZ)
open Mk
variable {S:Nat->Prop}{w w' :World}{g i k n b c:Nat}{e:TypeId}
def abX{a b c:Int}(h:lG a b c=false):a<1\/64<a\/b<0\/32<b\/c<8\/1024<c:=by
 unfold lG at h;split at h
 .rename_i d;simp at d;omega
 simp at h;omega
def abY(a b c:Int)(f:Bool)(h:lG a b c=false)(w:World):
 Calls prog 53 #[.agg #[.int .i64 a,.int .i64 b,.int .i64 c,.bool f]] w λe w' =>e=.returned (.bool false)/\w' =w.alloc (.cells #[.int .i64 a,.int .i64 b,.int .i64 c,.bool f] 40):=by
 have d:=abX h;clear h;by_cases m:a<1
 .have g:decide (1<=a)=false:=aj9;clear d;go_enter func53,ntmps53;go_wp2;go_ret;exact⟨rfl,rfl⟩
 have g:decide (1<=a)=true:=aj_;by_cases n:64<a
 .have i:decide (a<=64)=false:=aj9;clear d;go_enter func53,ntmps53;go_wp2;go_ret;exact⟨rfl,rfl⟩
 have i:decide (a<=64)=true:=aj_;by_cases o:b<0
 .have j:decide (0<=b)=false:=aj9;clear d;go_enter func53,ntmps53;go_wp2;go_ret;exact⟨rfl,rfl⟩
 have j:decide (0<=b)=true:=aj_;by_cases p:32<b
 .have k:decide (b<=32)=false:=aj9;clear d;go_enter func53,ntmps53;go_wp2;go_ret;exact⟨rfl,rfl⟩
 have k:decide (b<=32)=true:=aj_;by_cases q:c<8
 .have l:decide (8<=c)=false:=aj9;clear d;go_enter func53,ntmps53;go_wp2;go_ret;exact⟨rfl,rfl⟩
 have l:decide (8<=c)=true:=aj_;have r:decide (c<=1024)=false:=aj9;clear d;go_enter func53,ntmps53;go_wp2;go_ret;exact⟨rfl,rfl⟩
def Ja(a b c:Int)(d:Bool)(h:lG a b c=false)(w:World):
 Calls prog 35 #[.agg #[.int .i64 a,.int .i64 b,.int .i64 c,.bool d]] w λe w' =>e=.returned (.tuple #[.pointer none,.int .i64 1])/\Below w.heap.size w w' :=by
 have HA:=Y λw=>abY a b c d h w;clear h;go_enter func35,ntmps35;go_wp2_with(go_at_call 53;go_call(HA.u _)as e w' ⟨rfl,rfl⟩);go_ret2;exact⟨rfl,((Below.refl _ _).alloc (a_ _) _).alloc (by simp) _⟩
def sg(m:Nat):U:=[35,UInt8.ofNat m,UInt8.ofNat (m / 256)]
def P_(m:Nat)(h:m<=1000000000000000)(w:World):Calls prog 76 #[.int .i64 (m:Int)] w λe w' =>e=.returned (.string ⟨(sg m).toArray⟩)/\Below w.heap.size w w' :=by
 have b:((UInt8.ofNat m).toNat:Int)=(m:Int) % 256:=by simp
 have c:((UInt8.ofNat (m / 256)).toNat:Int)=(m:Int) / 256 % 256:=by simp
 have d:=tJ (P:=prog) (w.alloc (.cells #[.int .u8 35,.int .u8 ((m:Int) % 256),.int .u8 ((m:Int) / 256 % 256)] 5)) 74 9 5 ⟨w.heap.size,0,none⟩ 3 (sg m) underlying74 underlying5 underlying9 (λj g=>by
  have f:=dI w (.cells #[.int .u8 35,.int .u8 ((m:Int) % 256),.int .u8 ((m:Int) / 256 % 256)] 5)
  match j,g with
  |0,_=>exact((bN f).1 0).trans (by simp[sg])
  |1,_=>exact((bN f).1 1).trans (by simp[sg])
  |2,_=>exact((bN f).1 2).trans (by simp[sg]))
 have a:(sg m).length=3:=rfl;rw[a]at d;clear b c a;go_enter func76,ntmps76;go_wp2_with fail;go_ret;exact⟨rfl,jG _ _⟩
def vS(c n:Int):Int:=if c<0 then(-(c+1)) % n else c % n
def Qa(c n:Int)(a:0<n):0<=vS c n/\vS c n<n:=by
 unfold vS;split<;>exact⟨Int.emod_nonneg _<|by omega,Int.emod_lt_of_pos _ a⟩
def Qb{k:IntKind}{a b:Int}(h:a=b):Ending.returned (.int k a)=.returned (.int k b):=by rw[h]
def Qc(c n:Int)(a: -9223372036854775808<=c)(b:c<=9223372036854775807)(d:0<n)(f:n<=1000000000000)(w:World):
 Calls prog 46 #[.int .i64 c,.int .i64 n] w λe w' =>e=.returned (.int .i64 (vS c n))/\w' =w:=by
 by_cases h:c<0
 .have e0:(n==0)=false:=akc;go_enter func46,ntmps46;go_wp2;go_ret;refine⟨Qb ?_,rfl⟩;rw[vS,J h,<-Int.neg_tmod,Int.tmod_eq_emod_of_nonneg<|by omega]
 have e0:(n==0)=false:=akc;go_enter func46,ntmps46;go_wp2;go_ret;refine⟨Qb ?_,rfl⟩;rw[vS,M]
def hd(s:U):U:=s++[81,82,83]
structure Ch(S:Nat->Prop)(w w' :World):Prop where
 os:w'.os=w.os
 tape:w'.tape=w.tape
 output:w'.output=w.output
 size:w.heap.size<=w'.heap.size
 block:∀k,k<w.heap.size->¬S k->w'.heap[k]?=w.heap[k]?
def Ch.refl(S:Nat->Prop)(w:World):Ch S w w:=⟨rfl,rfl,rfl,a_ _,λ_ _ _=>rfl⟩
def Ch.trans{S T:Nat->Prop}{w w1 w2:World}(h:Ch S w w1)(k:Ch T w1 w2)(c:∀q,q<w.heap.size->T q->S q):Ch S w w2:=
 ⟨k.os.trans h.os,k.tape.trans h.tape,k.output.trans h.output,cL h.size k.size,λq a b=>(k.block q (i_ a h.size) λd=>b (c q a d)).trans (h.block q a b)⟩
def Ch.of_below(h:Below w.heap.size w w'):Ch S w w' :=⟨h.os,h.tape,h.output,h.size,λk a _=>h.block k a⟩
def Ch.wide{T:Nat->Prop}(h:Ch S w w')(b:∀q,q<w.heap.size->S q->T q):Ch T w w' :=⟨h.os,h.tape,h.output,h.size,λk a c=>h.block k a λq=>c (b k a q)⟩
def mE(m:Nat):List Value:=[.int .i64 (-(m:Int)),.string ⟨(sg m).toArray⟩,.string ⟨#[]⟩,.string ⟨#[]⟩,.slice none 0 0]
def mA(m:Nat):List Value:=[.string ⟨(sg m).toArray⟩,.string ⟨#[]⟩,.string ⟨(sg m).toArray⟩]
def mN(m:Nat):List Value:=[.string ⟨(sg m).toArray⟩]
def mB(m:Nat):List Value:=[.int .u8 ((m:Int) % 256)]
structure iI(w:World)(k:Nat)(a:Option Addr)(n i:Nat)(el:List Value):Prop where
 le:n<=9223372036854775807
 row:0<n->∃g cur t,a=some ⟨g,0,none⟩/\w.heap[g]?=some (.cells cur t (0,0))/\n*k<=cur.size/\∀q,q<i->∀j,j<k->cur[q*k+j]?=el[j]?
def cB(a:Option Addr)(k:Nat):Prop:=a.map (·.block)=some k
def vT:cB (some ⟨g,i,none⟩) k↔g=k:=by simp[cB]
def iI.keep{a:Option Addr}{c:List Value}(h:iI w k a n i c)(f:∀q,cB a q->q<w.heap.size->w'.heap[q]?=w.heap[q]?):iI w' k a n i c:=
 ⟨h.le,λj=>by
  obtain⟨g,b,t,d,e,l⟩:=h.row j
  exact⟨g,b,t,d,(f g (d▸vT.2 rfl) (Array.getElem?_eq_some_iff.1 e).1).trans e,l⟩⟩
def jO(w:World)(g:Nat):Nat->List Value->World
 |_,[]=>w
 |o,v::l=>jO (w.setCell ⟨g,o,none⟩ v) g (o+1) l
def aj5:∀(l:List Value) {w:World} {g o t:Nat} {a:Array Value},w.heap[g]?=some (.cells a t (0,0))->o+l.length<=a.size->
 ∃b:Array Value,(jO w g o l).heap[g]?=some (.cells b t (0,0))/\b.size=a.size/\(∀j,j<o->b[j]?=a[j]?)/\∀j,j<l.length->b[o+j]?=l[j]?
 |[],w,g,o,t,a,h,_=>⟨a,h,rfl,λ_ _=>rfl,λj c=>by cases c⟩
 |v::l,w,g,o,t,a,h,e=>by
  rw[cT]at e;obtain⟨b,f,i,d,k⟩:=aj5 l (w:=w.setCell ⟨g,o,none⟩ v) (o:=o+1) (rY w g o a t v h) (by simp;omega);refine⟨b,f,by simpa using i,λj c=>?_,λj c=>?_⟩
  .rw[d j<|by omega,Array.getElem?_setIfInBounds_ne<|by omega]
  cases j with
  |zero=>rw[Az,d o<|by omega,Array.getElem?_setIfInBounds_self_of_lt<|by omega];rfl
  |succ j=>rw[show o+(j+1)=o+1+j by omega,k j<|by simpa using c];rfl
def xL:∀(l:List Value) {w:World} {g o:Nat} (k:Nat),k≠g->(jO w g o l).heap[k]?=w.heap[k]?
 |[],_,_,_,_,_=>rfl
 |v::l,w,g,o,k,h=>(xL l k h).trans (n_ w ⟨g,o,none⟩ k v h)
def Jc:∀(l:List Value) {w:World} {g o:Nat},(jO w g o l).os=w.os/\(jO w g o l).tape=w.tape/\(jO w g o l).output=w.output/\(jO w g o l).heap.size=w.heap.size
 |[],_,_,_=>⟨rfl,rfl,rfl,rfl⟩
 |v::l,w,g,o=>by
  obtain⟨a,b,c,d⟩:=Jc l (w:=w.setCell ⟨g,o,none⟩ v) (g:=g) (o:=o+1);exact⟨a,b,c,d.trans<|by simp⟩
structure MI(w0:World)(w:World)(k:Nat)(a:Option Addr)(n i:Nat)(el:List Value):Prop where
 md:iI w k a n i el
 ch:Ch (cB a) w0 w
def MI.step{d:World}{b:List Value}(h:MI d w k (some ⟨g,0,none⟩) n i b)(G:b.length=k)(m:i<n)(W:World)(p:W=jO w g (i*k) b\/W=(jO w g (i*k) b).drew):MI d W k (some ⟨g,0,none⟩) n (i+1) b:=by
 have a:MI d (jO w g (i*k) b) k (some ⟨g,0,none⟩) n (i+1) b:=by
  obtain⟨H,r,t,c,s,I,u⟩:=h.md.row (by omega);injection c with c;injection c with c _ _;subst c;have v:i*k+k<=n*k:=by rw[<-yE];exact oO k m
  obtain⟨x,y,K,z,A⟩:=aj5 b (o:=i*k) s (by omega);obtain⟨B,C,D,E⟩:=Jc b (w:=w) (g:=g) (o:=i*k);refine⟨⟨h.md.le,λ_=>⟨g,x,t,rfl,y,by omega,λq f j F=>?_⟩⟩,⟨B.trans h.ch.os,C.trans h.ch.tape,D.trans h.ch.output,by rw[E];exact h.ch.size,λq f l=>?_⟩⟩
  .by_cases e:q=i
   .subst e;rw[A j<|by omega]
   have:q*k+k<=i*k:=by rw[<-yE];exact oO k (by omega)
   rw[z _<|by omega];exact u q (by omega) j F
  exact(xL b q λe=>l (vT.2 e.symm)).trans (h.ch.block q f l)
 obtain rfl|rfl:=p
 .exact a
 exact⟨⟨a.md.le,a.md.row⟩,⟨a.ch.os,a.ch.tape,a.ch.output,a.ch.size,a.ch.block⟩⟩
def vU(a b:Option Addr):Prop:=∀q,cB a q->¬cB b q
def mH:¬cB none k:=by simp[cB]
def qC(c:Nat)(v:Value)(m:Int):Array Value:=#[if c=0 then v else .slice none 0 0,if c=1 then v else .slice none 0 0,if c=2 then v else .slice none 0 0,if c=3 then v else .slice none 0 0,.int .i64 m]
def rP:Nat->Nat
 |0=>5
 |1=>3
 |_=>1
def zC(c m:Nat):List Value:=match c with
 |0=>mE m
 |1=>mA m
 |2=>mN m
 |_=>mB m
def iI.nil(w:World)(k i:Nat)(a:List Value):iI w k none 0 i a:=⟨by decide,λh=>by omega⟩
def iI.zero{a:Option Addr}{d b:List Value}(h:iI w k a n i d):iI w k a n 0 b:=⟨h.le,λe=>by
 obtain⟨g,c,t,f,j,l,_⟩:=h.row e
 exact⟨g,c,t,f,j,l,λq m=>by cases m⟩⟩
def iI.at{a:Option Addr}{b:List Value}(h:iI w k a n n b)(d:i<n):∃g,a=some ⟨g,0,none⟩/\g<w.heap.size/\∀j,j<k->w.cell? ⟨g,i*k+j,none⟩=b[j]?:=by
 obtain⟨g,e,t,f,c,o,l⟩:=h.row (by omega);exact⟨g,f,(Array.getElem?_eq_some_iff.1 c).1,λj m=>by rw[<-l i d j m];simp[World.cell?,c]⟩
def iI.spot{a:Option Addr}{d:List Value}(h:iI w k a n i d)(e:i<n):∃g,a=some ⟨g,0,none⟩/\g<w.heap.size/\(∀j,w.frozen? ⟨g,j,none⟩=false)/\∀j,j<k->∃u,w.cell? ⟨g,i*k+j,none⟩=some u:=by
 obtain⟨g,b,t,f,c,m,o⟩:=h.row (by omega);have l:i*k+k<=n*k:=by rw[<-yE];exact oO k e
 exact⟨g,f,(Array.getElem?_eq_some_iff.1 c).1,λj=>by simp[World.frozen?,c],λj p=>⟨b[i*k+j]'(by omega),by simp[World.cell?,c]⟩⟩
def Ch.cells{S:Nat->Prop}{w w' :World}{h t:Nat}{a:Array Value}(q:Ch S w w')(b:w.heap[h]?=some (.cells a t (0,0)))(c:¬S h):w'.heap[h]?=some (.cells a t (0,0)):=(q.block h (Array.getElem?_eq_some_iff.1 b).1 c).trans b
section
variable {w:World}{hb m:Nat}{ae aa an ab:Option Addr}{ne na nn nb ce ca cn cb:Nat}
def Eo(hh:w.heap[hb]?=some (.cells #[.slice ae ne ce,.slice aa na ca,.slice an nn cn,.slice ab nb cb,.int .i64 (m:Int)] 120 (0,0)))(hm:m<=1000000000000000)
 (h1:iI w 5 ae ne 0 (mE m)) (h2:iI w 3 aa na 0 (mA m)) (h3:iI w 1 an nn 0 (mN m)) (h4:iI w 1 ab nb 0 (mB m)) (k1:¬cB ae hb) (k2:¬cB aa hb) (k3:¬cB an hb) (k4:¬cB ab hb)
 (a1:vU ae aa) (a2:vU ae an) (a3:vU ae ab) (a4:vU aa an) (a5:vU aa ab) (a6:vU an ab):
 Calls prog 90 #[.pointer (some ⟨hb,0,none⟩)] w λe w' =>e=.returned (.tuple #[])/\Ch (λk=>cB ae k\/cB aa k\/cB an k\/cB ab k) w w' /\iI w' 5 ae ne ne (mE m)/\iI w' 3 aa na na (mA m)/\iI w' 1 an nn nn (mN m)/\iI w' 1 ab nb nb (mB m):=by
 have HS:=Y λw=>P_ m hm w;have HH:=Y hh;obtain⟨F,G,t⟩:=bN hh;have H1:=Y h1;have H2:=Y h2;have H3:=Y h3;have H4:=Y h4;have K:=Y (ajN k1 (ajN k2 (ajN k3 k4)));have D:=Y (ajN a1 (ajN a2 (ajN a3 (ajN a4 (ajN a5 a6)))));have l1:=h1.le;have l2:=h2.le;have l3:=h3.le;have l4:=h4.le;clear hh h1 h2 h3 h4 k1 k2 k3 k4 a1 a2 a3 a4 a5 a6;go_enter func90,ntmps90;go_wp2_with fail;go_call(HS.u _)as e w1 ⟨rfl,v⟩;have j:Hid (Ch (λk=>cB ae k\/cB aa k\/cB an k\/cB ab k) w w1):=Y (.of_below v);have a7:=(v.block _ t).trans HH.u;have a:=Y a7;have a8:=Y (H1.u.keep λq _ b=>v.block q b);have H:=Y (H2.u.keep λq _ b=>v.block q b);have r:=Y (H3.u.keep λq _ b=>v.block q b);have l:=Y (H4.u.keep λq _ b=>v.block q b);clear F G t HH H1 H2 H3 H4 HS v a7;obtain⟨F,G,t⟩:=bN a.u;go_wp2_with fail;go_loopg [3] ne (λg P Q=>∃i:Nat,i<=ne/\g=ne - i/\P=.int .i64 i/\Hid (MI w1 Q 5 ae ne i (mE m)));case atStart=>exact⟨0,dO _,rfl,rfl,Y ⟨a8.u,.refl _ _⟩⟩
 case round=>
  obtain⟨i,R,rfl,rfl,d⟩:=hrel;obtain⟨x,y,z⟩:=bN (d.u.ch.cells a.u K.u.1);by_cases f:i<ne
  .have S:decide ((i:Int)<(ne:Int))=true:=aj_;have e2:(i:Int)<(ne:Int):=by omega
   obtain⟨g,rfl,T,X,c⟩:=d.u.md.spot f;have N:=Y λW=>d.u.step rfl f W;obtain⟨u0,q0⟩:=c 0 (by decide);obtain⟨u1,q1⟩:=c 1 (by decide);obtain⟨u2,q2⟩:=c 2 (by decide);obtain⟨u3,q3⟩:=c 3 (by decide);obtain⟨u4,q4⟩:=c 4 (by decide);rw[Az]at q0;clear d c;go_wp2_with fail;go_region;go_wp2_with fail;go_roundg (ne - (i+1));case measure=>omega
   case rel=>exact⟨i+1,by omega,rfl,by simp,N.u _<|by first|exact .inl rfl|exact .inr rfl⟩
  have S:decide ((i:Int)<(ne:Int))=false:=aj9;have e3:decide (i<ne)=false:=aj9;rw[show i=ne by omega]at d;have A:=d.u;have a0:=Y (j.u.trans A.ch λq _ b=>.inl b);have n:=Y (A.ch.cells a.u K.u.1);have G2:=Y (H.u.keep λq b o=>A.ch.block q o λh=>D.u.1 q h b);have G3:=Y (r.u.keep λq b o=>A.ch.block q o λh=>D.u.2.1 q h b);have O:=Y (l.u.keep λq b o=>A.ch.block q o λh=>D.u.2.2.1 q h b);have p:=Y A.md;clear d A j a x y z f R a8 H r l;rename Hid (Ch _ _ _)=>j;have a:=n;have H:=G2;have r:=G3;have l:=O;have L:=p;clear n G2 G3 O p;obtain⟨F,G,t⟩:=bN a.u;go_wp2_with fail;go_loopg [4] na (λg P Q=>∃i:Nat,i<=na/\g=na - i/\P=.int .i64 i/\Hid (MI wr Q 3 aa na i (mA m)));case atStart=>exact⟨0,dO _,rfl,rfl,Y ⟨H.u,.refl _ _⟩⟩
  case round=>
   obtain⟨i,R,rfl,rfl,d⟩:=hrel;obtain⟨x,y,z⟩:=bN (d.u.ch.cells a.u K.u.2.1);by_cases f:i<na
   .have S:decide ((i:Int)<(na:Int))=true:=aj_;have e2:(i:Int)<(na:Int):=by omega
    obtain⟨g,rfl,T,X,c⟩:=d.u.md.spot f;have N:=Y λW=>d.u.step rfl f W;obtain⟨u0,q0⟩:=c 0 (by decide);obtain⟨u1,q1⟩:=c 1 (by decide);obtain⟨u2,q2⟩:=c 2 (by decide);rw[Az]at q0;clear d c;go_wp2_with fail;go_roundg (na - (i+1));case measure=>omega
    case rel=>exact⟨i+1,by omega,rfl,by simp,N.u _<|by first|exact .inl rfl|exact .inr rfl⟩
   have S:decide ((i:Int)<(na:Int))=false:=aj9;have e3:decide (i<na)=false:=aj9;rw[show i=na by omega]at d;have B:=d.u;have a0:=Y (j.u.trans B.ch λq _ b=>.inr<|.inl b);have n:=Y (B.ch.cells a.u K.u.2.1);have G3:=Y (r.u.keep λq b o=>B.ch.block q o λh=>D.u.2.2.2.1 q h b);have O:=Y (l.u.keep λq b o=>B.ch.block q o λh=>D.u.2.2.2.2.1 q h b);have p:=Y (L.u.keep λq b o=>B.ch.block q o λh=>D.u.1 q b h);have s:=Y B.md;clear d B j a x y z f R H r l L;rename Hid (Ch _ _ _)=>j;have a:=n;have r:=G3;have l:=O;have L:=p;have F2:=s;clear n G3 O p s;obtain⟨F,G,t⟩:=bN a.u;go_wp2_with fail;go_loopg [5] nn (λg P Q=>∃i:Nat,i<=nn/\g=nn - i/\P=.int .i64 i/\Hid (MI wr Q 1 an nn i (mN m)));case atStart=>exact⟨0,dO _,rfl,rfl,Y ⟨r.u,.refl _ _⟩⟩
   case round=>
    obtain⟨i,R,rfl,rfl,d⟩:=hrel;obtain⟨x,y,z⟩:=bN (d.u.ch.cells a.u K.u.2.2.1);by_cases f:i<nn
    .have S:decide ((i:Int)<(nn:Int))=true:=aj_;have e2:(i:Int)<(nn:Int):=by omega
     obtain⟨g,rfl,T,X,c⟩:=d.u.md.spot f;have N:=Y λW=>d.u.step rfl f W;obtain⟨u0,q0⟩:=c 0 (by decide);rw[uz,Az]at q0;rw[uz]at N;clear d c;go_wp2_with fail;go_roundg (nn - (i+1));case measure=>omega
     case rel=>exact⟨i+1,by omega,rfl,by simp,N.u _<|by first|exact .inl rfl|exact .inr rfl⟩
    have S:decide ((i:Int)<(nn:Int))=false:=aj9;have e3:decide (i<nn)=false:=aj9;rw[show i=nn by omega]at d;have C:=d.u;have a0:=Y (j.u.trans C.ch λq _ b=>.inr<|.inr<|.inl b);have n:=Y (C.ch.cells a.u K.u.2.2.1);have O:=Y (l.u.keep λq b o=>C.ch.block q o λh=>D.u.2.2.2.2.2 q h b);have p:=Y (L.u.keep λq b o=>C.ch.block q o λh=>D.u.2.1 q b h);have s:=Y (F2.u.keep λq b o=>C.ch.block q o λh=>D.u.2.2.2.1 q b h);have I:=Y C.md;clear d C j a x y z f R r l L F2;rename Hid (Ch _ _ _)=>j;have a:=n;have l:=O;have L:=p;have F2:=s;have F3:=I;clear n O p s I;obtain⟨F,G,t⟩:=bN a.u;go_wp2_with fail;go_loopg [6] nb (λg P Q=>∃i:Nat,i<=nb/\g=nb - i/\P=.int .i64 i/\Hid (MI wr Q 1 ab nb i (mB m)));case atStart=>exact⟨0,dO _,rfl,rfl,Y ⟨l.u,.refl _ _⟩⟩
    case round=>
     obtain⟨i,R,rfl,rfl,d⟩:=hrel;obtain⟨x,y,z⟩:=bN (d.u.ch.cells a.u K.u.2.2.2);by_cases f:i<nb
     .have S:decide ((i:Int)<(nb:Int))=true:=aj_;have e2:(i:Int)<(nb:Int):=by omega
      obtain⟨g,rfl,T,X,c⟩:=d.u.md.spot f;have N:=Y λW=>d.u.step rfl f W;obtain⟨u0,q0⟩:=c 0 (by decide);rw[uz,Az]at q0;rw[uz]at N;clear d c;go_wp2_with fail;go_region;go_wp2_with fail;go_roundg (nb - (i+1));case measure=>omega
      case rel=>exact⟨i+1,by omega,rfl,by simp,N.u _<|by first|exact .inl rfl|exact .inr rfl⟩
     have S:decide ((i:Int)<(nb:Int))=false:=aj9;have e3:decide (i<nb)=false:=aj9;rw[show i=nb by omega]at d;have E:=d.u;have a0:=Y (j.u.trans E.ch λq _ b=>.inr<|.inr<|.inr b);have n:=Y (E.ch.cells a.u K.u.2.2.2);have p:=Y (L.u.keep λq b o=>E.ch.block q o λh=>D.u.2.2.1 q b h);have s:=Y (F2.u.keep λq b o=>E.ch.block q o λh=>D.u.2.2.2.2.1 q b h);have I:=Y (F3.u.keep λq b o=>E.ch.block q o λh=>D.u.2.2.2.2.2 q b h);have a9:=Y E.md;clear d E j a x y z f R l L F2 F3;rename Hid (Ch _ _ _)=>j;have a:=n;have L:=p;have F2:=s;have F3:=I;have F4:=a9;clear n p s I a9;obtain⟨F,G,t⟩:=bN a.u;go_wp2_with fail;go_end0
     exact⟨rfl,j.u,L.u,F2.u,F3.u,F4.u⟩
end
structure Pl where
 od:Int
 oa:Int
 S:Int
 on:Bool
 s:Mk.Z
 aU:U
 said:Int
structure PA where
 xb:Nat
 pb:Nat
 L:Lay
structure HA where
 hb:Nat
 c:Nat
 a:Option Addr
 n:Nat
 cp:Nat
def fr:Nat×Nat:=(7,0)
def ju(p:Pl)(a:Nat):Array Value:=#[.pointer (some ⟨a,0,none⟩),.int .i64 p.od,.int .i64 p.oa,.int .i64 p.S,.bool p.on,.string ⟨p.aU.toArray⟩,.int .i64 p.said]
structure Ep(w:World)(O:Nat->Nat×Nat)(i:Nat)(p:Pl)(A:PA):Prop where
 blk:w.heap[A.xb]?=some (.cells (ju p A.pb) 57 (0,0))
 ox:O A.xb=(3,i)
 X:bC w A.pb p.s A.L
 op:O A.pb=(4,i)
 of:∀k∈aY p.s A.L,O k=(4,i)
 lo:2+1<A.pb
structure Es(w:World)(O:Nat->Nat×Nat)(j:Nat)(h:HA):Prop where
 blk:w.heap[h.hb]?=some (.cells (qC h.c (.slice h.a h.n h.cp) ((j+1:Nat):Int)) 120 (0,0))
 oh:O h.hb=(5,j)
 md:iI w (rP h.c) h.a h.n h.n (zC h.c (j+1))
 c4:h.c<=3
 or:∀k,cB h.a k->O k=(6,j)
def qD(pl:List (Pl×PA)):List Value:=pl.map λp=>.pointer (some ⟨p.2.xb,0,none⟩)
def vV(hl:List HA):List Value:=hl.map λh=>.pointer (some ⟨h.hb,0,none⟩)
structure WI(w:World)(O:Nat->Nat×Nat)(b:Nat)(pl:List (Pl×PA))(hl:List HA)(pa:Option Addr)(pc:Nat)(ha:Option Addr)(hc:Nat):Prop where
 blk:w.heap[b]?=some (.cells #[.slice pa pl.length pc,.slice ha hl.length hc] 52 (0,0))
 ob:O b=(0,0)
 pr:w.ownsRow 0 54 1 (.slice pa pl.length pc) pl.length (qD pl)
 po:∀k,cB pa k->O k=(1,0)
 hr:w.ownsRow 0 102 1 (.slice ha hl.length hc) hl.length (vV hl)
 ho:∀k,cB ha k->O k=(2,0)
 ps:∀i (hi:i<pl.length),Ep w O i pl[i].1 pl[i].2
 hs:∀j (hj:j<hl.length),Es w O j hl[j]
 nw:∀k,w.heap.size<=k->O k=fr
structure eT(X:Nat->Prop)(O O' :Nat->Nat×Nat)(w w' :World):Prop where
 ch:Ch (λk=>O k≠fr\/X k) w w'
 tag:∀k,k<w.heap.size->O k=fr->¬X k->O' k=fr
section
variable {w w' :World}{O O' :Nat->Nat×Nat}{b:Nat}{pl:List (Pl×PA)}{hl:List HA}{pa ha:Option Addr}{pc hc:Nat}
def oG{a:Nat}{v:Value}{c:List Value}(h:w.ownsRow b e a v n c)(d:∀k,v.ownBlock=some k->w'.heap[k]?=w.heap[k]?):w'.ownsRow b e a v n c:=mo (r:=⟨e,a,v,n,c⟩) h d
def pG{a:Option Addr}(h:(Value.slice a n c).ownBlock=some k):cB a k:=by
 cases a with
 |none=>cases h
 |some x=>injection h with h;simp[cB,h]
def gY{o:Obj}(h:w.heap[k]?=some o):k<w.heap.size:=(Array.getElem?_eq_some_iff.1 h).1
def Ep.keep{i:Nat}{p:Pl}{A:PA}(h:Ep w O i p A)(a:∀k,k<w.heap.size->O k=(3,i)\/O k=(4,i)->w'.heap[k]?=w.heap[k]?/\O' k=O k):Ep w' O' i p A:=
 ⟨(a _ (gY h.blk) (.inl h.ox)).1.trans h.blk,(a _ (gY h.blk) (.inl h.ox)).2.trans h.ox,
  h.X.keep λk q=>by
   obtain rfl|q:=q
   .exact(a _ h.X.lt (.inr h.op)).1
   exact(a k (h.X.jh k q).2 (.inr (h.of k q))).1,
  (a _ h.X.lt (.inr h.op)).2.trans h.op,λk q=>(a k (h.X.jh k q).2 (.inr (h.of k q))).2.trans (h.of k q),h.lo⟩
def Es.keep{j:Nat}{h:HA}(q:Es w O j h)(b:∀k,k<w.heap.size->O k=(5,j)\/O k=(6,j)->w'.heap[k]?=w.heap[k]?/\O' k=O k)(d:∀k,w.heap.size<=k->O k=fr):Es w' O' j h:=
 ⟨(b _ (gY q.blk) (.inl q.oh)).1.trans q.blk,(b _ (gY q.blk) (.inl q.oh)).2.trans q.oh,q.md.keep λk a c=>(b k c (.inr (q.or k a))).1,q.c4,
  λk a=>by
   by_cases c:k<w.heap.size
   .exact(b k c (.inr (q.or k a))).2.trans (q.or k a)
   have:=d k (by omega)
   rw[q.or k a]at this
   cases this⟩
def lz{x y:Nat}(h:x<7:=by decide):(x,y)≠fr:=λe=>by injection e with e _;omega
def WI.keep(h:WI w O b pl hl pa pc ha hc)(c:∀k,k<w.heap.size->O k≠fr->w'.heap[k]?=w.heap[k]?)(e:w.heap.size<=w'.heap.size):WI w' O b pl hl pa pc ha hc:=
 ⟨(c b (gY h.blk)<|by rw[h.ob];exact lz).trans h.blk,h.ob,
  oG h.pr λk q=>c k (World.ownsRow.lt h.pr k q).2<|by rw[h.po k (pG q)];exact lz,h.po,
  oG h.hr λk q=>c k (World.ownsRow.lt h.hr k q).2<|by rw[h.ho k (pG q)];exact lz,h.ho,
  λi f=>(h.ps i f).keep λk d a=>⟨c k d (by obtain a|a:=a<;>rw[a]<;>exact lz),rfl⟩,
  λj g=>(h.hs j g).keep (λk d a=>⟨c k d (by obtain a|a:=a<;>rw[a]<;>exact lz),rfl⟩) h.nw,
  λk c=>h.nw k (cL e c)⟩
def WI.below(h:WI w O b pl hl pa pc ha hc)(a:Below w.heap.size w w'):WI w' O b pl hl pa pc ha hc:=h.keep (λk c _=>a.block k c) a.size
def WI.ch(h:WI w O b pl hl pa pc ha hc){X:Nat->Prop}(a:Ch X w w')(c:∀k,X k->O k=fr):WI w' O b pl hl pa pc ha hc:=h.keep (λk d e=>a.block k d λq=>e (c k q)) a.size
def eT.of_below(X:Nat->Prop)(a:Below w.heap.size w w'):eT X O O w w' :=⟨.of_below a,λ_ _ h _=>h⟩
def eT.trans{X a:Nat->Prop}{c:Nat->Nat×Nat}{d:World}(h:eT X O O' w w')(k:eT a O' c w' d)(i:∀q,q<w.heap.size->a q->X q):eT X O c w d:=
 ⟨h.ch.trans k.ch λq b e=>by
  by_cases g:O q=fr
  .by_cases f:X q
   .exact .inr f
   obtain e|e:=e
   .exact aj6 (h.tag q b g f) e
   exact .inr (i q b e)
  exact .inl g,
  λq b g f=>k.tag q (i_ b h.ch.size) (h.tag q b g f) λj=>f (i q b j)⟩
end
def uP(O:Nat->Nat×Nat)(b:Nat)(a:Option Addr)(c j:Nat):Nat->Nat×Nat:=λk=>if k=b then(5,j)else if a.map (·.block)=some k then(6,j)else if k=c then(2,0)else O k
def abZ{O:Nat->Nat×Nat}{a:Option Addr}{d j:Nat}(e:k≠b)(c:cB a k):uP O b a d j k=(6,j):=by
 unfold cB at c;rw[uP,M e,J c]
def Et{O:Nat->Nat×Nat}{a:Option Addr}{j:Nat}(e:k≠b)(d:¬cB a k):uP O b a c j k=if k=c then(2,0)else O k:=by
 unfold cB at d;rw[uP,M e,M d]
section
variable {w:World}{O:Nat->Nat×Nat}{b:Nat}{pl:List (Pl×PA)}{hl:List HA}{pa ha:Option Addr}{pc hc:Nat}
def WI.kept(h:WI w O b pl hl pa pc ha hc){m:World}{C d p:Nat}{a:Option Addr}(F:c<=3)(v:O g=fr)(a0:g<w.heap.size)(t:∀k,cB a k->O k=fr/\k≠g/\k<w.heap.size)(s:Ch (λk=>k=g\/cB a k\/cB ha k) w m)
 (G:m.heap[g]?=some (.cells (qC c (.slice a n C) ((hl.length+1:Nat):Int)) 120 (0,0))) (H:iI m (rP c) a n n (zC c (hl.length+1)))
 (hrow:m.ownsRow 0 102 1 (.slice (some ⟨d,0,none⟩) (hl.length+1) p) (hl.length+1) (vV hl++[.pointer (some ⟨g,0,none⟩)])) (I:cB ha d\/w.heap.size<=d):
 WI (m.setCell ⟨b,1,none⟩ (.slice (some ⟨d,0,none⟩) (hl.length+1) p)) (uP O g a d hl.length) b pl (hl++[⟨g,c,a,n,C⟩]) pa pc (some ⟨d,0,none⟩) p/\
  eT (λk=>k=g\/cB a k) O (uP O g a d hl.length) w (m.setCell ⟨b,1,none⟩ (.slice (some ⟨d,0,none⟩) (hl.length+1) p)):=by
 have K:=gY h.blk;have S:d<m.heap.size:=(World.ownsRow.lt hrow d rfl).2;have o:d<w.heap.size->O d=(2,0):=λq=>by obtain e|e:=I;exact h.ho d e;omega
 have z:∀k,O k≠fr->k<w.heap.size:=λk q=>by
  by_cases e:k<w.heap.size
  .exact e
  exact aj6 (h.nw k<|by omega) q
 have L:d≠b:=λe=>by
  have u:=o (by omega);rw[e,h.ob]at u;cases u
 have A:d≠g:=λe=>by
  have u:=o (by omega);rw[e,v]at u;cases u
 have N:¬cB a d:=λe=>by
  have u:=o (t d e).2.2;rw[(t d e).1]at u;cases u
 have W:∀k,O k≠fr->uP O g a d hl.length k=O k:=λk q=>by
  rw[Et (show k≠g from λe=>q (e▸v)) λe=>q (t k e).1];by_cases e:k=d
  .rw[J e,e];exact(o (e▸z k q)).symm
  rw[M e]
 have hS:∀k,O k≠fr->O k≠(2,0)->k≠b->(m.setCell ⟨b,1,none⟩ (.slice (some ⟨d,0,none⟩) (hl.length+1) p)).heap[k]?=w.heap[k]?:=λk q r D=>by
  rw[n_ m ⟨b,1,none⟩ k _ D];refine s.block k (z k q) λe=>?_;obtain e|e|e:=e
  .exact q (e▸v)
  .exact q (t k e).1
  exact r (h.ho k e)
 have f:O b≠fr:=by rw[h.ob];exact lz
 have P:m.heap[b]?=_:=(s.block b K λe=>by
  obtain e|e|e:=e
  .exact f (e▸v)
  .exact f (t b e).1
  have:=h.ho b e;rw[h.ob]at this;cases this).trans h.blk
 have l:∀k,∀x y:Nat,O k=(x,y)->x=1\/3<=x->x<7->(m.setCell ⟨b,1,none⟩ (.slice (some ⟨d,0,none⟩) (hl.length+1) p)).heap[k]?=w.heap[k]?/\uP O g a d hl.length k=O k:=λk x y e hx Q=>by
  have B:O k≠fr:=by rw[e];exact lz Q
  refine⟨hS k B (λq=>?_) λq=>?_,W k B⟩
  .rw[e]at q;cases q;omega
  rw[q,h.ob]at e;cases e;omega
 refine⟨⟨?_,(W b f).trans h.ob,?_,λk q=>?_,?_,λk q=>?_,λi hi=>?_,λj X=>?_,λk q=>?_⟩,⟨?_,λk R r D=>?_⟩⟩
 .rw[rY m b 1 _ _ _ P,bT];rfl
 .exact oG h.pr λk q=>(l k 1 0 (h.po k (pG q)) (.inl rfl)<|by decide).1
 .exact(l k 1 0 (h.po k q) (.inl rfl)<|by decide).2.trans (h.po k q)
 .have B:(hl++[(⟨g,c,a,n,C⟩:HA)]).length=hl.length+1:=by simp
  have E:vV (hl++[(⟨g,c,a,n,C⟩:HA)])=vV hl++[.pointer (some ⟨g,0,none⟩)]:=by simp[vV]
  rw[B,E];exact oG hrow λk q=>n_ m ⟨b,1,none⟩ k _ λe=>L ((vT.1 (pG q)).trans e)
 .have e:=vT.1 q;subst e;rw[Et A N,J rfl]
 .exact(h.ps i hi).keep λk R r=>by obtain r|r:=r<;>exact l k _ _ r (.inr<|by decide) (by decide)
 .by_cases e:j<hl.length
  .rw[LG e];exact(h.hs j e).keep (λk R r=>by obtain r|r:=r<;>exact l k _ _ r (.inr<|by decide) (by decide)) h.nw
  have E:j=hl.length:=by rw[bT]at X;simp at X;omega
  subst E;rw[Db (a_ _)];simp only[Nat.sub_self,wR];refine⟨(n_ m ⟨b,1,none⟩ g _ λ(e:g=b)=>f (e▸v)).trans G,by unfold uP;rw[J rfl],H.keep λk q _=>n_ m ⟨b,1,none⟩ k _ λ(e:k=b)=>f (e▸(t k q).1),F,λk q=>?_⟩;exact abZ (t k q).2.1 q
 .have B:m.heap.size<=k:=by simpa using q
  have E:=s.size;rw[Et (by omega) λe=>by have:=(t k e).2.2;omega,M];exact h.nw k (by omega)
 .refine s.wide ?_ |>.trans (T:=λk=>k=b) ⟨rfl,rfl,rfl,by simp,λk _ q=>n_ m ⟨b,1,none⟩ k _ q⟩ λk _ q=>.inl (q▸f)
  intro k _ q;obtain q|q|q:=q
  .exact .inr (.inl q)
  .exact .inr (.inr q)
  exact .inl (by rw[h.ho k q];exact lz)
 rwa[Et (λe=>D (.inl e)) λe=>D (.inr e),M λe=>by have:=o (e▸R);rw[<-e,r]at this;cases this]
end
def iI.below{a:Option Addr}{b:List Value}(h:iI w k a n i b)(hb:Below w.heap.size w w'):iI w' k a n i b:=h.keep λq _ c=>hb.block q c
def Qd(h:Below w.heap.size w w')(n:Nat):Below w.heap.size w (w'.drewN n):=h.trans ⟨rfl,rfl,rfl,ajQ<|by rw[heap_drewN],λ_ _=>by rw[heap_drewN]⟩
def ab0(h:Below w.heap.size w w')(o:Obj)(n:Nat):Below w.heap.size w ((w'.alloc o).drewN n):=Qd (h.alloc h.size o) n
section
variable {w:World}{hb m:Nat}{ae aa an ab:Option Addr}{ne na nn nb ce ca cn cb:Nat}
def Eu(A:w.heap[hb]?=some (.cells #[.slice ae ne ce,.slice aa na ca,.slice an nn cn,.slice ab nb cb,.int .i64 (m:Int)] 120 (0,0)))(L:m<=1000000000000000)
 (B:iI w 5 ae ne ne (mE m)) (C:iI w 3 aa na na (mA m)) (D:iI w 1 an nn nn (mN m)) (E:iI w 1 ab nb nb (mB m)):
 Calls prog 52 #[.pointer (some ⟨hb,0,none⟩)] w λe w' =>e=.returned (.bool true)/\Below w.heap.size w w' :=by
 have K:=Y λw=>P_ m L w;have k:=Y A;obtain⟨d,f,h⟩:=bN A;have N:=Y B;have O:=Y C;have P:=Y D;have Q:=Y E;have W:=B.le;have X:=C.le;have l3:=D.le;have l4:=E.le;have en:((-(m:Int)) !=(-(m:Int)))=false:=by simp
 have hu:=underlying63;have ew:IntKind.i64.wrap (-(m:Int))= -(m:Int):=by rw[uy];omega
 have es:(sg m==sg m)=true:=by simp
 clear A B C D E;go_enter func52,ntmps52;go_wp2_with fail;go_call(K.u _)as e w1 ⟨rfl,z⟩;have l:=Y z;clear d f h K z;obtain⟨d,f,h⟩:=bN ((l.u.block _ (gY k.u)).trans k.u);go_wp2_with fail;go_loopg [4] ne (λg r s=>∃i:Nat,i<=ne/\g=ne - i/\r=.int .i64 i/\Hid (Below w.heap.size w s));case atStart=>exact⟨0,dO _,rfl,rfl,l⟩
 case round=>
  obtain⟨i,t,rfl,rfl,a⟩:=hrel;clear d f h l;obtain⟨n,q,p⟩:=bN ((a.u.block _ (gY k.u)).trans k.u);by_cases c:i<ne
  .have v:decide ((i:Int)<(ne:Int))=true:=aj_;have F:(i:Int)<(ne:Int):=by omega
   obtain⟨g,rfl,x,b⟩:=(N.u.below a.u).at c;have y:=b 0 (by decide);have G:=b 1 (by decide);have H:=b 2 (by decide);have R:=b 3 (by decide);have S:=b 4 (by decide);simp[mE]at y G H R S;have T:∀o j,(wr.alloc o).cell? ⟨hb,j,none⟩=#[.slice (some ⟨g,0,none⟩) ne ce,.slice aa na ca,.slice an nn cn,.slice ab nb cb,.int .i64 (m:Int)][j]?:=λo j=>by rw[<-n j];simp only[World.cell?];rw[dG _ _ _ p]
   clear b;go_wp2_with fail;go_quiet(fail);go_wp2_with fail;go_roundg (ne - (i+1));case measure=>omega
   case rel=>exact⟨i+1,by omega,rfl,by simp,ab0 a.u _ _⟩
  have v:decide ((i:Int)<(ne:Int))=false:=aj9;have I:decide (i<ne)=false:=aj9;have l:=a;clear a c t n q p;obtain⟨d,f,h⟩:=bN ((l.u.block _ (gY k.u)).trans k.u);go_wp2_with fail;go_loopg [6] na (λg r s=>∃i:Nat,i<=na/\g=na - i/\r=.int .i64 i/\Hid (Below w.heap.size w s));case atStart=>exact⟨0,dO _,rfl,rfl,l⟩
  case round=>
   obtain⟨i,t,rfl,rfl,a⟩:=hrel;clear d f h l;obtain⟨n,q,p⟩:=bN ((a.u.block _ (gY k.u)).trans k.u);by_cases c:i<na
   .have v:decide ((i:Int)<(na:Int))=true:=aj_;have F:(i:Int)<(na:Int):=by omega
    obtain⟨g,rfl,x,b⟩:=(O.u.below a.u).at c;have y:=b 0 (by decide);have G:=b 1 (by decide);have H:=b 2 (by decide);simp[mA]at y G H;clear b;go_wp2_with fail;go_roundg (na - (i+1));case measure=>omega
    case rel=>exact⟨i+1,by omega,rfl,by simp,a.u⟩
   have v:decide ((i:Int)<(na:Int))=false:=aj9;have I:decide (i<na)=false:=aj9;have l:=a;clear a c t n q p;obtain⟨d,f,h⟩:=bN ((l.u.block _ (gY k.u)).trans k.u);go_wp2_with fail;go_loopg [7] nn (λg r s=>∃i:Nat,i<=nn/\g=nn - i/\r=.int .i64 i/\Hid (Below w.heap.size w s));case atStart=>exact⟨0,dO _,rfl,rfl,l⟩
   case round=>
    obtain⟨i,t,rfl,rfl,a⟩:=hrel;clear d f h l;obtain⟨n,q,p⟩:=bN ((a.u.block _ (gY k.u)).trans k.u);by_cases c:i<nn
    .have v:decide ((i:Int)<(nn:Int))=true:=aj_;have F:(i:Int)<(nn:Int):=by omega
     obtain⟨g,rfl,x,b⟩:=(P.u.below a.u).at c;have y:=b 0 (by decide);simp[mN]at y;clear b;go_wp2_with fail;go_roundg (nn - (i+1));case measure=>omega
     case rel=>exact⟨i+1,by omega,rfl,by simp,a.u⟩
    have v:decide ((i:Int)<(nn:Int))=false:=aj9;have I:decide (i<nn)=false:=aj9;have l:=a;clear a c t n q p;obtain⟨d,f,h⟩:=bN ((l.u.block _ (gY k.u)).trans k.u);go_wp2_with fail;go_loopg [8] nb (λg r s=>∃i:Nat,i<=nb/\g=nb - i/\r=.int .i64 i/\Hid (Below w.heap.size w s));case atStart=>exact⟨0,dO _,rfl,rfl,l⟩
    case round=>
     obtain⟨i,t,rfl,rfl,a⟩:=hrel;clear d f h l;obtain⟨n,q,p⟩:=bN ((a.u.block _ (gY k.u)).trans k.u);by_cases c:i<nb
     .have v:decide ((i:Int)<(nb:Int))=true:=aj_;have F:(i:Int)<(nb:Int):=by omega
      obtain⟨g,rfl,x,b⟩:=(Q.u.below a.u).at c;have y:=b 0 (by decide);simp[mB]at y;clear b;go_wp2_with fail;go_quiet(fail);go_wp2_with fail;go_roundg (nb - (i+1));case measure=>omega
      case rel=>exact⟨i+1,by omega,rfl,by simp,Qd a.u _⟩
     have v:decide ((i:Int)<(nb:Int))=false:=aj9;have I:decide (i<nb)=false:=aj9;have l:=a;clear a c t n q p;obtain⟨d,f,h⟩:=bN ((l.u.block _ (gY k.u)).trans k.u);go_wp2_with fail;go_ret;exact⟨rfl,l.u⟩
end
section
variable {w:World}{hb c n cp m:Nat}{a:Option Addr}
def nV{b:Option Addr}:vU none b:=λ_ h=>aj6 h mH
def zD{b:Option Addr}:vU b none:=λ_ _ h=>aj6 h mH
def four(h:c<=3):c=0\/c=1\/c=2\/c=3:=by omega
def ab1(g:w.heap[hb]?=some (.cells (qC c (.slice a n cp) (m:Int)) 120 (0,0)))(hc:c<=3)(h:m<=1000000000000000)(i:iI w (rP c) a n 0 (zC c m))(j:¬cB a hb):
 Calls prog 90 #[.pointer (some ⟨hb,0,none⟩)] w λe w' =>e=.returned (.tuple #[])/\Ch (cB a) w w' /\iI w' (rP c) a n n (zC c m):=by
 have l:∀{o p r s:Option Addr} {w' :World},(o=a\/o=none)->(p=a\/p=none)->(r=a\/r=none)->(s=a\/s=none)->Ch (λk=>cB o k\/cB p k\/cB r k\/cB s k) w w' ->Ch (cB a) w w' :=λb d f t q=>q.wide λk _ e=>by
  obtain e|e|e|e:=e
  .rcases b with rfl|rfl;exact e;exact aj6 e mH
  .rcases d with rfl|rfl;exact e;exact aj6 e mH
  .rcases f with rfl|rfl;exact e;exact aj6 e mH
  obtain rfl|rfl:=t;exact e;exact aj6 e mH
 obtain rfl|rfl|rfl|rfl:=four hc
 .exact(Eo g h i (.nil _ _ _ _) (.nil _ _ _ _) (.nil _ _ _ _) j mH mH mH zD zD zD nV nV nV).mono λe w' ⟨b,d,f,_⟩=>⟨b,l (.inl rfl) (.inr rfl) (.inr rfl) (.inr rfl) d,f⟩
 .exact(Eo g h (.nil _ _ _ _) i (.nil _ _ _ _) (.nil _ _ _ _) mH j mH mH nV nV nV zD zD nV).mono λe w' ⟨b,d,_,f,_⟩=>⟨b,l (.inr rfl) (.inl rfl) (.inr rfl) (.inr rfl) d,f⟩
 .exact(Eo g h (.nil _ _ _ _) (.nil _ _ _ _) i (.nil _ _ _ _) mH mH j mH nV nV nV nV nV zD).mono λe w' ⟨b,d,_,_,f,_⟩=>⟨b,l (.inr rfl) (.inr rfl) (.inl rfl) (.inr rfl) d,f⟩
 exact(Eo g h (.nil _ _ _ _) (.nil _ _ _ _) (.nil _ _ _ _) i mH mH mH j nV nV nV nV nV nV).mono λe w' ⟨b,d,_,_,_,f⟩=>⟨b,l (.inr rfl) (.inr rfl) (.inr rfl) (.inl rfl) d,f⟩
def ab2(b:w.heap[hb]?=some (.cells (qC c (.slice a n cp) (m:Int)) 120 (0,0)))(hc:c<=3)(d:m<=1000000000000000)(f:iI w (rP c) a n n (zC c m)):
 Calls prog 52 #[.pointer (some ⟨hb,0,none⟩)] w λe w' =>e=.returned (.bool true)/\Below w.heap.size w w' :=by
 obtain rfl|rfl|rfl|rfl:=four hc
 .exact Eu b d f (.nil _ _ _ _) (.nil _ _ _ _) (.nil _ _ _ _)
 .exact Eu b d (.nil _ _ _ _) f (.nil _ _ _ _) (.nil _ _ _ _)
 .exact Eu b d (.nil _ _ _ _) (.nil _ _ _ _) f (.nil _ _ _ _)
 exact Eu b d (.nil _ _ _ _) (.nil _ _ _ _) (.nil _ _ _ _) f
def xO{f:List Value}(h:w.ownsRow 0 e 1 (.slice a n b) n f)(j:i<n):∃g,a=some ⟨g,0,none⟩/\g<w.heap.size/\w.cell? ⟨g,i,none⟩=f[i]?:=by
 obtain⟨g,k,c,_,d⟩:=World.ownsRow.form h (by omega);injection c with c _ hc;subst c hc;exact⟨g,rfl,d,World.ownsRow.cellAt h i<|by omega⟩
end
section
variable {w:World}{O:Nat->Nat×Nat}{b:Nat}{pl:List (Pl×PA)}{hl:List HA}{pa ha:Option Addr}{pc hc:Nat}
def Qe(h:WI w O b pl hl pa pc ha hc)(B:hl.length<=100000000000000):
 Calls prog 31 #[.pointer (some ⟨b,0,none⟩)] w λe w' =>e=.returned (.bool true)/\Below w.heap.size w w' :=by
 have x:=Y h;obtain⟨l,n,o⟩:=bN h.blk;clear h;go_enter func31,ntmps31;go_wp2_with fail;go_loopg [3] hl.length (λg y z=>∃i:Nat,i<=hl.length/\g=hl.length - i/\y=.int .i64 i/\Hid (Below w.heap.size w z));case atStart=>exact⟨0,dO _,rfl,rfl,Y (Below.refl _ _)⟩
 case round=>
  obtain⟨i,C,rfl,rfl,c⟩:=hrel;have d:=x.u.below c.u;clear l n o;obtain⟨p,q,r⟩:=bN d.blk;by_cases a:i<hl.length
  .have A:decide ((i:Int)<(hl.length:Int))=true:=aj_;have D:(i:Int)<(hl.length:Int):=by omega
   obtain⟨g,rfl,s,f⟩:=xO d.hr a;rw[show(vV hl)[i]?=some (.pointer (some ⟨hl[i].hb,0,none⟩)) by simp[vV,a]]at f;have k:=d.hs i a;have v:=Y (ab2 (m:=i+1) k.blk k.c4 (by omega) k.md);clear d k;generalize hl[i].hb=hb at *;go_wp2_with fail;go_call v.u as e w2 ⟨rfl,j⟩;have t:=Y (c.u.trans (j.mono c.u.size));clear j v c p q r f s;go_wp2_with fail;go_roundg (hl.length - (i+1));case measure=>omega
   case rel=>exact⟨i+1,by omega,rfl,by simp,t⟩
  have A:decide ((i:Int)<(hl.length:Int))=false:=aj9;have E:decide (i<hl.length)=false:=aj9;clear d;go_wp2_with fail;go_ret;exact⟨rfl,c.u⟩
theorem ab3:(prog.info? 102).map (λi=>(i.zero,i.size,i.bytes))=some (some (.pointer none),1,8):=by kernel_rfl
def ab4(h:WI w O b pl hl pa pc ha hc){hb cp:Nat}{a:Option Addr}{x:Int}(L:w.heap[hb]?=some (.cells (qC c (.slice a n cp) x) 120 (0,0)))(D:c<=3)(m:O hb=fr)(hM:iI w (rP c) a n 0 [])
 (l:∀k,cB a k->O k=fr/\k≠hb/\k<w.heap.size) (hn:hl.length<=17000000000000):
 Calls prog 68 #[.pointer (some ⟨b,0,none⟩),.pointer (some ⟨hb,0,none⟩)] w λe w' =>e=.returned (.tuple #[])/\∃O' N P,WI w' O' b pl (hl++[⟨hb,c,a,n,cp⟩]) pa pc N P/\eT (λk=>k=hb\/cB a k) O O' w w' :=by
 obtain⟨E,F,A⟩:=bN h.blk;obtain⟨t,Q,G⟩:=bN L;have R:=Y G;have W:w.cell? ⟨hb,4,none⟩=some (.int .i64 x):=t 4;clear t;have a8:hb≠b:=λe=>by rw[e,h.ob]at m;cases m
 have v:¬cB a hb:=λe=>(l hb e).2.1 rfl;have f:(w.setCell ⟨hb,4,none⟩ (.int .i64 ((hl.length+1:Nat):Int))).heap[hb]?=some (.cells (qC c (.slice a n cp) ((hl.length+1:Nat):Int)) 120 (0,0)):=rY w hb 4 _ _ _ L;have o:iI (w.setCell ⟨hb,4,none⟩ (.int .i64 ((hl.length+1:Nat):Int))) (rP c) a n 0 (zC c (hl.length+1)):=(hM.keep λq hq _=>n_ w ⟨hb,4,none⟩ q _ (l q hq).2.1).zero;have X:=Y (ab1 f D (by omega) o v);have I:=Y h;have HX:=Y (ajN m (ajN l (ajN f o)));have g:((hl.length+1:Nat):Int)=(hl.length:Int)+1:=by omega
 rw[g]at X;obtain⟨i0,hi,a0,a1,a2⟩:=lg ab3;clear h L m hM l f o;go_enter func68,ntmps68;go_wp2_with fail;go_call X.u as e w2 ⟨rfl,p,i⟩;obtain⟨m,l,f,o⟩:=HX.u;have a9:¬cB a b:=λe=>by have q:=(l b e).1;rw[I.u.ob]at q;cases q
 have j:Ch (λk=>k=hb\/cB a k) w w2:=Ch.trans (S:=λk=>k=hb\/cB a k) (w1:=w.setCell ⟨hb,4,none⟩ (.int .i64 ((hl.length:Int)+1))) ⟨rfl,rfl,rfl,by simp,λk _ q=>n_ w ⟨hb,4,none⟩ k _ λe=>q (.inl e)⟩ p λk _ q=>.inr q;have a3:∀k,O k≠fr->¬(k=hb\/cB a k):=λk q e=>by
  obtain e|e:=e
  .exact q (e▸m)
  exact q (l k e).1
 have a4:∀x y:Nat,x<7->(x,y)≠fr:=λx y h=>lz h;have d:=I.u.ch j λk q=>by
  obtain q|q:=q
  .exact q▸m
  exact(l k q).1
 have r:w2.heap[hb]?=some (.cells (qC c (.slice a n cp) ((hl.length+1:Nat):Int)) 120 (0,0)):=by
  rw[g]at f⊢;exact p.cells f v
 have HO:=Y (d.hr.alloc (.cells #[.pointer (some ⟨hb,0,none⟩)] 102));have HB:=Y (show(w2.alloc (.cells #[.pointer (some ⟨hb,0,none⟩)] 102)).heap[w2.heap.size]?=_ from dI w2 _);have a5:=Y (show hl.length+1<=maxLen by unfold maxLen;omega);clear E F A W Q G;obtain⟨E,F,A⟩:=bN d.blk;have H3:=Y λ(K:World) (q:(w2.alloc (.cells #[.pointer (some ⟨hb,0,none⟩)] 102)).grownBy K (Value.slice ha hl.length hc).ownBlock)=>(q.block b (by simp;omega) λe=>by have C:=d.ho b (pG e.symm);rw[d.ob]at C;cases C).trans ((dG _ _ _ A).trans d.blk);have HY:=Y (ajN j (ajN d (ajN r i)));clear X p i m l f o j a3 a4 d r g;go_wp2_with(at_builtin;refine lI _ rfl _ _ 50 rfl 0 102 i0 _ 1 8 underlying50 hi a0 a1 a2 rfl (by decide) (.slice ha hl.length hc) hl.length (vV hl) (by simp[Act.eval]) HO.u ⟨w2.heap.size,0,none⟩ 1 1 [.pointer (some ⟨hb,0,none⟩)] (by simp[Act.eval]) rfl (jT HB.u) (by simp[Value.oneCell']) (by decide) a5.u (by omega) (dO _) (w2.heap.size+1) (by simp) ?_;intro g2 aa K hown hgrow s a7;obtain⟨ab,ad,ae⟩:=bN (H3.u K hgrow);have HG:=Y (ajN hown (ajN hgrow s));clear hown hgrow s);go_end0
 obtain⟨j,d,r,i⟩:=HY.u;obtain⟨hown,hgrow,s⟩:=HG.u;obtain⟨m,l,-,-⟩:=HX.u;have s2:=j.size;have B:∀k,k<w2.heap.size->¬cB ha k->K.heap[k]?=w2.heap[k]?:=λk q1 C=>(hgrow.block k (by simp;omega) λe=>C (pG e.symm)).trans (dG _ _ _ q1);have H:=gY r;have z:∀k,O k=fr->¬cB ha k:=λk q e=>by rw[I.u.ho k e]at q;cases q
 have a6:=hgrow.size;simp only[World.size_alloc]at a6;refine⟨rfl,_,_,_,I.u.kept D m R.u l (j.wide (T:=λk=>k=hb\/cB a k\/cB ha k) (λk _ q=>by obtain q|q:=q;exact .inl q;exact .inr (.inl q)) |>.trans (T:=cB ha) ⟨hgrow.os,hgrow.tape,hgrow.output,by omega,B⟩ λk _ q=>.inr (.inr q)) ((B hb H (z hb m)).trans r) (i.keep λk q1 C=>B k C (z k (l k q1).1)) hown ?_⟩;obtain q|q:=s
 .exact .inl (pG q)
 exact .inr (by omega)
end
theorem ab9:(prog.info? 5).map (λi=>(i.zero,i.size,i.bytes))=some (some (.int .u8 0),1,1):=by kernel_rfl
def BJ(s:U):(hd s).length=s.length+3:=by simp[hd]
def hdc(s:U)(i:Nat):Array Value:=(s.map bv++([.int .u8 81,.int .u8 82,.int .u8 83]:List Value).take i++List.replicate (3 - i) (Value.int .u8 0)).toArray
def ab_(s:U)(i:Nat)(a:i<=3):(hdc s i).size=s.length+3:=by simp[hdc];omega
def acd(s:U):hdc s 3=((hd s).map bv).toArray:=by simp[hdc,hd,bv]
def ace(s:U)(i:Nat)(a:i<3):(hdc s i).setIfInBounds (s.length+i) (.int .u8 ((81:Int)+i))=hdc s (i+1):=by
 have h:i=0\/i=1\/i=2:=by omega
 obtain rfl|rfl|rfl:=h<;>simp[hdc,List.replicate,CP,List.set_append]
def Qi(s:U)(R:s.length<=1000000000)(w:World):Calls prog 70 #[.string ⟨s.toArray⟩] w λe w' =>e=.returned (.slice (some ⟨w.heap.size,0,none⟩) (s.length+3) (s.length+3))/\w'.heap[w.heap.size]?=some (.cells ((hd s).map bv).toArray 5 (0,0))/\Below w.heap.size w w' :=by
 obtain⟨E,A,t,h,v⟩:=lg ab9;go_enter func70,ntmps70;go_wp2_with(at_make;apply lJ;intro a);apply a;clear a;refine wpList_make_full _ rfl _ _ 74 rfl w.heap.size 5 E (.int .u8 0) 1 underlying74 A t h .i64 .i64 _ _ (s.length+3) rfl rfl (by simp) (by simp) (by rw[v];omega) (by unfold maxLen;omega) (a_ _) ?_;intro r hown j;have x:r.heap[w.heap.size]?=some (.cells (madeCells (Value.int .u8 0).cells ((s.length+3)*1)) 5 (0,0)):=by
  obtain⟨q,_⟩|⟨g,F,G,q,_,H,_,_,I,y⟩:=hown.2
  .cases q
  injection q with k _ K;injection k with k;injection k with k _ _;subst k K;rw[H];congr 2
  apply Array.ext';rw[<-y,nZ<|by rw[Array.length_toList];omega]
 have c:=run_copy_row_string (P:=prog) r 74 9 3 5 w.heap.size 0 (s.length+3) (s.length+3) ⟨s.toArray⟩ _ 5 underlying74 (by rw[A];simp[h]) x (by simp[ByteArray.size]) (by simp[ByteArray.size,size_madeCells]);have b:(List.take 0 (madeCells (Value.int .u8 0).cells ((s.length+3)*1)).toList++byteCells (⟨s.toArray⟩:ByteArray).data.toList++List.drop (0+(⟨s.toArray⟩:ByteArray).size) (madeCells (Value.int .u8 0).cells ((s.length+3)*1)).toList).toArray=hdc s 0:=by
  have z:(madeCells (Value.int .u8 0).cells ((s.length+3)*1)).toList=List.replicate (s.length+3) (Value.int .u8 0):=by rw[uz];exact toList_madeCells_one _ _
  rw[z];simp[hdc,ByteArray.size,byteCells,bv]
 rw[b]at c;obtain⟨w2,d⟩:=aj8 (r.setRow w.heap.size (hdc s 0));rw[<-d]at c;have B:Hid (w2.heap[w.heap.size]?=some (.cells (hdc s 0) 5 (0,0))/\Below w.heap.size w w2):=by
  rw[d];exact Y ⟨setRow_heap r _ _ _ _ _ x,below_setRow (Hf j) (a_ _) _⟩
 clear hown j x b d;go_wp2_with fail;go_loopg [4] 3 (λg L C=>∃i:Nat,i<=3/\g=3 - i/\L=.int .i64 i/\Hid (C.heap[w.heap.size]?=some (.cells (hdc s i) 5 (0,0))/\Below w.heap.size w C));case atStart=>exact⟨0,by omega,rfl,rfl,B⟩
 case round=>
  obtain⟨i,l,rfl,rfl,f⟩:=hrel;clear B c;by_cases m:i<3
  .have z:decide ((i:Int)<3)=true:=aj_;obtain⟨n,N,O⟩:=bN f.u.1;have D:∃u,wr.cell? ⟨w.heap.size,s.length+i,none⟩=some u:=by
    rw[n];exact⟨_,FV<|by rw[ab_ s i l];omega⟩
   obtain⟨u,D⟩:=D;have o:(wr.setCell ⟨w.heap.size,s.length+i,none⟩ (.int .u8 ((81:Int)+i))).heap[w.heap.size]?=some (.cells (hdc s (i+1)) 5 (0,0)):=by rw[<-ace s i m];exact rY wr _ _ _ _ _ f.u.1
   have p:Below w.heap.size w (wr.setCell ⟨w.heap.size,s.length+i,none⟩ (.int .u8 ((81:Int)+i))):=f.u.2.setCell (a_ _) _;have Q:=Y (ajN o p);clear n o p f;go_wp2_with fail;go_roundg (3 - (i+1));case measure=>omega
   case rel=>exact⟨i+1,by omega,rfl,by simp,Q⟩
  have z:decide ((i:Int)<3)=false:=aj9;have S:decide (i<3)=false:=aj9;rw[show i=3 by omega,acd]at f;clear m l;go_wp2_with fail;go_ret;exact⟨rfl,f.u.1,f.u.2⟩
def Qj{l:U}(h:w.heap[g]?=some (.cells (l.map bv).toArray 5 (0,0))):(convert 74 9 (.slice (some ⟨g,0,none⟩) l.length c)).run prog w=.ok (.string ⟨l.toArray⟩) w:=by
 refine tJ w _ _ _ _ _ l underlying74 underlying5 underlying9 λj b=>?_;have a:(⟨g,0,none⟩:Addr).add j=⟨g,j,none⟩:=by unfold Addr.add;split<;>simp_all
 rw[a,(bN h).1 j];simp[bv,b]
def acf(s:U)(i:s.length<=1000000000)(w:World)(g:Nat)(b:w.heap[g]?=some (.cells ((hd s).map bv).toArray 5 (0,0))):Calls prog 71 #[.slice (some ⟨g,0,none⟩) (s.length+3) (s.length+3),.string ⟨s.toArray⟩] w λe w' =>e=.returned (.bool true)/\Below w.heap.size w w' :=by
 have d:=Y λw=>Qi s i w;have f:=Y b;clear b;have m:(hd s==hd s)=true:=by simp
 go_enter func71,ntmps71;go_wp2_with fail;go_call(d.u _)as e n ⟨rfl,h,a⟩;have j:=Qj (c:=s.length+3) h;have k:=Qj (c:=s.length+3) ((a.block g (Array.getElem?_eq_some_iff.1 f.u).1).trans f.u);rw[BJ]at j k;have l:=Y a;clear h a d;go_wp2_with fail;go_ret;exact⟨rfl,l.u⟩
def Cc{v:Value}{l:List Ev}{c:List Nat}(h:o_ w v l c):fL 0 w.heap.size w v l:=by
 obtain⟨f,d,b,g⟩:=h.ex;subst d;have a:=b.head;unfold Row.owned at a;simp only[iM]at a;exact fL.of a λp e=>ij.of (b.own _ (iU _ (rZ e)))
def Fr.SC{W:World}{f d:List Nat}(h:Fr w w' b f d)(a:Below W.heap.size W w)(i:W.heap.size<=b)(e:∀k∈f,W.heap.size<=k):Below W.heap.size W w' :=
 ⟨h.os.trans a.os,h.tape.trans a.tape,h.output.trans a.output,cL a.size h.size,λk c=>(h.block k (i_ c a.size) (by omega) λg=>by have:=e k g;omega).trans (a.block k c)⟩
def gv(d a t:Int)(nm:Bool)(D:U)(l:List Ev):Bool:=
 decide ((dM (bB d a t nm) D).2.2=0)&&(decide ((jd (dM (bB d a t nm) D).1).2=0)&&lZ (dM (bB d a t nm) D).2.1 l)
def wr(d a t:Int)(nm:Bool)(l:List Ev):U×Int:=if lG d a t then(if gv d a t nm (gq l) l then(gq l,0)else([],11))else([],1)
section
variable {W w:World}{b:Nat}{d a t:Int}{nm:Bool}{D:U}{l:List Ev}{v:Value}{ad:Option Addr}{c lo hi:Nat}
def agk(h:bC w b (bB d a t nm) (L0 b))(a2:a<=32)(hD:D.length<=7000000)(hG:Gl w)(a0:2+1<b)
 (hp:∀j (hj:j<D.length),∃g,ad=some ⟨g,0,none⟩/\g<w.heap.size/\g≠b/\g∉aY (bB d a t nm) (L0 b)/\w.cell? ⟨g,j,none⟩=some (.int .u8 (D[j].toNat:Int))) (hl:fL lo hi W v l) (hW:Below W.heap.size W w) (a4:W.heap.size<b):
 Calls prog 87 #[.pointer (some ⟨b,0,none⟩),.slice ad D.length c,v] w λe w' =>e=.returned (.bool (gv d a t nm D l))/\Below W.heap.size W w' /\∀k,k<w.heap.size->k≠b->k≠b - 1->w'.heap[k]?=w.heap[k]?:=by
 have T:=Y (NG h (NH d a t nm a2) D (by omega) hG a0 (vq 0) (by show(0:Int)<=1000000000;decide) ad c hp);have I:∀k∈aY (bB d a t nm) (L0 b),W.heap.size<=k:=λk G=>by rw[Bi]at G;have:=List.mem_singleton.1 G;omega
 have K:∀k,k≠b - 1->k∉aY (bB d a t nm) (L0 b):=λk G hm=>by rw[Bi]at hm;exact G (List.mem_singleton.1 hm)
 obtain⟨y,f⟩:=aj8 (gv d a t nm D l);rw[<-f];unfold gv at f;have s:=Y (ajN hl (ajN hW (ajN I K)));obtain⟨va,vc,hv,-⟩:=hl.form;subst hv;clear h hG hp hl hW I K;generalize aY (bB d a t nm) (L0 b)=F at *;generalize(dM (bB d a t nm) D).1=s1 at *;generalize(dM (bB d a t nm) D).2.1=l1 at *;generalize(dM (bB d a t nm) D).2.2=en at *;by_cases X:en=0
 .subst X;have e0:((0:Int) !=0)=false:=rfl;rw[show decide ((0:Int)=0)=true from rfl,ja]at f;go_enter func87,ntmps87;go_wp2_with fail;go_call T.u as e w1 ⟨v1,a1,L1,rfl,o,⟨sa,sn,sc,z⟩,i,p⟩;have HC:=Y (NC i.X);subst z;have n:=Y i;have A:=Y (ajN o p);clear i o p T;go_wp2_with fail;go_call HC.u as e w2 ⟨rfl,L2,B⟩;have r:=n.u.fr.trans B.fr;have C:=Fr.SC r s.u.2.1 (by omega) s.u.2.2.1;have x:∀k,k<w.heap.size->k≠b->k≠b - 1->w2.heap[k]?=w.heap[k]?:=λk L N O=>r.block k L N (s.u.2.2.2 k O);have P:=s.u.1.below C
  have Q:=Cc (A.u.1.keep λk G=>by
   have q:=A.u.2 k G
   exact B.fr.block k q.2.1 q.1.2 q.2.2.1)
  have HS:=Y (ad3 Q P);have m:=Y (ajN C (ajN x r.size));clear B HC n A r C x P Q s;by_cases H:(jd s1).2=0
  .have e1:=aka H;have a3:=Y (show y=lZ l1 l by rw[f];simp[H]);clear f H;go_wp2_with fail;go_call HS.u as e w3 ⟨rfl,R⟩;have S:=Y R;rw[<-a3.u];clear R HS;go_wp2;go_ret;exact⟨rfl,m.u.1.trans (S.u.mono m.u.1.size),λk L N O=>(S.u.block k<|by have:=m.u.2.2;omega).trans (m.u.2.1 k L N O)⟩
  have e1:=aj7 H;have E:y=false:=by rw[f];simp[H]
  subst E;clear f H HS;go_wp2;go_ret;exact⟨rfl,m.u.1,m.u.2.1⟩
 have e0:(en !=0)=true:=by simpa using X
 have E:y=false:=by rw[f];simp[X]
 subst E;clear f X;go_enter func87,ntmps87;go_wp2_with fail;go_call T.u as e w1 ⟨v1,a1,L1,rfl,o,⟨sa,sn,sc,z⟩,i,p⟩;subst z;have n:=Y i;clear i o p T;go_wp2;go_ret;exact⟨rfl,Fr.SC n.u.fr s.u.2.1 (by omega) s.u.2.2.1,λk L N O=>n.u.fr.block k L N (s.u.2.2.2 k O)⟩
def agl{fp:List Nat}(R:o_ w v l fp)(o:∀k∈fp,k<w.heap.size)(X:Cb l)(hD:(gq l).length<=7000000)(hG:Gl w)(hn:2<w.heap.size):
 Calls prog 65 #[.agg #[.int .i64 d,.int .i64 a,.int .i64 t,.bool nm],v] w λe w' =>∃z A,e=.returned (.tuple #[.slice z (wr d a t nm l).1.length A,.int .i64 (wr d a t nm l).2])/\w'.ownsRow w.heap.size 5 1 (.slice z (wr d a t nm l).1.length A) (wr d a t nm l).1.length ((wr d a t nm l).1.map bv)/\Below w.heap.size w w' :=by
 obtain⟨va,vc,rfl⟩:=R.got.slice;cases h:lG d a t with
 |false=>
  have B:wr d a t nm l=([],1):=by unfold wr;rw[h];rfl
  rw[B];have C:=Y (Ja d a t nm h);have e0:((1:Int) !=0)=true:=rfl;clear B R o X hG h;go_enter func65,ntmps65;go_wp2_with fail;go_call(C.u _)as e w1 ⟨rfl,D⟩;have HB:=Y (vX D).2;clear D C;go_wp2;go_ret2;exact⟨none,0,rfl,lq _ _ _ _,HB.u⟩
 |true=>
  obtain⟨d1,d2,a1,a2,t1,t2⟩:=BL h;have B:wr d a t nm l=if gv d a t nm (gq l) l then(gq l,0)else([],11):=by unfold wr;rw[h];rfl
  obtain⟨f,S⟩:=aj8 (wr d a t nm l);rw[<-S];rw[B]at S;have T:=Y S;have C:=Y λW=>GZ d a t nm d1 d2 a1 a2 t1 t2 W;have y:=Y (ajN R (ajN o (ajN hG X)));have e0:((0:Int) !=0)=false:=rfl;clear R o hG X B h d1 d2 a1 t1 t2 S;go_enter func65,ntmps65;go_wp2_with fail;go_call(C.u _)as e w1 ⟨b,rfl,E,m,hr⟩;have hb:w.heap.size<b:=by simp at E;omega
  have p:Below w.heap.size w w1:=Below.trans ((Below.refl _ _).alloc (a_ _) _) (m.mono<|by simp);clear E m;have F:=(y.u.1.keep λk s=>p.block k (y.u.2.1 k s)).got;have HT:=Y (agj F y.u.2.2.2<|by omega);have x:=Y (ajN p hr);clear F p hr C;go_wp2_with fail;go_call HT.u as e w2 ⟨z,A,rfl,hrow,i⟩;have a0:=x.u.2.lt;have s1:=x.u.1.size;have s2:=i.size;have H:=y.u.2.2.1.below hn x.u.1;have I:=H.below (by omega) i;have K:bC w2 b (bB d a t nm) (L0 b):=x.u.2.keep λk s=>i.block k (by obtain rfl|s:=s;exact a0;exact(x.u.2.jh k s).2);have L:∀j (hj:j<(gq l).length),∃g,z=some ⟨g,0,none⟩/\g<w2.heap.size/\g≠b/\g∉aY (bB d a t nm) (L0 b)/\w2.cell? ⟨g,j,none⟩=some (.int .u8 ((gq l)[j].toNat:Int)):=λj hj=>by
   obtain⟨g,c', hv,a4,N⟩:=World.ownsRow.form hrow (by omega);injection hv with hv _ hc;subst hv hc;have a5:=(World.ownsRow.lt hrow g rfl).1;refine⟨g,rfl,N,by omega,by rw[Bi];simp;omega,?_⟩;rw[Bc hrow j<|by omega];simp[bv,hj]
  have O:=Y (agk (c:=A) K a2 hD I (by omega) L (Cc y.u.1) (x.u.1.trans (i.mono s1)) hb);have n:=Y hrow;clear hrow i H I K L HT x y s1;generalize a3:gv d a t nm (gq l) l=G at *;go_wp2_with fail;go_call O.u as e w3 ⟨rfl,P,Q⟩;have HF:=Y (ajN P Q);clear P Q O a3;cases G
  .have hz:f=([],11):=T.u;subst hz;clear T;go_wp2;go_ret2;exact⟨none,0,rfl,lq _ _ _ _,HF.u.1⟩
  have hz:f=(gq l,0):=T.u;subst hz;clear T;go_wp2;go_ret2;refine⟨z,A,rfl,?_,HF.u.1⟩;refine xo (mo (r:=⟨5,1,_,_,_⟩) n.u λk s=>?_) (by omega);have q:=World.ownsRow.lt n.u k s;exact HF.u.2 k q.2 (by omega) (by omega)
end
