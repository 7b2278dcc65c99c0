import Derived.Test.YtmgfijllcdadgaaGreatDoorUW03
import Derived.Test.YtmgfijllcdadgaaGreatDoorUW01
set_option linter.all false
set_option maxHeartbeats 8000000
set_option maxRecDepth 100000
namespace Go.Proofs.YtmgfijllcdadgaaGreatDoor.V
open Go.RowKit
open Go.Proofs.Tryz
open Rf hiding R
open Mk (U Ev aI)
variable {b:Int}
def xu(x:UInt8):(0:Int)<=(x.toNat:Int)/\(x.toNat:Int)<=255:=by
 have:=x.toNat_lt;omega
def DL(b:Int)(w:World):Calls prog 149 #[.int .u8 b] w λe w' =>e=.returned (.bool (Rf.bJ b))/\w' =w:=by
 go_enter func149,ntmps149;go_wp2;all_goals(go_ret;exact⟨mU<|by rw[kF];simp[Rf.bJ];try omega,rfl⟩)
def ze(b:Int)(w:World):Calls prog 82 #[.int .u8 b] w λe w' =>e=.returned (.bool (Rf.fq b))/\w' =w:=by
 go_enter func82,ntmps82;go_wp2;all_goals(go_ret;exact⟨mU<|by rw[kF];simp[Rf.fq];try omega,rfl⟩)
def Hl(b:Int)(w:World):Calls prog 156 #[.int .u8 b] w λe w' =>e=.returned (.bool (dL b))/\w' =w:=by
 go_enter func156,ntmps156;go_wp2_with(go_at_call 82;go_call(ze _ _)as e w' ⟨rfl,rfl⟩);all_goals(go_ret;exact⟨mU<|by rw[kF];simp_all[dL];try omega,rfl⟩)
def Ho(a b:Int)(w:World):Calls prog 116 #[.int .i64 a,.int .i64 b] w λe w' =>e=.returned (.bool (nY a b))/\w' =w:=by
 go_enter func116,ntmps116;go_wp2;all_goals(go_ret;exact⟨mU<|by rw[kF];simp[nY];try omega,rfl⟩)
def aJ(i:Nat):Int:=match i with|0=>0|1=>127|2=>8191|3=>524287|_=>33554431
def ZC{i:Nat}{a:Int}(c:1<=i)(d:i<4)(h:a<=aJ i)(e:b<=191):a*64+b - 128<=aJ (i+1):=by
 have:i=1\/i=2\/i=3:=by omega
 obtain rfl|rfl|rfl:=this<;>simp[aJ]at * <;>omega
def Hq(i:Nat):aJ i<=33554431:=by unfold aJ;split<;>omega
def ZD{i:Nat}{a:Int}(b:1<=i)(c:i<4)(h:a<=aJ i):a*64+63<=aJ (i+1):=by
 have:i=1\/i=2\/i=3:=by omega
 obtain rfl|rfl|rfl:=this<;>simp[aJ]at * <;>omega
def ZE(h:b<128):mq b=some (1,0,b):=by
 rw[mq,J<|by simpa using h]
def ZF(h:192<=b)(a:b<224):mq b=some (2,128,b - 192):=by
 rw[mq,M<|by simp;omega,J<|by simp;omega]
def ZG(h:224<=b)(a:b<240):mq b=some (3,2048,b - 224):=by
 rw[mq,M<|by simp;omega,M<|by simp;omega,J<|by simp;omega]
def ZH(h:240<=b)(a:b<248):mq b=some (4,65536,b - 240):=by
 rw[mq,M<|by simp;omega,M<|by simp;omega,M<|by simp;omega,J<|by simp;omega]
def ZI(h:(128<=b/\b<192)\/248<=b):mq b=none:=by
 rw[mq,M<|by simp;omega,M<|by simp;omega,M<|by simp;omega,M<|by simp;omega]
theorem tail_cons(a:Int)(x:UInt8)(l:U):qx a (x::l)=if decide ((x.toNat:Int)<128)||decide (191<(x.toNat:Int))then none else qx (a*64+(x.toNat:Int) - 128) l:=rfl
def qT(l:U)(i:Nat)(a:i<l.length):∀h,(ByteArray.mk l.toArray)[i]'h=l[i]:=λh=>rfl
def Hr(l:U)(hl:l.length<=1000000000000)(w:World):Calls prog 85 #[.string ⟨l.toArray⟩] w λe w' =>e=.returned (.int .i64 (kr l))/\w' =w:=by
 cases l with
 |nil=>
  go_enter func85,ntmps85;go_wp2;go_ret;exact⟨rfl,rfl⟩
 |cons x l=>
  have hx:=xu x;have a1:∀h,(ByteArray.mk (x::l).toArray)[0]'h=x:=λh=>rfl;have H:wrap64 (x.toNat:Int)=(x.toNat:Int):=by unfold wrap64;omega
  generalize hb:(x.toNat:Int)=bb at *;obtain⟨a2,q⟩:=aj8 (kr (x::l));rw[<-q]
  have I:kr (x::l)=(match mq bb with
   |none=> -1
   |some (c,a,p)=>
    if c<l.length+1 then -1 else
    match qx p l with
    |none=> -1
    |some p=>
     let m:=c - (l.length+1)
     let v:=rJ p m
     let K:=tQ p m
     let g:=if decide (v<a)then a else v
     if decide (g<=K)&&nY g K then(m:Int)else -1):=by rw[<-hb];rfl
  rw[I]at q;have L:=Y q;clear I q;go_enter func85,ntmps85;go_upto_block 0 with fail
  go_cut [3,4,5] λs3 s4 N wx=>wx=w/\∃(c:Nat) (a p:Int),s3=.int .i64 c/\s4=.int .i64 a/\N=.int .i64 p/\mq bb=some (c,a,p)/\1<=c/\c<=4/\0<=p/\p<=127/\0<=a/\a<=65536
  case first=>
   have a3:=H;go_wp2;all_goals(try simp only[a3]at *)
   all_goals first
    |(go_meet;first
     |exact⟨rfl,1,_,_,rfl,rfl,rfl,ZE<|by omega,by omega,by omega,by omega,by omega,by omega,by omega⟩
     |exact⟨rfl,2,_,_,rfl,rfl,rfl,ZF (by omega) (by omega),by omega,by omega,by omega,by omega,by omega,by omega⟩
     |exact⟨rfl,3,_,_,rfl,rfl,rfl,ZG (by omega) (by omega),by omega,by omega,by omega,by omega,by omega,by omega⟩
     |exact⟨rfl,4,_,_,rfl,rfl,rfl,ZH (by omega) (by omega),by omega,by omega,by omega,by omega,by omega,by omega⟩)
    |(go_ret;have k:=L.u;rw[ZI<|by omega]at k;rw[k];exact⟨rfl,rfl⟩)
  case rest=>
  obtain⟨a4,c,a,p,rfl,rfl,rfl,hh,aj,ak,O,P,ag,ah⟩:=hcut;obtain rfl:=a4.symm;rw[hh]at L;clear hh hx H a1 hb;have al:(x::l).length=l.length+1:=rfl;by_cases D:c<l.length+1
  .have k:=L.u;simp only[D,bY]at k;have e1:((l.length:Int)+1>(c:Int)):=by omega
   go_wp2;go_ret;exact⟨rfl,rfl⟩
  have e1:¬((l.length:Int)+1>(c:Int)):=by omega
  have y:Hid (a2=match qx p l with
   |none=> -1
   |some p=>
    let m:=c - (l.length+1)
    let v:=rJ p m
    let K:=tQ p m
    let g:=if decide (v<a)then a else v
    if decide (g<=K)&&nY g K then(m:Int)else -1):=by
   have k:=L.u;simp only[D,cE]at k;exact k
  clear L;go_wp2_with fail;go_loopw [5,6] (λN s6 w' =>w' =w/\∃(i:Nat) (f:Int),s6=.int .i64 i/\N=.int .i64 f/\1<=i/\i<=l.length+1/\qx p l=qx f (l.drop (i - 1))/\0<=f/\f<=aJ i) λ_ i _=>l.length+1 - (intOf i).toNat
  case atStart=>exact⟨rfl,1,p,rfl,rfl,by omega,by omega,rfl,O,P⟩
  case round=>
   obtain⟨E,i,f,rfl,rfl,a5,d,o,am,Q⟩:=hrel;obtain rfl:=E.symm;by_cases a6:i<l.length+1
   .have e2:decide ((i:Int)<(l.length:Int)+1)=true:=aj_;have R:(x::l)[i]=l[i - 1]:=by
     obtain⟨j,rfl⟩:∃j,i=j+1:=⟨i - 1,by omega⟩;simp
    have a7:∀h,(ByteArray.mk (x::l).toArray)[i]'h=l[i - 1]:=λh=>(qT (x::l) i a6 h).trans R;have S:l.drop (i - 1)=l[i - 1]::l.drop i:=by
     rw[gB<|by omega];congr 2
     omega
    rw[S]at o;have a8:=xu l[i - 1];have T:=ZC (b:=(l[i - 1].toNat:Int)) a5 (by omega) Q;have W:=Hq i;rw[tail_cons]at o;obtain⟨z,hz⟩:=aj8 (l[i - 1]);rw[<-hz]at o a8 T a7;clear hz S R;have an:wrap64 (z.toNat:Int)=(z.toNat:Int):=by unfold wrap64;omega
    have a9:wrap64 (f*64)=f*64:=by unfold wrap64;omega
    have aa:wrap64 (f*64+(z.toNat:Int))=f*64+(z.toNat:Int):=by unfold wrap64;omega
    have ab:wrap64 (f*64+(z.toNat:Int) - 128)=f*64+(z.toNat:Int) - 128:=by unfold wrap64;omega
    by_cases hy:(z.toNat:Int)<128\/191<(z.toNat:Int)
    .rw[J<|by simpa using hy]at o;have k:=y.u;rw[o]at k;have A:=Y k;clear k y o;go_wp2;all_goals first
      |(go_ret;rw[A.u];exact⟨rfl,rfl⟩)
      |omega
    rw[M<|by simpa using hy]at o;have HT:=Y o;clear o y;go_wp2;all_goals first
     |(exfalso;omega)
     |skip
    refine⟨⟨trivial,i+1,_,by simp,rfl,by omega,by omega,HT.u,by omega,by omega⟩,by simp[intOf]<;>omega⟩
   have e2:decide ((i:Int)<(l.length:Int)+1)=false:=aj9;have F:i=l.length+1:=by omega
   subst F;have k:=y.u;rw[o,iF,show qx f []=some f from rfl]at k;have A:=Y k;clear k o y;go_wp2_with fail;go_loopw [5,7,8] (λN s7 s8 w' =>w' =w/\∃(i:Nat) (g d:Int),s8=.int .i64 i/\N=.int .i64 g/\s7=.int .i64 d/\l.length+1<=i/\i<=c/\rJ f (c - (l.length+1))=rJ g (c - i)/\tQ f (c - (l.length+1))=tQ d (c - i)/\0<=g/\g<=d/\d<=aJ i) λ_ _ i _=>c - (intOf i).toNat
   case atStart=>exact⟨rfl,l.length+1,f,f,by simp,rfl,rfl,by omega,by omega,rfl,rfl,by omega,by omega,Q⟩
   case round=>
    obtain⟨E,i,g,d,rfl,rfl,rfl,ao,ap,r,s,aq,ad,ae⟩:=hrel;obtain rfl:=E.symm;by_cases ai:i<c
    .have e3:decide ((i:Int)<(c:Int))=true:=aj_;have T:=ZD (by omega) (by omega) ae;have W:=Hq i;have a9:wrap64 (g*64)=g*64:=by unfold wrap64;omega
     have aa:wrap64 (d*64)=d*64:=by unfold wrap64;omega
     have ab:wrap64 (d*64+63)=d*64+63:=by unfold wrap64;omega
     obtain⟨m,hm⟩:∃m,c - i=m+1:=⟨c - i - 1,by omega⟩;have X:c - (i+1)=m:=by omega
     rw[hm]at r s;have HP:=Y (ajN r s);clear r s A;go_wp2;refine⟨⟨trivial,i+1,_,_,by simp,rfl,rfl,by omega,by omega,?_,?_,by omega,by omega,by omega⟩,by simp[intOf]<;>omega⟩
     .rw[X];exact HP.u.1
     .rw[X];exact HP.u.2
    have e3:decide ((i:Int)<(c:Int))=false:=aj9;have F:i=c:=by omega
    subst F;rw[Nat.sub_self]at r s;have k:=A.u;simp only[r,s,rJ,tQ]at k;have B:=Y k;have W:=Hq i;clear k r s A;have hq:((i - (l.length+1):Nat):Int)=(i:Int) - ((l.length:Int)+1):=by omega
    rw[hq]at B;have ar:wrap64 ((i:Int) - ((l.length:Int)+1))=(i:Int) - ((l.length:Int)+1):=by unfold wrap64;omega
    have C:∀t:Int,(if decide (t<=d)&&nY t d then(i:Int) - ((l.length:Int)+1)else -1)=if t<=d then(if nY t d=true then(i:Int) - ((l.length:Int)+1)else -1)else -1:=by
     intro t;by_cases h:t<=d<;>simp[h]
    by_cases a0:g<a;focus
     have k:=B.u;simp only[a0,ajO,bY]at k;rw[C]at k;have n:=Y k;have G:=Y (Ho a d w);clear k B C;by_cases h4:a<=d;focus
      cases h5:nY a d;focus
       rw[h5]at G n;rw[J h4,M]at n
      rotate_left;focus
       rw[h5]at G n;rw[J h4,J rfl]at n
     rotate_left 2
     .rw[M h4]at n;go_wp2;go_ret;rw[n.u];exact⟨rfl,rfl⟩
    rotate_left 2;focus
     have k:=B.u;have af:=pV a0;simp only[af,cE,cK]at k;rw[C]at k;have n:=Y k;have G:=Y (Ho g d w);clear k B C;rw[J ad]at n;cases h5:nY g d;focus
      rw[h5]at G n;rw[M]at n
     rotate_left;focus
      rw[h5]at G n;rw[J rfl]at n
    all_goals
     go_wp2_with(go_at_call 116;go_call G.u as e w' ⟨rfl,hw⟩;obtain rfl:=hw.symm);go_ret;rw[n.u];exact⟨rfl,rfl⟩
