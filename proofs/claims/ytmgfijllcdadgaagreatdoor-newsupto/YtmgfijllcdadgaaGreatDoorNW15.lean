import Derived.Test.YtmgfijllcdadgaaGreatDoorNW14
import Derived.Test.YtmgfijllcdadgaaGreatDoorNW01
import Derived.Laws.BitsLemmas
set_option linter.unusedVariables false
set_option linter.unusedSimpArgs false
set_option maxHeartbeats 2000000
set_option maxRecDepth 100000
namespace Go.Proofs.YtmgfijllcdadgaaGreatDoor.V
open Go.RowKit
open Mk (Bs)
open Mk (Bs Ev aD)
open Rf (R)
open Tryz
open Rf (lW jy lV nN nO aP eY)
variable {b:Int}
theorem qI(b:Int)(c:0≤b)(d:b≤255)(g:Nat)(W:World)(h:W.cell? ⟨g,0,none⟩=some (.int .u8 b)):
 (convert 74 9 (.slice (some ⟨g,0,none⟩) 1 1)).run Tryz.prog W=.ok (.string ⟨[Mk.u8 b].toArray⟩) W:=by
 refine run_convert_bytes_back W _ _ _ _ _ [Mk.u8 b] underlying74 underlying5 underlying9 fun j a=>?_
 have:j=0:=by simpa using a
 subst this;have e:((Mk.u8 b).toNat:Int)=b:=by
  unfold Mk.u8;rw[UInt8.toNat_ofNat'];omega
 simpa[Addr.add,e]using h
theorem II(n:Int)(c:0≤n)(f:n≤1114111):bits .and .i64 n 63=n % 64:=by
 have h:=bits_mask .i64 63 (by decide) (fun n a b=>by rw[IntKind.wrap_i64];omega) 6 (by decide) n c (by omega);have e:((2:Int) ^ 6 - 1)=63:=by decide
 have d:((2:Int) ^ 6)=64:=by decide
 rw[e,d]at h;exact h
theorem IJ(l:Bs):(ByteArray.mk l.toArray).size=l.length:=by simp[ByteArray.size]
theorem pE(b:UInt8)(l:Bs):(⟨#[b]⟩:ByteArray)++(⟨l.toArray⟩:ByteArray)=⟨(b::l).toArray⟩:=by
 apply ByteArray.ext;simp
theorem sV(n:Int)(X:0≤n)(Y:n≤1114111)(K:Nat)(c:Nat→Int×Bs×Int)(h:c 0=(n,[],128))
 (s:∀j,j≤K→0≤(c j).1∧(c j).1≤1114111∧1≤(c j).2.2∧(c j).2.2≤128∧(c j).2.1.length=j) (Z:K≤3)
 (o:∀j,j<K→(c j).2.2≤(c j).1∧c (j+1)=((c j).1 / 64,Mk.u8 (128+(c j).1 % 64)::(c j).2.1,if(c j).2.2==128 then 32 else(c j).2.2 / 2)) (i:(c K).1<(c K).2.2) (a:(c K).1+(if K=0 then 0 else if K=1 then 192 else if K=2 then 224 else 240)≤255) (w:World):
 Calls Tryz.prog 228 #[.int .i64 n] w fun e w' =>e=.returned (.string ⟨(Mk.u8 ((c K).1+(if K=0 then 0 else if K=1 then 192 else if K=2 then 224 else 240))::(c K).2.1).toArray⟩)∧Below w.heap.size w w' :=by
 go_enter func228,ntmps228
 go_wp2
 go_loopw [0,3,4] (fun I u J w' =>Below w.heap.size w w' ∧∃j,j≤K∧I=.int .i64 (c j).1∧u=.string ⟨(c j).2.1.toArray⟩∧J=.int .i64 (c j).2.2) (fun _ u _ _=>K - (match u with|.string b=>b.size|_=>0))
 case atStart=>exact⟨Below.refl _ _,0,by omega,by rw[h],by rw[h],by rw[h]⟩
 case round=>
  obtain⟨d,j,L,rfl,rfl,rfl⟩:=hrel;obtain⟨M,N,b2,b3,f⟩:=s j L;have k:=d.size;by_cases v:j<K
  .obtain⟨O,g2⟩:=o j v;have p:=aB g2;have y:=aB f;have q:=(s (j+1) (by omega)).2.2.2.2;rw[g2]at q;have z:=aB q;have A:(c j).2.1.length≤3:=by omega
   clear o s i a h g2 f q;generalize c j=x at *;obtain⟨m,tail,g⟩:=x;simp only at *;have P:decide (g≤m)=true:=by simpa using O
   have a1:=II m M N;have a2:wrap64 (128+m % 64)=128+m % 64:=by unfold wrap64;omega
   have t:(128+m % 64) % 256=128+m % 64:=by omega
   have l:=qI (128+m % 64) (by omega) (by omega) wr.heap.size (wr.alloc (.cells #[.int .u8 (128+m % 64)] 5)) (by simp[go_sem]);have B:K - (j+1)<K - j:=by omega
   cases Q:(g==128);all_goals
    go_wp2
    have R:=aA z;have S:=aA y;simp only[List.length_cons]at R;refine⟨⟨d.alloc k _,j+1,by omega,by rw[aA p],by rw[aA p,pE],by rw[aA p];simp[Q]⟩,?_⟩;rw[pE];simp only[IJ,List.length_cons,S];exact B
  have C:j=K:=by omega
  subst C;have H:=aB i;have A:(c j).2.1.length≤3:=by omega
  clear o s h i;generalize r:c j=x at *;obtain⟨m,tail,g⟩:=x;have HST:=aB r;clear r;simp only at *;have P:decide (g≤m)=false:=by have:=aA H;simp;omega
  have hm:m<128:=by have:=aA H;omega
  have T:j=0∨j=1∨j=2∨j=3:=by omega
  rcases T with rfl|rfl|rfl|rfl
  .have D:m≤255:=by simpa using a
   have E:(((tail.length:Nat):Int)==1)=false:=by rw[f];rfl
   have F:(((tail.length:Nat):Int)==2)=false:=by rw[f];rfl
   have G:(((tail.length:Nat):Int)==3)=false:=by rw[f];rfl
   have t:m % 256=m:=by omega
   have l:=qI m (by omega) (by omega) wr.heap.size (wr.alloc (.cells #[.int .u8 m] 5)) (by simp[go_sem]);clear a f;go_wp2
   go_ret;exact⟨by rw[pE,aA HST];simp,d.alloc k _⟩
  .have D:m+192≤255:=by simpa using a
   have E:(((tail.length:Nat):Int)==1)=true:=by rw[f];rfl
   have F:(((tail.length:Nat):Int)==2)=false:=by rw[f];rfl
   have G:(((tail.length:Nat):Int)==3)=false:=by rw[f];rfl
   have t:(m+192) % 256=m+192:=by omega
   have l:=qI (m+192) (by omega) (by omega) wr.heap.size (wr.alloc (.cells #[.int .u8 (m+192)] 5)) (by simp[go_sem]);clear a f;go_wp2
   go_ret;exact⟨by rw[pE,aA HST];simp,d.alloc k _⟩
  .have D:m+224≤255:=by simpa using a
   have E:(((tail.length:Nat):Int)==1)=false:=by rw[f];rfl
   have F:(((tail.length:Nat):Int)==2)=true:=by rw[f];rfl
   have G:(((tail.length:Nat):Int)==3)=false:=by rw[f];rfl
   have t:(m+224) % 256=m+224:=by omega
   have l:=qI (m+224) (by omega) (by omega) wr.heap.size (wr.alloc (.cells #[.int .u8 (m+224)] 5)) (by simp[go_sem]);clear a f;go_wp2
   go_ret;exact⟨by rw[pE,aA HST];simp,d.alloc k _⟩
  have D:m+240≤255:=by simpa using a
  have E:(((tail.length:Nat):Int)==1)=false:=by rw[f];rfl
  have F:(((tail.length:Nat):Int)==2)=false:=by rw[f];rfl
  have G:(((tail.length:Nat):Int)==3)=true:=by rw[f];rfl
  have t:(m+240) % 256=m+240:=by omega
  have l:=qI (m+240) (by omega) (by omega) wr.heap.size (wr.alloc (.cells #[.int .u8 (m+240)] 5)) (by simp[go_sem]);clear a f;go_wp2
  go_ret;exact⟨by rw[pE,aA HST];simp,d.alloc k _⟩
theorem qJ(n:Int)(f:0≤n)(g:n≤1114111)(w:World):
 Calls Tryz.prog 228 #[.int .i64 n] w fun e w' =>e=.returned (.string ⟨(lW n).toArray⟩)∧Below w.heap.size w w' :=by
 have p:n / 64 / 64=n / 4096:=by omega
 have q:n / 4096 / 64=n / 262144:=by omega
 let a:Nat→Int×Bs×Int:=fun j=>match j with
  |0=>(n,[],128)
  |1=>(n / 64,[Mk.u8 (128+n % 64)],32)
  |2=>(n / 4096,[Mk.u8 (128+n / 64 % 64),Mk.u8 (128+n % 64)],16)
  |_=>(n / 262144,[Mk.u8 (128+n / 4096 % 64),Mk.u8 (128+n / 64 % 64),Mk.u8 (128+n % 64)],8)
 have b:∀j,j≤3→0≤(a j).1∧(a j).1≤1114111∧1≤(a j).2.2∧(a j).2.2≤128∧(a j).2.1.length=j:=by
  intro j c;obtain rfl|rfl|rfl|rfl:j=0∨j=1∨j=2∨j=3:=by omega
  .exact⟨f,g,by show(1:Int)≤128;decide,by show(128:Int)≤128;decide,rfl⟩
  .exact⟨by show 0≤n / 64;omega,by show n / 64≤_;omega,by show(1:Int)≤32;decide,by show(32:Int)≤128;decide,rfl⟩
  .exact⟨by show 0≤n / 4096;omega,by show n / 4096≤_;omega,by show(1:Int)≤16;decide,by show(16:Int)≤128;decide,rfl⟩
  exact⟨by show 0≤n / 262144;omega,by show n / 262144≤_;omega,by show(1:Int)≤8;decide,by show(8:Int)≤128;decide,rfl⟩
 have i:a 1=((a 0).1 / 64,Mk.u8 (128+(a 0).1 % 64)::(a 0).2.1,if(a 0).2.2==128 then 32 else(a 0).2.2 / 2):=rfl;have l:a 2=((a 1).1 / 64,Mk.u8 (128+(a 1).1 % 64)::(a 1).2.1,if(a 1).2.2==128 then 32 else(a 1).2.2 / 2):=by
  show _=(n / 64 / 64,_,_);rw[p];rfl
 have r:a 3=((a 2).1 / 64,Mk.u8 (128+(a 2).1 % 64)::(a 2).2.1,if(a 2).2.2==128 then 32 else(a 2).2.2 / 2):=by
  show _=(n / 4096 / 64,_,_);rw[q];rfl
 unfold lW;by_cases k:n<128
 .rw[if_pos k];have h:=sV n f g 0 a rfl (fun j c=>b j (by omega)) (by decide) (fun j c=>by omega) (by show n<128;exact k) (by show n+0≤255;omega) w;refine h.mono ?_;rintro e w' ⟨rfl,d⟩;exact⟨by show Ending.returned (.string ⟨([Mk.u8 (n+0)]:Bs).toArray⟩)=_;rw[Int.add_zero];rfl,d⟩
 rw[if_neg k];by_cases m:n<2048
 .rw[if_pos m];have h:=sV n f g 1 a rfl (fun j c=>b j (by omega)) (by decide) (fun j c=>by obtain rfl:j=0:=(by omega);exact⟨by show 128≤n;omega,i⟩) (by show n / 64<32;omega) (by show n / 64+192≤255;omega) w;refine h.mono ?_;rintro e w' ⟨rfl,d⟩;exact⟨rfl,d⟩
 rw[if_neg m];by_cases o:n<65536
 .rw[if_pos o]
  have h:=sV n f g 2 a rfl (fun j c=>b j (by omega)) (by decide) (fun j c=>by
   obtain rfl|rfl:j=0∨j=1:=by omega
   .exact⟨by show 128≤n;omega,i⟩
   exact⟨by show 32≤n / 64;omega,l⟩) (by show n / 4096<16;omega) (by show n / 4096+224≤255;omega) w
  refine h.mono ?_;rintro e w' ⟨rfl,d⟩;exact⟨rfl,d⟩
 rw[if_neg o]
 have h:=sV n f g 3 a rfl (fun j c=>b j (by omega)) (by decide) (fun j c=>by
  obtain rfl|rfl|rfl:j=0∨j=1∨j=2:=by omega
  .exact⟨by show 128≤n;omega,i⟩
  .exact⟨by show 32≤n / 64;omega,l⟩
  exact⟨by show 16≤n / 4096;omega,r⟩) (by show n / 262144<8;omega) (by show n / 262144+240≤255;omega) w
 refine h.mono ?_;rintro e w' ⟨rfl,d⟩;exact⟨rfl,d⟩
def kK(j:Nat):Int:=if j<10 then 48+j else 87+j
def kL(j:Nat):Int:=if j<10 then 48+j else 55+j
theorem IK(c base:Int)(d:base=10∨base=16)(j:Nat)(e:(j:Int)<base)(h:kK j=c∨kL j=c):Rf.digit c base=j:=by
 unfold Rf.digit;unfold kK kL at h;rcases d with rfl|rfl
 .have:j<10:=by omega
  simp only[this,if_true]at h;have b:c=48+j:=by omega
  subst b;simp;omega
 by_cases a:j<10
 .simp only[a,if_true]at h;have b:c=48+j:=by omega
  subst b;simp;omega
 simp only[a,if_false]at h;rcases h with h|h
 .subst h;simp;repeat' split
  all_goals omega
 subst h;simp;repeat' split
 all_goals omega
theorem IL(c base:Int)(f:base=10∨base=16)(h:∀j:Nat,(j:Int)<base→kK j≠c∧kL j≠c):Rf.digit c base= -1:=by
 unfold Rf.digit;split
 .rename_i b;simp at b;have a:=h (c - 48).toNat;unfold kK kL at a;have g:(c - 48).toNat<10:=by omega
  simp only[g,if_true]at a;rcases f with rfl|rfl
  .have:=(a (by omega)).1;omega
  have:=(a (by omega)).1;omega
 split
 .rename_i b;simp at b;obtain⟨rfl,d,e⟩:=b;have a:=(h (c - 87).toNat (by omega)).1;unfold kK at a;rw[if_neg (by omega)]at a;omega
 split
 .rename_i b;simp at b;obtain⟨rfl,d,e⟩:=b;have a:=(h (c - 55).toNat (by omega)).2;unfold kL at a;rw[if_neg (by omega)]at a;omega
 rfl
theorem Au(k:Nat)(h:k<16):k=0∨k=1∨k=2∨k=3∨k=4∨k=5∨k=6∨k=7∨k=8∨k=9∨k=10∨k=11∨k=12∨k=13∨k=14∨k=15:=by omega
theorem IP(k:Nat)(h:k<16):((((⟨#[48,49,50,51,52,53,54,55,56,57,97,98,99,100,101,102]⟩:ByteArray)[k]'h).toNat:Nat):Int)=kK k:=by
 rcases Au k h with rfl|rfl|rfl|rfl|rfl|rfl|rfl|rfl|rfl|rfl|rfl|rfl|rfl|rfl|rfl|rfl<;>rfl
theorem IQ(k:Nat)(h:k<16):((((⟨#[48,49,50,51,52,53,54,55,56,57,65,66,67,68,69,70]⟩:ByteArray)[k]'h).toNat:Nat):Int)=kL k:=by
 rcases Au k h with rfl|rfl|rfl|rfl|rfl|rfl|rfl|rfl|rfl|rfl|rfl|rfl|rfl|rfl|rfl|rfl<;>rfl
theorem vX(c:Int)(x:0≤c)(y:c≤255)(base:Int)(m:base=10∨base=16)(w:World):
 Calls Tryz.prog 227 #[.int .u8 c,.int .i64 base] w fun e w' =>e=.returned (.int .i64 (Rf.digit c base))∧w' =w:=by
 obtain⟨b,a⟩:∃b,b=Rf.digit c base:=⟨_,rfl⟩;rw[←a];have g:Hid (∀j:Nat,(j:Int)<base→(kK j=c∨kL j=c)→b=j):=fun j l h=>by rw[a];exact IK c base m j l h
 have n:Hid ((∀j:Nat,(j:Int)<base→kK j≠c∧kL j≠c)→b= -1):=fun h=>by rw[a];exact IL c base m h
 have q:base≤16:=by omega
 have o:0≤base:=by omega
 clear a m;go_enter func227,ntmps227
 go_wp2
 go_loop [5] (fun u=>∃k:Nat,(k:Int)≤base∧u=.int .i64 k∧Hid (∀j:Nat,j<k→kK j≠c∧kL j≠c)) (fun i=>16 - (intOf i).toNat)
 case atStart=>exact⟨0,o,rfl,fun j l=>by omega⟩
 case round=>
  obtain⟨k,z,rfl,r⟩:=hrel;by_cases d:(k:Int)<base
  .have e0:decide ((k:Int)<base)=true:=by simpa using d
   have f:k<16:=by omega
   have A:=IP k f;have B:=IQ k f;cases s:(kK k==c)
   .cases t:(kL k==c)
    .have v:Hid (∀j:Nat,j<k+1→kK j≠c∧kL j≠c):=fun j l=>by
      by_cases p:j<k
      .exact aA r j p
      obtain rfl:j=k:=by omega
      exact⟨by simpa using s,by simpa using t⟩
     go_wp2
     go_round
     case rel=>exact⟨k+1,by omega,by go_num,aA v⟩
     case measure=>simp[intOf];omega
    have hfin:=aB (aA g k d (.inr (by simpa using t)));go_wp2
    go_ret;exact⟨by rw[aA hfin];rfl,rfl⟩
   have hfin:=aB (aA g k d (.inl (by simpa using s)));go_wp2
   go_ret;exact⟨by rw[aA hfin];rfl,rfl⟩
  have e0:decide ((k:Int)<base)=false:=by simpa using d
  have hfin:=aB (aA n (fun j l=>aA r j (by omega)));go_wp2
  go_ret;exact⟨by rw[aA hfin];rfl,rfl⟩
def aG(i:Nat):Int:=match i with|0=>0|1=>127|2=>8191|3=>524287|_=>33554431
theorem IR{i:Nat}{a:Int}(c:1≤i)(d:i<4)(h:a≤aG i)(e:b≤191):a*64+b - 128≤aG (i+1):=by
 have:i=1∨i=2∨i=3:=by omega
 rcases this with rfl|rfl|rfl<;>simp[aG]at * <;>omega
theorem vY(i:Nat):aG i≤33554431:=by unfold aG;split<;>omega
theorem IU{i:Nat}{a:Int}(b:1≤i)(c:i<4)(h:a≤aG i):a*64+63≤aG (i+1):=by
 have:i=1∨i=2∨i=3:=by omega
 rcases this with rfl|rfl|rfl<;>simp[aG]at * <;>omega
theorem IV(h:b<128):jy b=some (1,0,b):=by
 unfold jy;rw[if_pos (by simpa using h)]
theorem IW(h:192≤b)(a:b<224):jy b=some (2,128,b - 192):=by
 unfold jy;rw[if_neg (by simp;omega),if_pos (by simp;omega)]
theorem IX(h:224≤b)(a:b<240):jy b=some (3,2048,b - 224):=by
 unfold jy;rw[if_neg (by simp;omega),if_neg (by simp;omega),if_pos (by simp;omega)]
theorem IY(h:240≤b)(a:b<248):jy b=some (4,65536,b - 240):=by
 unfold jy;rw[if_neg (by simp;omega),if_neg (by simp;omega),if_neg (by simp;omega),if_pos (by simp;omega)]
theorem IZ(h:(128≤b∧b<192)∨248≤b):jy b=none:=by
 unfold jy;rw[if_neg (by simp;omega),if_neg (by simp;omega),if_neg (by simp;omega),if_neg (by simp;omega)]
theorem tail_cons(a:Int)(x:UInt8)(l:Bs):lV a (x::l)=if decide ((x.toNat:Int)<128)||decide (191<(x.toNat:Int))then none else lV (a*64+(x.toNat:Int) - 128) l:=rfl
theorem jQ(l:Bs)(i:Nat)(a:i<l.length):∀h,(ByteArray.mk l.toArray)[i]'h=l[i]:=fun h=>rfl
theorem vZ(l:Bs)(hl:l.length≤1000000000000)(w:World):Calls Tryz.prog 85 #[.string ⟨l.toArray⟩] w fun e w' =>e=.returned (.int .i64 (Rf.goes l))∧w' =w:=by
 cases l with
 |nil=>
  go_enter func85,ntmps85
  go_wp2
  go_ret;exact⟨rfl,rfl⟩
 |cons x l=>
  have hx:=lZ x;have a0:∀h,(ByteArray.mk (x::l).toArray)[0]'h=x:=fun h=>rfl
  have I:wrap64 (x.toNat:Int)=(x.toNat:Int):=by unfold wrap64;omega
  generalize hb:(x.toNat:Int)=bb at *;obtain⟨E,q⟩:∃E,E=Rf.goes (x::l):=⟨_,rfl⟩;rw[←q]
  have J:Rf.goes (x::l)=(match jy bb with
   |none=> -1
   |some (c,a,p)=>
    if c<l.length+1 then -1 else
    match lV p l with
    |none=> -1
    |some p=>
     let m:=c - (l.length+1)
     let u:=nN p m
     let K:=nO p m
     let f:=if decide (u<a)then a else u
     if decide (f≤K)&&Rf.some_ f K then(m:Int)else -1):=by rw[←hb];rfl
  rw[J]at q;have L:=aB q;clear J q;go_enter func85,ntmps85
  go_upto_block 0 with fail
  go_cut [3,4,5] (fun s3 s4 M wx=>wx=w∧∃(c:Nat) (a p:Int),s3=.int .i64 c∧s4=.int .i64 a∧M=.int .i64 p∧jy bb=some (c,a,p)∧1≤c∧c≤4∧0≤p∧p≤127∧0≤a∧a≤65536)
  case first=>
   have a1:=I;go_wp2
   all_goals(try simp only[a1]at *)
   all_goals first
    |(go_meet;first
     |exact⟨rfl,1,_,_,rfl,rfl,rfl,IV (by omega),by omega,by omega,by omega,by omega,by omega,by omega⟩
     |exact⟨rfl,2,_,_,rfl,rfl,rfl,IW (by omega) (by omega),by omega,by omega,by omega,by omega,by omega,by omega⟩
     |exact⟨rfl,3,_,_,rfl,rfl,rfl,IX (by omega) (by omega),by omega,by omega,by omega,by omega,by omega,by omega⟩
     |exact⟨rfl,4,_,_,rfl,rfl,rfl,IY (by omega) (by omega),by omega,by omega,by omega,by omega,by omega,by omega⟩)
    |(go_ret;have n:=aA L;rw[IZ (by omega)]at n;rw[n];exact⟨rfl,rfl⟩)
  case rest=>
  obtain⟨a2,c,a,p,rfl,rfl,rfl,hh,ah,ai,N,O,ae,af⟩:=hcut;obtain rfl:=a2.symm;rw[hh]at L;clear hh hx I a0 hb;have aj:(x::l).length=l.length+1:=rfl;by_cases D:c<l.length+1
  .have n:=aA L;simp only[D,if_true]at n;have e1:((l.length:Int)+1>(c:Int)):=by omega
   go_wp2
   go_ret;exact⟨rfl,rfl⟩
  have e1:¬((l.length:Int)+1>(c:Int)):=by omega
  have v:Hid (E=match lV p l with
   |none=> -1
   |some p=>
    let m:=c - (l.length+1)
    let u:=nN p m
    let K:=nO p m
    let f:=if decide (u<a)then a else u
    if decide (f≤K)&&Rf.some_ f K then(m:Int)else -1):=by
   have n:=aA L;simp only[D,if_false]at n;exact n
  clear L;go_wp2_with fail
  go_loopw [5,6] (fun M s6 w' =>w' =w∧∃(i:Nat) (g:Int),s6=.int .i64 i∧M=.int .i64 g∧1≤i∧i≤l.length+1∧lV p l=lV g (l.drop (i - 1))∧0≤g∧g≤aG i) (fun _ i _=>l.length+1 - (intOf i).toNat)
  case atStart=>exact⟨rfl,1,p,rfl,rfl,by omega,by omega,rfl,N,O⟩
  case round=>
   obtain⟨F,i,g,rfl,rfl,a3,d,o,ak,P⟩:=hrel;obtain rfl:=F.symm;by_cases a4:i<l.length+1
   .have e2:decide ((i:Int)<(l.length:Int)+1)=true:=by simp;omega
    have Q:(x::l)[i]=l[i - 1]:=by
     obtain⟨j,rfl⟩:∃j,i=j+1:=⟨i - 1,by omega⟩;simp
    have a5:∀h,(ByteArray.mk (x::l).toArray)[i]'h=l[i - 1]:=fun h=>(jQ (x::l) i a4 h).trans Q
    have R:l.drop (i - 1)=l[i - 1]::l.drop i:=by
     rw[List.drop_eq_getElem_cons (by omega)];congr 2
     omega
    rw[R]at o;have a6:=lZ l[i - 1];have S:=IR (b:=(l[i - 1].toNat:Int)) a3 (by omega) P;have T:=vY i;rw[tail_cons]at o;obtain⟨z,hz⟩:∃z,z=l[i - 1]:=⟨_,rfl⟩;rw[←hz]at o a6 S a5;clear hz R Q;have al:wrap64 (z.toNat:Int)=(z.toNat:Int):=by unfold wrap64;omega
    have a7:wrap64 (g*64)=g*64:=by unfold wrap64;omega
    have a8:wrap64 (g*64+(z.toNat:Int))=g*64+(z.toNat:Int):=by unfold wrap64;omega
    have a9:wrap64 (g*64+(z.toNat:Int) - 128)=g*64+(z.toNat:Int) - 128:=by unfold wrap64;omega
    by_cases hy:(z.toNat:Int)<128∨191<(z.toNat:Int)
    .rw[if_pos (by simpa using hy)]at o;have n:=aA v;rw[o]at n;have y:=aB n;clear n v o;go_wp2
     all_goals first
      |(go_ret;rw[aA y];exact⟨rfl,rfl⟩)
      |omega
    rw[if_neg (by simpa using hy)]at o;have HT:=aB o;clear o v;go_wp2
    all_goals first
     |(exfalso;omega)
     |skip
    refine⟨⟨trivial,i+1,_,by simp,rfl,by omega,by omega,aA HT,by omega,by omega⟩,by simp[intOf]<;>omega⟩
   have e2:decide ((i:Int)<(l.length:Int)+1)=false:=by simp;omega
   have G:i=l.length+1:=by omega
   subst G;have n:=aA v;rw[o,List.drop_of_length_le (by omega)]at n;rw[show lV g []=some g from rfl]at n;have y:=aB n;clear n o v;go_wp2_with fail
   go_loopw [5,7,8] (fun M s7 s8 w' =>w' =w∧∃(i:Nat) (f d:Int),s8=.int .i64 i∧M=.int .i64 f∧s7=.int .i64 d∧l.length+1≤i∧i≤c∧nN g (c - (l.length+1))=nN f (c - i)∧nO g (c - (l.length+1))=nO d (c - i)∧0≤f∧f≤d∧d≤aG i) (fun _ _ i _=>c - (intOf i).toNat)
   case atStart=>exact⟨rfl,l.length+1,g,g,by simp,rfl,rfl,by omega,by omega,rfl,rfl,by omega,by omega,P⟩
   case round=>
    obtain⟨F,i,f,d,rfl,rfl,rfl,am,an,r,s,ao,aa,ab⟩:=hrel;obtain rfl:=F.symm;by_cases ag:i<c
    .have e3:decide ((i:Int)<(c:Int))=true:=by simp;omega
     have S:=IU (by omega) (by omega) ab;have T:=vY i;have a7:wrap64 (f*64)=f*64:=by unfold wrap64;omega
     have a8:wrap64 (d*64)=d*64:=by unfold wrap64;omega
     have a9:wrap64 (d*64+63)=d*64+63:=by unfold wrap64;omega
     obtain⟨m,hm⟩:∃m,c - i=m+1:=⟨c - i - 1,by omega⟩;have X:c - (i+1)=m:=by omega
     rw[hm]at r s;have HP:=aB (And.intro r s);clear r s y;go_wp2
     refine⟨⟨trivial,i+1,_,_,by simp,rfl,rfl,by omega,by omega,?_,?_,by omega,by omega,by omega⟩,by simp[intOf]<;>omega⟩
     .rw[X];exact(aA HP).1
     rw[X];exact(aA HP).2
    have e3:decide ((i:Int)<(c:Int))=false:=by simp;omega
    have G:i=c:=by omega
    subst G;rw[Nat.sub_self]at r s;have n:=aA y;simp only[r,s,nN,nO]at n;have A:=aB n;have T:=vY i;clear n r s y;have hq:((i - (l.length+1):Nat):Int)=(i:Int) - ((l.length:Int)+1):=by omega
    rw[hq]at A;have ap:wrap64 ((i:Int) - ((l.length:Int)+1))=(i:Int) - ((l.length:Int)+1):=by unfold wrap64;omega
    have B:∀t:Int,(if decide (t≤d)&&Rf.some_ t d then(i:Int) - ((l.length:Int)+1)else -1)=if t≤d then(if Rf.some_ t d=true then(i:Int) - ((l.length:Int)+1)else -1)else -1:=by
     intro t;by_cases h:t≤d<;>simp[h]
    by_cases Y:f<a
    .have n:=aA A;simp only[Y,decide_true,if_true]at n;rw[B]at n;have k:=aB n;have C:=aB (qH a d w);clear n A B;by_cases h4:a≤d
     .cases Z:Rf.some_ a d
      .rw[Z]at C k;rw[if_pos h4,if_neg (by decide)]at k;go_wp2_with(go_at_call 116;refine(aA C).mono ?_;rintro e w' ⟨rfl,H⟩;obtain rfl:=H.symm)
       go_ret;rw[aA k];exact⟨rfl,rfl⟩
      rw[Z]at C k;rw[if_pos h4,if_pos rfl]at k;go_wp2_with(go_at_call 116;refine(aA C).mono ?_;rintro e w' ⟨rfl,H⟩;obtain rfl:=H.symm)
      go_ret;rw[aA k];exact⟨rfl,rfl⟩
     rw[if_neg h4]at k;go_wp2
     go_ret;rw[aA k];exact⟨rfl,rfl⟩
    have n:=aA A;have ad:decide (f<a)=false:=by simpa using Y
    simp only[ad,if_false,Bool.false_eq_true]at n;rw[B]at n;have k:=aB n;have C:=aB (qH f d w);clear n A B;rw[if_pos aa]at k;cases Z:Rf.some_ f d
    .rw[Z]at C k;rw[if_neg (by decide)]at k;go_wp2_with(go_at_call 116;refine(aA C).mono ?_;rintro e w' ⟨rfl,H⟩;obtain rfl:=H.symm)
     go_ret;rw[aA k];exact⟨rfl,rfl⟩
    rw[Z]at C k;rw[if_pos rfl]at k;go_wp2_with(go_at_call 116;refine(aA C).mono ?_;rintro e w' ⟨rfl,H⟩;obtain rfl:=H.symm)
    go_ret;rw[aA k];exact⟨rfl,rfl⟩
structure bT(s:R):Prop where
 len:s.s.length≤1000000000000
 at_:s.at_≤s.s.length
 t0:0≤s.ot
 t1:s.ot≤1024
section
variable {w w' :World}{b:Nat}{s:R}{L:aH}
theorem bW(h:aI w b s L)(x:Int):Calls Tryz.prog 83 #[.pointer (some ⟨b,0,none⟩),.int .i64 x] w (iC w b s L (Rf.fail s x,false)):=by
 have a:=h.cell;have e:=h.frozen;have c:=h.lt;have d:=aB h;unfold aF at a;clear h;go_enter func83,ntmps83
 go_wp2
 go_ret;exact⟨rfl,L,((aA d).start.store 6 _ {s with stop:=2} rfl rfl rfl rfl).store 7 _ (Rf.fail s x) rfl rfl rfl rfl⟩
theorem gy(h:aI w b s L)(c:bT s):Calls Tryz.prog 105 #[.pointer (some ⟨b,0,none⟩)] w (iC w b s L (Rf.ends s)):=by
 have f:=h.cell;have j:=h.frozen;have g:=h.lt;have e:=aB h;have k:=c.len;have l:=c.at_;unfold aF at f;clear h c;by_cases a:s.at_<s.s.length
 .have d:Rf.ends s=(s,false):=by simp[Rf.ends,a]
  rw[d];have i:decide ((s.at_:Int)<(s.s.length:Int))=true:=by simpa using a
  go_enter func105,ntmps105
  go_wp2
  go_quiet(fail)
  go_wp2
  go_ret;exact⟨rfl,L,(aA e).start.drewN _⟩
 have d:Rf.ends s=({s with stop:=1},true):=by simp[Rf.ends,a]
 rw[d];have i:decide ((s.at_:Int)<(s.s.length:Int))=false:=by simpa using a
 go_enter func105,ntmps105
 go_wp2
 go_quiet(fail)
 go_wp2
 go_ret;exact⟨rfl,L,((aA e).start.drewN _).store 6 _ {s with stop:=1} rfl rfl rfl rfl⟩
theorem byte_at(s:R)(i:Nat)(h:i<s.s.length):s.byte i=(s.s[i].toNat:Int):=by simp[R.byte,h]
theorem bH(s:R)(i:Nat)(h:i<s.s.length):∃y:UInt8,s.byte i=(y.toNat:Int)∧(∀h,(ByteArray.mk s.s.toArray)[i]'h=y)∧s.s[i]?=some y:=
 ⟨s.s[i],byte_at s i h,jQ s.s i h,by simp[h]⟩
theorem Py(h:aI w b s L)(l:bT s)(x:Int)(r:0≤x)(t:x≤255):Calls Tryz.prog 107 #[.pointer (some ⟨b,0,none⟩),.int .u8 x] w (iC w b s L (Rf.must s x)):=by
 have u:=h.cell;have E:=h.frozen;have v:=h.lt;have F:=aB h;have G:=l.len;have H:=l.at_;have i:=aB (gy h l);unfold aF at u;clear h l;by_cases g:s.at_<s.s.length
 .have d:Rf.ends s=(s,false):=by simp[Rf.ends,g]
  rw[d]at i;obtain⟨y,q,z,A⟩:=bH s s.at_ g;have I:(s.at_:Int)<(s.s.length:Int):=by omega
  have B:wrap64 ((s.at_:Int)+1)=((s.at_+1:Nat):Int):=by unfold wrap64;omega
  clear A d;by_cases m:(y.toNat:Int)=x
  .have d:Rf.must s x=({s with at_:=s.at_+1},true):=by simp[Rf.must,g,q,m]
   rw[d];have C:((y.toNat:Int) !=x)=false:=by simpa using m
   clear d;go_enter func107,ntmps107
   go_wp2_with(go_at_call 105;refine(aA i).mono ?_;rintro e w1 ⟨rfl,n,a⟩;have f:=a.rd.cell;have o:=a.rd.frozen;have j:=a.rd.lt;have c:=aB a;clear a;unfold aF at f)
   go_quiet(fail)
   go_wp2
   go_ret;exact⟨rfl,n,((aA c).drewN _).store 5 _ {s with at_:=s.at_+1} rfl rfl rfl rfl⟩
  have d:Rf.must s x=(Rf.fail s 3,false):=by simp[Rf.must,g,q,m]
  rw[d];have C:((y.toNat:Int) !=x)=true:=by simpa using m
  clear d;go_enter func107,ntmps107
  go_wp2_with(go_at_call 105;refine(aA i).mono ?_;rintro e w1 ⟨rfl,n,a⟩;have f:=a.rd.cell;have o:=a.rd.frozen;have j:=a.rd.lt;have c:=aB a;clear a;unfold aF at f)
  go_quiet(fail)
  go_wp2_with fail
  refine(bW ((aA c).drewN _).rd 3).mono ?_;rintro e w2 ⟨rfl,D,p⟩;go_wp2
  go_ret;exact⟨rfl,D,((aA c).drewN _).call p⟩
 have d:Rf.ends s=({s with stop:=1},true):=by simp[Rf.ends,g]
 rw[d]at i;have k:Rf.must s x=({s with stop:=1},false):=by simp[Rf.must,g]
 rw[k];clear d k;go_enter func107,ntmps107
 go_wp2_with(go_at_call 105;refine(aA i).mono ?_;rintro e w1 ⟨rfl,n,a⟩;have c:=aB a;clear a)
 go_ret;exact⟨rfl,n,aA c⟩
end
theorem qK(p:Int→Bool)(x:UInt8)(l:Bs):Rf.run p (x::l)=if p (x.toNat:Int)=true then Rf.run p l+1 else 0:=by
 unfold Rf.run;rw[List.takeWhile_cons];split<;>simp
theorem Av(p:Int→Bool):Rf.run p []=0:=rfl
theorem drop_at{l:Bs}{k:Nat}{y:UInt8}(h:l[k]?=some y):l.drop k=y::l.drop (k+1):=by
 obtain⟨a,b⟩:=List.getElem?_eq_some_iff.1 h;rw[List.drop_eq_getElem_cons a,b]
theorem mS(p:Int→Bool)(l:Bs):Rf.run p l≤l.length:=by
 unfold Rf.run;exact(List.takeWhile_sublist _).length_le
theorem iS(l:Bs)(i n:Nat):(ByteArray.extract ⟨l.toArray⟩ i (i+n))=⟨((l.drop i).take n).toArray⟩:=by
 apply ByteArray.ext;simp only[ByteArray.data_extract,List.extract_toArray,List.extract_eq_take_drop];rw[show i+n - i=n by omega]
section
variable {w w' :World}{b:Nat}{s:R}{L:aH}
theorem mU(h:aI w b s L)(n:bT s):Calls Tryz.prog 104 #[.pointer (some ⟨b,0,none⟩)] w fun e w' =>e=.returned (.tuple #[])∧∃L', aL w b (aR s L) w' (aP s) L' :=by
 have q:=aB h;have F:=n.len;have t:=n.at_;have f:Hid (∀k,k+Rf.run Rf.cB (s.s.drop k)=s.at_+Rf.run Rf.cB (s.s.drop s.at_)→aP s={s with at_:=k+Rf.run Rf.cB (s.s.drop k)}):=fun k r=>by rw[r];rfl
 clear h n;go_enter func104,ntmps104
 go_wp2_with fail
 go_loopg [] (s.s.length - s.at_) (fun g u=>∃k,k≤s.s.length∧g=s.s.length - k∧k+Rf.run Rf.cB (s.s.drop k)=s.at_+Rf.run Rf.cB (s.s.drop s.at_)∧∃i,aL w b (aR s L) u {s with at_:=k} i)
 case atStart=>exact⟨s.at_,t,rfl,rfl,L,(aA q).start⟩
 case round=>
  obtain⟨k,r,rfl,a,i,j⟩:=hrel;have v:=j.rd.cell;have G:=j.rd.frozen;have x:=j.rd.lt;have d:=aB j;unfold aF at v;clear j q;by_cases o:k<s.s.length
  .obtain⟨y,H,z,A⟩:=bH s k o;have B:(k:Int)<(s.s.length:Int):=by omega
   have C:decide ((k:Int)<(s.s.length:Int))=true:=by simpa using o
   have D:wrap64 ((k:Int)+1)=((k+1:Nat):Int):=by unfold wrap64;omega
   have c:s.s.drop k=y::s.s.drop (k+1):=drop_at A;rw[c,qK]at a;cases m:Rf.cB (y.toNat:Int)
   .have l:=aB (fun w=>qG (y.toNat:Int) w);rw[m]at l a;rw[if_neg (by decide)]at a;have p:=aB (aA f k (by rw[c,qK,m,if_neg (by decide)];exact a));clear a f;go_wp2_with fail
    go_quiet((go_at_call 149;refine Calls.quiet_of_same (aA l _)))
    go_wp2
    go_end0
    refine⟨rfl,i,?_⟩;rw[aA p,c,qK,m,if_neg (by decide)];exact(aA d).drewN _
   have l:=aB (fun w=>qG (y.toNat:Int) w);rw[m]at l a;rw[if_pos rfl]at a;clear f c;go_wp2_with fail
   go_quiet((go_at_call 149;refine Calls.quiet_of_same (aA l _)))
   go_wp2
   go_roundg (s.s.length - (k+1))
   case measure=>omega
   case rel=>exact⟨k+1,by omega,rfl,by omega,i,((aA d).drewN _).store 5 _ {s with at_:=k+1} rfl rfl rfl rfl⟩
  have E:k=s.s.length:=by omega
  have C:decide ((k:Int)<(s.s.length:Int))=false:=by simpa using o
  have p:=aB (aA f k a);clear f a;go_wp2_with fail
  go_quiet(fail)
  go_wp2
  go_end0
  refine⟨rfl,i,?_⟩;rw[aA p,List.drop_of_length_le (by omega)];exact(aA d).drewN _
def kM(w:World)(b:Nat)(s:R)(L:aH)(r:R×Bs×Bool)(e:Ending)(w' :World):Prop:=
 e=.returned (.tuple #[.string ⟨r.2.1.toArray⟩,.bool r.2.2])∧∃L', aL w b (aR s L) w' r.1 L'
theorem pF(h:aI w b s L)(x:bT s):Calls Tryz.prog 109 #[.pointer (some ⟨b,0,none⟩)] w (kM w b s L (Rf.word s)):=by
 have S:=aB h;have T:=x.len;have h2:=x.at_;have H:=x.t0;have I:=x.t1;obtain⟨K,J⟩:∃K,K=Rf.run eY (s.s.drop s.at_):=⟨_,rfl⟩;have M:s.at_+K≤s.s.length:=by
  have:=mS eY (s.s.drop s.at_);rw[List.length_drop]at this;omega
 have X:Rf.word s=if s.ot<(K:Int)then(Rf.fail {s with at_:=s.at_+s.ot.toNat} 7,[],false)else((Rf.ends {s with at_:=s.at_+K}).1,(s.s.drop s.at_).take K, !(Rf.ends {s with at_:=s.at_+K}).2):=by rw[J];rfl
 obtain⟨A,i⟩:∃A,A=Rf.word s:=⟨_,rfl⟩;rw[←i];have p:=aB (i.trans X);clear X i;have G:=h.cell;have B:=h.lt;unfold aF at G;clear h;have HL:=aB x;clear x;go_enter func109,ntmps109
 go_wp2_with fail
 go_loopg [] (s.s.length - s.at_) (fun g wx=>∃k,s.at_≤k∧k≤s.s.length∧g=s.s.length - k∧k+Rf.run eY (s.s.drop k)=s.at_+K∧(k:Int) - (s.at_:Int)≤s.ot∧∃N,aL w b (aR s L) wx {s with at_:=k} N)
 case atStart=>exact⟨s.at_,by omega,by omega,rfl,by rw[J],by omega,L,(aA S).start⟩
 case round=>
  obtain⟨k,q,Y,rfl,c,r,N,C⟩:=hrel;clear G B J;have G:=C.rd.cell;have hf:=C.rd.frozen;have B:=C.rd.lt;have f:=aB C;unfold aF at G;clear C S;have O:(ByteArray.extract ⟨s.s.toArray⟩ s.at_ k)=⟨((s.s.drop s.at_).take (k - s.at_)).toArray⟩:=by
   have:=iS s.s s.at_ (k - s.at_);rwa[show s.at_+(k - s.at_)=k by omega]at this
  have P:wrap64 ((k:Int) - (s.at_:Int))=(k:Int) - (s.at_:Int):=by unfold wrap64;omega
  by_cases t:k<s.s.length
  .obtain⟨y,hb,Q,hy⟩:=bH s k t;have e1:decide ((k:Int)<(s.s.length:Int))=true:=by simpa using t
   have a0:(k:Int)<(s.s.length:Int):=by omega
   have o:s.s.drop k=y::s.s.drop (k+1):=drop_at hy;rw[o,qK]at c;have z:=aB (fun w=>vW (y.toNat:Int) w);cases Z:eY (y.toNat:Int)
   .rw[Z]at z c;rw[if_neg (by decide)]at c;have j:k - s.at_=K:=by omega
    have d:=aA p;rw[if_neg (by omega),show s.at_+K=k by omega,show Rf.ends {s with at_:=k}=({s with at_:=k},false) by simp[Rf.ends,t],←j]at d;have u:=aB (fun m=>gy ((aA f).drewN m).rd ⟨by simpa using T,by simpa using Y,H,I⟩);rw[show Rf.ends {s with at_:=k}=({s with at_:=k},false) by simp[Rf.ends,t]]at u;have l:=aB d;clear d p c o j;go_wp2_with fail
    go_quiet((go_at_call 156;refine Calls.quiet_of_same (aA z _)))
    go_wp2_with(go_at_call 105;refine(aA u _).mono ?_;rintro e w1 ⟨rfl,D,a⟩;have v:=a.rd.cell;have R:=a.rd.frozen;have E:=a.rd.lt;have n:=aB a;clear a;unfold aF at v)
    go_quiet(fail)
    go_wp2
    go_ret2;rw[aA l];exact⟨rfl,D,(((aA f).drewN _).call (aA n)).drewN _⟩
   rw[Z]at z c;rw[if_pos rfl]at c;by_cases F:(k:Int) - (s.at_:Int)=s.ot
   .have d:=aA p;rw[if_pos (by omega),show s.at_+s.ot.toNat=k by omega]at d;have e2:((k:Int) - (s.at_:Int)==s.ot)=true:=by simpa using F
    have u:=aB (fun m=>bW ((aA f).drewN m).rd 7);have l:=aB d;clear d p c o;go_wp2_with fail
    go_quiet((go_at_call 156;refine Calls.quiet_of_same (aA z _)))
    go_wp2_with fail
    go_quiet(fail)
    go_wp2_with(go_at_call 83;refine(aA u _).mono ?_;rintro e w1 ⟨rfl,D,a⟩;have n:=aB a;clear a)
    go_ret2;rw[aA l];exact⟨rfl,D,((aA f).drewN _).call (aA n)⟩
   have e2:((k:Int) - (s.at_:Int)==s.ot)=false:=by simpa using F
   have a1:wrap64 ((k:Int)+1)=((k+1:Nat):Int):=by unfold wrap64;omega
   clear p o;go_wp2_with fail
   go_quiet((go_at_call 156;refine Calls.quiet_of_same (aA z _)))
   go_wp2_with fail
   go_quiet(fail)
   have HJ:=aB (And.intro q (And.intro r (And.intro F c)));clear P O Q z e2 q r F c H I M h2;go_wp2
   obtain⟨q,r,F,c⟩:=aA HJ;go_roundg (s.s.length - (k+1))
   case measure=>omega
   case rel=>exact⟨k+1,by omega,by omega,rfl,by omega,by omega,N,((aA f).drewN _).store 5 _ {s with at_:=k+1} rfl rfl rfl rfl⟩
  have e1:decide ((k:Int)<(s.s.length:Int))=false:=by simpa using t
  have j:k - s.at_=K:=by
   rw[List.drop_of_length_le (by omega),Av]at c;omega
  have d:=aA p;rw[if_neg (by omega),show s.at_+K=k by omega,show Rf.ends {s with at_:=k}=({s with at_:=k,stop:=1},true) by simp[Rf.ends,t],←j]at d;have u:=aB (fun m=>gy ((aA f).drewN m).rd ⟨by simpa using T,by simpa using Y,H,I⟩);rw[show Rf.ends {s with at_:=k}=({s with at_:=k,stop:=1},true) by simp[Rf.ends,t]]at u;have l:=aB d;clear d p c j;go_wp2_with fail
  go_quiet(fail)
  go_wp2_with(go_at_call 105;refine(aA u _).mono ?_;rintro e w1 ⟨rfl,D,a⟩;have v:=a.rd.cell;have R:=a.rd.frozen;have E:=a.rd.lt;have n:=aB a;clear a;unfold aF at v)
  go_quiet(fail)
  go_wp2
  go_ret2;rw[aA l];exact⟨rfl,D,(((aA f).drewN _).call (aA n)).drewN _⟩
end
end Go.Proofs.YtmgfijllcdadgaaGreatDoor.V
