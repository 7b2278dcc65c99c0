import Derived.Test.YtmgfijllcdadgaaGreatDoorUW17
set_option linter.all false
set_option maxHeartbeats 8000000
set_option maxRecDepth 100000
namespace Go.Proofs.YtmgfijllcdadgaaGreatDoor.V
open Go.RowKit
open Go.Proofs.Tryz
open Rf
open Mk (U Ev aI)
variable {a x:U}{l:List U}
def gQ(w:World):Prop:=∀i,w.cell? ⟨0,i,none⟩=(ow.map sv)[i]?
section
variable {w w' :World}{b:Nat}{s s' :R}{L L' :bA}
def gQ.lt(h:gQ w):0<w.heap.size:=by
 have:=h 0;cases a:w.heap[0]? with
 |none=>simp[World.cell?,a,ow]at this
 |some o=>exact(Array.getElem?_eq_some_iff.1 a).1
def gQ.keep(h:gQ w)(a:w'.heap[0]?=w.heap[0]?):gQ w' :=λi=>by
 rw[<-h i];simp only[World.cell?,a]
def gQ.mv(h:gQ w)(c:bD w b s L)(a:bL w b (cO s L) w' s' L')(d:0<b):gQ w' :=
 h.keep (a.fr.block _ h.lt (by omega) λa=>by have:=(c.jh _ a).1;omega)
def gQ.below(h:gQ w)(a:Below w.heap.size w w'):gQ w' :=h.keep (a.block _ h.lt)
end
section
variable {f from_:Nat}{r:R}
def ZW(h:¬r.A<r.s.length):kK from_ (f+1) r=({r with stop:=1},[],false):=by
 rw[kK,M h]
def ZX(h:r.A<r.s.length)(a:r.A=from_)(b:r.E r.A=35):kK from_ (f+1) r=Rf.rX r:=by
 rw[kK,J h,J<|by simp[a];rwa[<-a]]
def ZY(h:r.A<r.s.length)(a:¬(r.A=from_/\r.E r.A=35)){t:U}{b:Bool}(c:kJ ((r.s.drop from_).take (r.A+1 - from_)) ow false=(some t,b)):kK from_ (f+1) r=({r with A:=r.A+1},t,true):=by
 rw[kK,J h,M<|by simpa using a,c]
def ZZ(h:r.A<r.s.length)(a:¬(r.A=from_/\r.E r.A=35))(b:kJ ((r.s.drop from_).take (r.A+1 - from_)) ow false=(none,true)):kK from_ (f+1) r=kK from_ f {r with A:=r.A+1}:=by
 rw[kK,J h,M<|by simpa using a,b]
def Z_(h:r.A<r.s.length)(a:¬(r.A=from_/\r.E r.A=35))(b:kJ ((r.s.drop from_).take (r.A+1 - from_)) ow false=(none,false)):kK from_ (f+1) r=(eZ r 4,[],false):=by
 rw[kK,J h,M<|by simpa using a,b]
def aaa(i:Nat)(h:i<5):∃x:U,(ow.map sv)[i]?=some (.string ⟨x.toArray⟩)/\ow.drop i=x::ow.drop (i+1)/\x.length<=6:=by
 match i,h with
 |0,_=>exact⟨_,rfl,rfl,by decide⟩
 |1,_=>exact⟨_,rfl,rfl,by decide⟩
 |2,_=>exact⟨_,rfl,rfl,by decide⟩
 |3,_=>exact⟨_,rfl,rfl,by decide⟩
 |4,_=>exact⟨_,rfl,rfl,by decide⟩
def NY{b:Bool}(h:x.length<=a.length\/x.take a.length≠a):kJ a (x::l) b=kJ a l b:=by
 rw[kJ,J<|by simpa using h]
def aab{b:Bool}(h:¬x.length<=a.length)(c:x.take a.length=a)(d:a.length+1=x.length):kJ a (x::l) b=(some (x.drop a.length),b):=by
 rw[kJ,M<|by simp[c];omega,J d]
def aac{b:Bool}(h:¬x.length<=a.length)(c:x.take a.length=a)(d:a.length+1≠x.length):kJ a (x::l) b=kJ a l true:=by
 rw[kJ,M<|by simp[c];omega,M d]
end
section
variable {w w' :World}{b:Nat}{s:R}{L:bA}
def NZ(h:bD w b s L)(hl:iW s)(hi:s.A<s.s.length)(ao:s.s.length<=100000000)(hG:gQ w)(ap:0<b):Calls prog 166 #[.pointer (some ⟨b,0,none⟩)] w (xw w b s L (iT s)):=by
 have HM:=Y h;have HL:=Y hl;have h1:=hl.len;obtain⟨m,z⟩:=aj8 (iT s);rw[<-z];have HF:Hid (m=kK (s.A+1) (s.s.length+1) {s with A:=s.A+1}):=z;have aq:=h.lt;have hc:=h.cell;have hf:=h.frozen;unfold aR at hc;have HG:=Y hG;clear h z hl hG;have ar:wrap64 ((s.A:Int)+1)=((s.A+1:Nat):Int):=by unfold wrap64;omega
 have a1:Hid (bL w b (cO s L) (w.setCell ⟨b,5,none⟩ (.int .i64 ((s.A:Int)+1))) {s with A:=s.A+1} L):=HM.u.start.store 5 _ {s with A:=s.A+1} (by simp[aR]) rfl rfl rfl;go_enter func166,ntmps166;go_wp2_with fail;generalize a7:(s.A:Int)+1=N at a1⊢;have p:Hid (N=((s.A+1:Nat):Int)):=(show N=_ by rw[<-a7];simp);clear a7;go_loopg [] (s.s.length+1) λg wx=>∃(k:Nat) (L1:bA),m=kK (s.A+1) g {s with A:=k}/\s.A+1<=k/\k<=s.s.length/\s.s.length - k<g/\bL w b (cO s L) wx {s with A:=k} L1;case atStart=>exact⟨s.A+1,L,HF.u,a_ _,by omega,by omega,a1.u⟩
 case round=>
  obtain⟨k,L1,hfin,a2,O,hg,hm⟩:=hrel;obtain⟨f,rfl⟩:∃f,gk=f+1:=⟨gk - 1,by omega⟩;have a3:iW {s with A:=k}:=⟨HL.u.len,O,HL.u.t0,HL.u.t1⟩;have HE:=Y (pu hm.X a3);have a4:=Y hm;have b9:=hm.X.lt;have a5:=Y (ajN a2 (ajN O hg));have au:=Y a3;clear hm hc hf aq HF a1 ar hi a3;by_cases A:k<s.s.length
  .rw[show b_ {s with A:=k}=({s with A:=k},false) by simp[b_,A]]at HE;obtain⟨y,hb,av,hy⟩:=gP {s with A:=k} k A;have aw:(k:Int)<(s.s.length:Int):=by omega
   have P:=Y A;by_cases X:k=s.A+1/\(y.toNat:Int)=35
   .have e1:((k:Int)==N)=true:=by rw[p.u,X.1];simp
    have e2:=aka X.2;rw[ZX (r:={s with A:=k}) A X.1 (by rw[hb];exact X.2)]at hfin;have B:=Y hfin;have HN:=Y λ(W:World) (L' :bA) (hW:bD W b {s with A:=k} L')=>ZV hW au.u P.u ao;clear a2 O hg A hfin hb hy X;go_wp2_with(go_at_call 105;go_call HE.u as e w1 ⟨rfl,L2,d⟩;have C:=Y (a4.u.call d);obtain⟨Q,a8,a0⟩:=d.X.zzv;clear d;unfold aR at Q);go_quiet(fail);go_wp2_with(go_at_call 209;go_call(HN.u _ _ (C.u.drewN _).X)as e w2 ⟨rfl,K,ax⟩);go_ret2;rw[B.u];exact⟨rfl,K,(C.u.drewN _).call ax⟩
   have ay:(((k:Int)==N)=false)\/(((k:Int)==N)=true/\((y.toNat:Int)==35)=false):=by
    rw[p.u];by_cases h5:k=s.A+1
    .right;refine⟨by simp[h5],?_⟩;have:¬(y.toNat:Int)=35:=λh=>X ⟨h5,h⟩;simpa using this
    left;simp;omega
   have o:¬(({s with A:=k}:R).A=s.A+1/\({s with A:=k}:R).E ({s with A:=k}:R).A=35):=by
    intro h;exact X ⟨h.1,by rw[<-hb];exact h.2⟩
   obtain⟨D,j⟩:=aj8 (kJ ((s.s.drop (s.A+1)).take (k+1 - (s.A+1))) ow false);have a9:=Y j;have az:Hid (∀t v,D=(some t,v)->m=({s with A:=k+1},t,true)):=λt v h=>by rw[hfin];exact ZY (r:={s with A:=k}) A o (j.symm.trans h)
   have b0:Hid (D=(none,true)->m=kK (s.A+1) f {s with A:=k+1}):=λh=>by rw[hfin];exact ZZ (r:={s with A:=k}) A o (j.symm.trans h)
   have b1:Hid (D=(none,false)->m=(eZ {s with A:=k} 4,[],false)):=λh=>by rw[hfin];exact Z_ (r:={s with A:=k}) A o (j.symm.trans h)
   have b2:wrap64 ((k:Int)+1)=((k+1:Nat):Int):=by unfold wrap64;omega
   have aa:(s.s.drop (s.A+1)).length=s.s.length - (s.A+1):=by simp
   have ab:Hid (((s.s.drop (s.A+1)).take (k+1 - (s.A+1))).length=k+1 - (s.A+1)):=(show _=_ by rw[iB,aa];omega)
   have ad:Hid (ByteArray.extract ⟨s.s.toArray⟩ (s.A+1) (k+1)=⟨((s.s.drop (s.A+1)).take (k+1 - (s.A+1))).toArray⟩):=(show _=_ by
    have:=pE s.s (s.A+1) (k+1 - (s.A+1))
    rwa[show s.A+1+(k+1 - (s.A+1))=k+1 by omega]at this)
   clear a2 O hg A hfin hb hy X o j aa;obtain e1|⟨e1,e2⟩:=ay;all_goals
    go_wp2_with(go_at_call 105;go_call HE.u as e w1 ⟨rfl,L2,d⟩;have C:=Y (a4.u.call d);obtain⟨Q,a8,a0⟩:=d.X.zzv;clear d;unfold aR at Q);go_quiet(fail);go_wp2_with fail;have ae:Hid (bL w b (cO s L) ((w1.drewN nq).setCell ⟨b,5,none⟩ (.int .i64 ((k:Int)+1))) {s with A:=k+1} L2):=(C.u.drewN _).store 5 _ {s with A:=k+1} (by simp[aR]) rfl rfl rfl;clear Q a8 a0 C HE av aw;go_loopw [6,7] (λs6 s7 wx=>∃(i:Nat) (v:Bool) (K:bA),s6=.bool v/\s7=.int .i64 i/\i<=5/\D=kJ ((s.s.drop (s.A+1)).take (k+1 - (s.A+1))) (ow.drop i) v/\bL w b (cO s L) wx {s with A:=k+1} K) λ_ i _=>5 - (intOf i).toNat
    case atStart=>exact⟨0,false,L2,rfl,rfl,by omega,a9.u,ae.u⟩
    case round=>
     obtain⟨i,v,K,rfl,rfl,bh,hres,S⟩:=hrel;obtain⟨k1,c⟩:=aj8 (k+1);have b3:=Y (HG.u.mv HM.u S ap);have E:=ad;have F:=ab;have q:=Y S;obtain⟨af,bi,ba⟩:=S.X.zzv;rw[<-c]at af;unfold aR at af;clear ae S b2;by_cases ag:i<5
     .obtain⟨x,ah,ai,bj⟩:=aaa i ag;have b4:=b3.u i;rw[ah]at b4;rw[ai]at hres;have bk:(i:Int)<5:=by omega
      have e6:decide ((i:Int)<5)=true:=aj_;have G:=a5.u;have H:=P.u;have bb:0<=N:=by rw[p.u];omega
      have bc:N<=(k1:Int):=by rw[p.u,c];omega
      have bd:(k1:Int)<=(s.s.length:Int):=by rw[c];omega
      obtain⟨a,l⟩:=aj8 ((s.s.drop (s.A+1)).take (k+1 - (s.A+1)));have aj:a.length=k+1 - (s.A+1):=by rw[l];exact F.u
      have bl:(k1:Int) - N=(a.length:Int):=by rw[p.u,c,aj];omega
      have be:ByteArray.extract ⟨s.s.toArray⟩ N.toNat k1=⟨a.toArray⟩:=by
       rw[l,<-E.u,p.u,c];rfl
      have bm:ByteArray.extract ⟨x.toArray⟩ 0 a.length=⟨(x.take a.length).toArray⟩:=by
       have:=pE x 0 a.length;simpa using this
      have a6:=Y l;rw[<-l]at hres;have bf:a.length<=100000000:=by omega
      clear l aj ah ai G H F E c;by_cases T:x.length<=a.length
      .have e7:decide ((x.length:Int)<=(a.length:Int))=true:=aj_;have b5:=nR T;rw[NY (.inl T)]at hres;have I:=Y hres;clear hres T;go_wp2_with fail;go_quiet(fail);go_wp2;exact⟨⟨i+1,v,K,rfl,by go_num,by omega,by rw[<-a6.u];exact I.u,q.u.drewN _⟩,by simp[intOf]<;>omega⟩
      have b5:=pV T;have bg:(a.length:Int)<=(x.length:Int):=by omega
      by_cases c2:x.take a.length=a
      .have e8:=aka c2;by_cases c3:a.length+1=x.length
       .have e9:((a.length:Int)==(x.length:Int) - 1)=true:=by simp;omega
        rw[aab T c2 c3]at hres;have B:=Y (az.u _ _ hres);have b6:ByteArray.extract ⟨x.toArray⟩ a.length x.length=⟨(x.drop a.length).toArray⟩:=by
         have:=pE x a.length (x.length - a.length);rwa[show a.length+(x.length - a.length)=x.length by omega,nZ<|by simp]at this
        clear hres T c2 c3;go_wp2_with fail;go_quiet(fail);go_wp2;go_ret2;rw[B.u];exact⟨by rw[<-b6];rfl,K,q.u.drewN _⟩
       have e9:((a.length:Int)==(x.length:Int) - 1)=false:=by simp;omega
       rw[aac T c2 c3]at hres;have I:=Y hres;clear hres T c2 c3;go_wp2_with fail;go_quiet(fail);go_wp2;exact⟨⟨i+1,true,K,rfl,by go_num,by omega,by rw[<-a6.u];exact I.u,q.u.drewN _⟩,by simp[intOf]<;>omega⟩
      have e8:=aj7 c2;rw[NY (.inr c2)]at hres;have I:=Y hres;clear hres T c2;go_wp2_with fail;go_quiet(fail);go_wp2;exact⟨⟨i+1,v,K,rfl,by go_num,by omega,by rw[<-a6.u];exact I.u,q.u.drewN _⟩,by simp[intOf]<;>omega⟩
     have e6:decide ((i:Int)<5)=false:=aj9;obtain rfl:i=5:=by omega
     have n:D=(none,v):=hres;have ak:=Y n;have G:=a5.u;have H:=P.u
     have al:Hid (m=if v then kK (s.A+1) f {s with A:=k+1}else(eZ {s with A:=k} 4,[],false)):=(show m=_ by
      cases v
      .rw[M];exact b1.u ak.u
      rw[J rfl];exact b0.u ak.u)
     cases v with
     |true=>
      clear hres n G H;go_wp2;have am:=al.u;simp only[bY]at am;have G:=a5.u;have H:=P.u;go_roundg f;case measure=>omega
      case rel=>exact⟨k+1,K,am,by omega,by omega,by omega,q.u⟩
     |false=>
      have bn:(k1:Int) - 1=(k:Int):=by rw[c];omega
      have bo:wrap64 (k:Int)=(k:Int):=by unfold wrap64;omega
      have b7:=Y λ(W:World) (L' :bA) (hW:bD W b {s with A:=k} L')=>kM hW 4;have an:Hid (bL w b (cO s L) (wr.setCell ⟨b,5,none⟩ (.int .i64 (k:Int))) {s with A:=k} K):=q.u.store 5 _ {s with A:=k} (by simp[aR]) rfl rfl rfl;clear hres n G H c;go_wp2_with(go_at_call 83;go_call(b7.u _ _ an.u.X)as e w6 ⟨rfl,L6,b8⟩);go_ret2;rw[al.u,M];exact⟨rfl,L6,an.u.call b8⟩
  rw[show b_ {s with A:=k}=({s with A:=k,stop:=1},true) by simp[b_,A]]at HE;rw[ZW (r:={s with A:=k}) A]at hfin;have B:=Y hfin;clear hfin;go_wp2_with(go_at_call 105;go_call HE.u as e w1 ⟨rfl,L2,d⟩);go_ret2;rw[B.u];exact⟨rfl,L2,a4.u.call d⟩
end
