import Derived.Test.YtmgfijllcdadgaaGreatDoorNW18
import Derived.Test.YtmgfijllcdadgaaGreatDoorNW21
import Derived.Deep.CutBlock
import Derived.Deep.DeepCutAuto
import Derived.Test.YtmgfijllcdadgaaGreatDoorNW16
import Derived.Test.YtmgfijllcdadgaaGreatDoorNW20
set_option linter.unusedVariables false
set_option linter.unusedSimpArgs false
set_option maxHeartbeats 16000000
set_option maxRecDepth 100000
namespace Go.Proofs.YtmgfijllcdadgaaGreatDoor.V
open Go.RowKit
open Mk (Bs Ev aD)
open Rf (R)
open Go.Proofs.Tryz
open Rf (aP eY)
def pJ(r:R)(nm:Bs):R×Bs×Bool:=if(Rf.ends (aP r)).2 then((Rf.ends (aP r)).1,[],false)else((Rf.ends (aP r)).1,nm,true)
def pK(r:R)(nm:Bs)(aC:List aD):R×Bs×Bool:=
 if r.byte r.at_ !=61&& !Rf.cB (r.byte r.at_)then(Rf.fail r 3,[],false)
 else if Rf.has aC nm then(Rf.fail r 6,[],false)
 else if(Rf.must (aP r) 61).2 then pJ (Rf.must (aP r) 61).1 nm else((Rf.must (aP r) 61).1,[],false)
theorem wF(r:R)(a:List aD):Rf.attrName r a=if decide (r.ot≤(Rf.run eY (r.s.drop r.at_):Int))&&Rf.has a ((r.s.drop r.at_).take r.ot.toNat)then(Rf.fail {r with at_:=r.at_+r.ot.toNat - 1} 7,[],false)else if(Rf.word r).2.2 then pK (Rf.word r).1 (Rf.word r).2.1 a else((Rf.word r).1,[],false):=by
 unfold Rf.attrName pK pJ;dsimp only;split
 .rfl
 cases(Rf.word r).2.2
 .rfl
 simp only[Bool.not_true,Bool.false_eq_true,if_false,if_true];split
 .rfl
 split
 .rfl
 cases(Rf.must (aP (Rf.word r).1) 61).2
 .rfl
 rfl
section
variable {w w' :World}{b:Nat}{s:R}{L:aH}
theorem JO{e:TypeId}{size:Nat}{v:Value}{n:Nat}{a:List Value}(h:w.ownsRow (b+1) e size v n a)(c:∀k,v.ownBlock=some k→k∉aR s L){W:World}{r:R}{L' :aH}(f:aL w b (aR s L) W r L'):W.ownsRow (b+1) e size v n a:=
 fP (r:=⟨e,size,v,n,a⟩) h fun k d=>f.fr.block k (World.ownsRow.lt h k d).2 (by have:=(World.ownsRow.lt h k d).1;omega) (c k d)
theorem JP(h:aI w b s L)(hl:bT s)(hi:s.at_<s.s.length)(G:1≤s.ot)(q:List aD)(va:Option Addr)(vc:Nat)(hrow:w.ownsRow (b+1) 69 3 (.slice va q.length vc) q.length (aV q))(au:∀k,(Value.slice va q.length vc).ownBlock=some k→k∉aR s L):
 Calls Tryz.prog 157 #[.pointer (some ⟨b,0,none⟩),.slice va q.length vc] w (kM w b s L (Rf.attrName s q)):=by
 have J:=aB h;have HL:=aB hl;have h1:=hl.len;have al:=aB (fun(nm:Bs) (W:World) (r:R) (L' :aH) (hm:aL w b (aR s L) W r L')=>r_ (JO hrow au hm) nm);obtain⟨H,aa⟩:∃H,H=Rf.attrName s q:=⟨_,rfl⟩;rw[←aa];rw[wF]at aa;obtain⟨K,hK⟩:∃K,K=Rf.run eY (s.s.drop s.at_):=⟨_,rfl⟩;rw[←hK]at aa;have I:s.at_+K≤s.s.length:=by
  have:=mS eY (s.s.drop s.at_);rw[List.length_drop]at this;omega
 obtain⟨o,ho⟩:∃o:Nat,s.ot=(o:Int):=⟨s.ot.toNat,by omega⟩;have M:o≤1024:=by have:=hl.t1;omega
 have N:1≤o:=by omega
 have b2:Hid (o≤K→((s.at_:Int)+(o:Int)≤(s.s.length:Int)∧wrap64 ((s.at_:Int)+(o:Int))=((s.at_+o:Nat):Int)∧IntKind.i64.wrap ((s.at_:Int)+(o:Int))=((s.at_+o:Nat):Int)∧((s.at_:Int)+(o:Int)).toNat=s.at_+o)):=by
  have b7:=hl.len;clear ho al J h hK aa G;intro ap;exact⟨by omega,by unfold wrap64;omega,by rw[IntKind.wrap_i64];omega,by omega⟩
 have bb:=h.lt;have hc:=h.cell;have hf:=h.frozen;unfold aF at hc;have av:=aB aa;have HW:=aB (fun(W:World) (L' :aH) (hW:aI W b s L')=>pF hW (aA HL));clear h hl aa hrow au;go_enter func157,ntmps157
 obtain⟨E,hE⟩:∃E,E=s.at_+K:=⟨_,rfl⟩;have HE:=aB hE;have HX:Hid (((s.at_+o - 1:Nat):Int)=(s.at_:Int)+(o:Int) - 1):=(show _=_ by clear hE;omega);have aw:=aB (jR (r:=s) (by omega) (by omega));have b8:(E:Int) - (s.at_:Int)=(K:Int):=by omega
 clear hE;go_upto_block 0 with fail
 go_cut [7] (fun s7 wx=>wx=w∧s7=.int .i64 (E:Int))
 case first=>
  go_wp2_with fail
  go_loopg [7] (s.s.length - s.at_) (fun g s7 wx=>∃k:Nat,wx=w∧g=s.s.length - k∧s.at_≤k∧k≤s.s.length∧s7=.int .i64 k∧Hid (k+Rf.run eY (s.s.drop k)=s.at_+K))
  case atStart=>exact⟨s.at_,rfl,rfl,by omega,by omega,rfl,(show _=_ by rw[hK])⟩
  case round=>
   obtain⟨k,b3,rfl,bc,be,rfl,HK⟩:=hrel;obtain rfl:=b3.symm;clear hK;by_cases h3:k<s.s.length
   .obtain⟨y,hb,bf,hy⟩:=bH s k h3;have e1:decide ((k:Int)<(s.s.length:Int))=true:=by simp;omega
    have ax:(k:Int)<(s.s.length:Int):=by omega
    have aq:s.s.drop k=y::s.s.drop (k+1):=drop_at hy;have am:=aA HK;rw[aq,qK]at am;have HS:=aB (fun w=>vW (y.toNat:Int) w);cases h4:eY (y.toNat:Int)
    .rw[h4,if_neg (by decide)]at am;rw[h4]at HS;have ar:=aB (show k=s.at_+K by omega);clear am aq hb hy HK;go_wp2_with(go_at_call 156;refine(aA HS _).mono ?_;rintro e w' ⟨rfl,f⟩;obtain rfl:=f.symm)
     go_meet
     exact⟨rfl,by rw[aA ar,aA HE]⟩
    rw[h4,if_pos rfl]at am;rw[h4]at HS;have b4:Hid (k+1+Rf.run eY (s.s.drop (k+1))=s.at_+K):=(show _=_ by omega);clear am aq hb hy HK;go_wp2_with(go_at_call 156;refine(aA HS _).mono ?_;rintro e w' ⟨rfl,f⟩;obtain rfl:=f.symm)
    go_roundg (s.s.length - (k+1))
    case measure=>omega
    case rel=>exact⟨k+1,rfl,rfl,by omega,by omega,by go_num,aA b4⟩
   have e1:decide ((k:Int)<(s.s.length:Int))=false:=by simp;omega
   have ar:=aB (show k=s.at_+K by have:=aA HK;rw[List.drop_of_length_le (by omega)]at this;simpa[Av]using this);clear HK;go_wp2_with fail
   go_meet
   exact⟨rfl,by rw[aA ar,aA HE]⟩
 case rest=>
 obtain⟨b5,rfl⟩:=hcut;obtain rfl:=b5.symm;have p:s.ot.toNat=o:=by rw[ho];rfl
 have m:decide (s.ot≤(K:Int))=decide ((o:Int)≤(K:Int)):=by rw[ho]
 have b9:wrap64 (K:Int)=(K:Int):=by have:=I;unfold wrap64;omega
 cases c1:decide ((o:Int)≤(K:Int))with
 |true=>
  have ay:decide (o≤K)=true:=by simpa using c1
  have ap:o≤K:=by simpa using ay
  obtain⟨full,af⟩:∃full,full=(s.s.drop s.at_).take o:=⟨_,rfl⟩;have ba:ByteArray.extract ⟨s.s.toArray⟩ s.at_ (s.at_+o)=⟨full.toArray⟩:=by rw[af];exact iS s.s s.at_ o
  have c:=aA av;rw[p,m,c1,Bool.true_and,←af]at c;obtain⟨bg,bh,bi,bj⟩:=aA b2 ap;have ag:=aB (fun n=>aA al full (w.drewN n) s L ((aA J).start.drewN n));generalize az:Rf.has q full=fl at *;clear af ap;cases fl with
  |true=>
   simp only[if_true]at c;have T:=aB c;have b0:Hid (∀n,aL w b (aR s L) ((w.drewN n).setCell ⟨b,5,none⟩ (.int .i64 ((s.at_:Int)+(o:Int) - 1))) {s with at_:=s.at_+o - 1} L):=fun n=>((aA J).start.drewN n).store 5 _ {s with at_:=s.at_+o - 1} (by simp[aF];exact(aA HX).symm) rfl rfl rfl
   have b6:=aB (fun(W:World) (L' :aH) (hW:aI W b {s with at_:=s.at_+o - 1} L')=>bW hW 7);clear p m c I N M G hi hK az;go_wp2_with fail
   go_quiet(fail)
   go_wp2_with(first
    |(go_at_call 205;refine(aA ag _).mono ?_;rintro e w' ⟨rfl,f⟩;obtain rfl:=f.symm)
    |(go_at_call 83;refine(aA b6 _ _ (aA b0 _).rd).mono ?_;rintro e w9 ⟨rfl,L9,ab⟩))
   go_ret2;rw[aA T];exact⟨rfl,L9,(aA b0 nq).call ab⟩
  |false=>
   simp only[Bool.false_eq_true,if_false]at c;clear az;have B:=aA aw;have C:=tH (r:=s);generalize O:Rf.word s=wd at *;obtain⟨P,nm,o1⟩:=wd;cases o1 with
   |false=>
    simp only[Bool.false_eq_true,if_false]at c;have T:=aB c;clear p m c I N M G hi hK B C O;go_wp2_with fail
    go_quiet(fail)
    go_wp2_with(first
     |(go_at_call 205;refine(aA ag _).mono ?_;rintro e w' ⟨rfl,f⟩;obtain rfl:=f.symm)
     |(go_at_call 109;refine(aA HW _ _ ((aA J).start.drewN _).rd).mono ?_;rintro e w3 ⟨rfl,L3,a⟩;have d:=aB (((aA J).start.drewN _).call a);have hc3:=a.rd.cell;have X:=a.rd.frozen;have v:=a.rd.lt;clear a;unfold aF at hc3))
    go_ret2;rw[aA T];exact⟨rfl,L3,aA d⟩
   |true=>
    simp only[if_true]at c;obtain⟨kk,D,t,Y⟩:=C rfl;have h5:P.at_<P.s.length:=by simp only at D;rw[D];exact t
    have i:bT P:=B.ok (aA HL);obtain⟨y2,Q,b1,Z⟩:=bH P P.at_ h5;have ax:(P.at_:Int)<(P.s.length:Int):=by omega
    unfold pK at c;rw[Q]at c;have a0:=aB (fun w=>qG (y2.toNat:Int) w);generalize a1:Rf.cB (y2.toNat:Int)=sp at *;have ad:=aB (fun W r L' hm=>aA al nm W r L' hm);generalize a2:Rf.has q nm=hb at *;have j:bT (aP P):=(gb i.at_).ok i;have ah:=aB (fun(W:World) (L' :aH) (hW:aI W b P L')=>mU hW i);generalize a3:aP P=r2 at *;have S:=fS j.at_ 61;have ai:=aB (fun(W:World) (L' :aH) (hW:aI W b r2 L')=>Py hW j 61 (by decide) (by decide));generalize a4:Rf.must r2 61=mu at *;obtain⟨r3,o3⟩:=mu;have l:bT r3:=S.1.ok j;have an:=aB (fun(W:World) (L' :aH) (hW:aI W b r3 L')=>mU hW l);unfold pJ at c;have u:bT (aP r3):=(gb l.at_).ok l;have ao:=aB (fun(W:World) (L' :aH) (hW:aI W b (aP r3) L')=>gy hW u);generalize a5:aP r3=r4 at *;generalize a6:Rf.ends r4=en at *;obtain⟨r5,o5⟩:=en;simp only at c;have aj:(((y2.toNat:Int) !=61)=true∧sp=false)∨((((y2.toNat:Int) !=61)=false∨(((y2.toNat:Int) !=61)=true∧sp=true))∧H=if hb then(Rf.fail P 6,[],false)else if o3 then(if o5 then(r5,[],false)else(r5,nm,true))else(r3,[],false)):=by
     cases hq:((y2.toNat:Int) !=61)
     .right;refine⟨.inl rfl,?_⟩;rw[c,hq];rfl
     cases sp
     .exact .inl ⟨rfl,rfl⟩
     right;refine⟨.inr ⟨rfl,rfl⟩,?_⟩;rw[c,hq];rfl
    rcases aj with⟨eA,rfl⟩|⟨ae,hfin⟩
    .rw[eA]at c;have T:=aB (show H=(Rf.fail P 3,[],false)from c);clear p m c I N M G hi hK B C O D t Y h5 i Q Z a1 a2 j a3 S a4 l u a5 a6;go_wp2_with fail
     go_quiet(fail)
     go_wp2_with(first
      |(go_at_call 205;refine(aA ag _).mono ?_;rintro e w' ⟨rfl,f⟩;obtain rfl:=f.symm)
      |(go_at_call 109;refine(aA HW _ _ ((aA J).start.drewN _).rd).mono ?_;rintro e w3 ⟨rfl,L3,a⟩;have d:=aB (((aA J).start.drewN _).call a);have hc3:=a.rd.cell;have X:=a.rd.frozen;have v:=a.rd.lt;clear a;unfold aF at hc3))
     go_quiet(fail)
     go_wp2_with(first
      |(go_at_call 149;refine(aA a0 _).mono ?_;rintro e w' ⟨rfl,f⟩;obtain rfl:=f.symm)
      |(go_at_call 83;refine(bW ((aA d).drewN _).rd 3).mono ?_;rintro e w9 ⟨rfl,L9,ab⟩))
     go_ret2;rw[aA T];exact⟨rfl,L9,((aA d).drewN _).call ab⟩
    .cases hb with
     |true=>
      have T:=aB (show H=(Rf.fail P 6,[],false)from hfin);rcases ae with eA|⟨eA,rfl⟩;all_goals
       clear p m c I N M G hi hK hfin B C O D t Y h5 i Q Z a1 a2 j a3 S a4 l u a5 a6;go_wp2_with fail
       go_quiet(fail)
       go_wp2_with(first
        |(go_at_call 205;refine(aA ag _).mono ?_;rintro e w' ⟨rfl,f⟩;obtain rfl:=f.symm)
        |(go_at_call 109;refine(aA HW _ _ ((aA J).start.drewN _).rd).mono ?_;rintro e w3 ⟨rfl,L3,a⟩;have d:=aB (((aA J).start.drewN _).call a);have hc3:=a.rd.cell;have X:=a.rd.frozen;have v:=a.rd.lt;clear a;unfold aF at hc3))
       go_quiet(fail)
       go_wp2_with(first
        |(go_at_call 149;refine(aA a0 _).mono ?_;rintro e w' ⟨rfl,f⟩;obtain rfl:=f.symm)
        |(go_at_call 205;refine(aA ad _ _ _ ((aA d).drewN _)).mono ?_;rintro e w' ⟨rfl,f⟩;obtain rfl:=f.symm)
        |(go_at_call 83;refine(bW ((aA d).drewN _).rd 6).mono ?_;rintro e w9 ⟨rfl,L9,ab⟩))
       go_ret2;rw[aA T];exact⟨rfl,L9,((aA d).drewN _).call ab⟩
     |false=>
      cases o3 with
      |false=>
       have T:=aB (show H=(r3,[],false)from hfin);rcases ae with eA|⟨eA,rfl⟩;all_goals
        clear p m c I N M G hi hK hfin B C O D t Y h5 i Q Z a1 a2 j a3 S a4 l u a5 a6;go_wp2_with fail
        go_quiet(fail)
        go_wp2_with(first
         |(go_at_call 205;refine(aA ag _).mono ?_;rintro e w' ⟨rfl,f⟩;obtain rfl:=f.symm)
         |(go_at_call 109;refine(aA HW _ _ ((aA J).start.drewN _).rd).mono ?_;rintro e w3 ⟨rfl,L3,a⟩;have d:=aB (((aA J).start.drewN _).call a);have hc3:=a.rd.cell;have X:=a.rd.frozen;have v:=a.rd.lt;clear a;unfold aF at hc3))
        go_quiet(fail)
        go_wp2_with(first
         |(go_at_call 149;refine(aA a0 _).mono ?_;rintro e w' ⟨rfl,f⟩;obtain rfl:=f.symm)
         |(go_at_call 205;refine(aA ad _ _ _ ((aA d).drewN _)).mono ?_;rintro e w' ⟨rfl,f⟩;obtain rfl:=f.symm)
         |(go_at_call 104;refine(aA ah _ _ ((aA d).drewN _).rd).mono ?_;rintro e w4 ⟨rfl,L4,x⟩;have z:=aB (((aA d).drewN _).call x);clear x)
         |(go_at_call 107;refine(aA ai _ _ (aA z).rd).mono ?_;rintro e w5 ⟨rfl,L5,A⟩;have F:=aB ((aA z).call A);clear A))
        go_ret2;rw[aA T];exact⟨rfl,L5,aA F⟩
      |true=>
       cases o5 with
       |true=>
        have T:=aB (show H=(r5,[],false)from hfin);rcases ae with eA|⟨eA,rfl⟩;all_goals
         clear p m c I N M G hi hK hfin B C O D t Y h5 i Q Z a1 a2 j a3 S a4 l u a5 a6;go_wp2_with fail
         go_quiet(fail)
         go_wp2_with(first
          |(go_at_call 205;refine(aA ag _).mono ?_;rintro e w' ⟨rfl,f⟩;obtain rfl:=f.symm)
          |(go_at_call 109;refine(aA HW _ _ ((aA J).start.drewN _).rd).mono ?_;rintro e w3 ⟨rfl,L3,a⟩;have d:=aB (((aA J).start.drewN _).call a);have hc3:=a.rd.cell;have X:=a.rd.frozen;have v:=a.rd.lt;clear a;unfold aF at hc3))
         go_quiet(fail)
         go_wp2_with(first
          |(go_at_call 149;refine(aA a0 _).mono ?_;rintro e w' ⟨rfl,f⟩;obtain rfl:=f.symm)
          |(go_at_call 205;refine(aA ad _ _ _ ((aA d).drewN _)).mono ?_;rintro e w' ⟨rfl,f⟩;obtain rfl:=f.symm)
          |(go_at_call 104;refine(aA ah _ _ ((aA d).drewN _).rd).mono ?_;rintro e w4 ⟨rfl,L4,x⟩;have z:=aB (((aA d).drewN _).call x);clear x)
          |(go_at_call 107;refine(aA ai _ _ (aA z).rd).mono ?_;rintro e w5 ⟨rfl,L5,A⟩;have F:=aB ((aA z).call A);clear A)
          |(go_at_call 104;refine(aA an _ _ (aA F).rd).mono ?_;rintro e w6 ⟨rfl,L6,a7⟩;have a8:=aB ((aA F).call a7);clear a7)
          |(go_at_call 105;refine(aA ao _ _ (aA a8).rd).mono ?_;rintro e w7 ⟨rfl,L7,a9⟩;have ak:=aB ((aA a8).call a9);clear a9))
         go_ret2;rw[aA T];exact⟨rfl,L7,aA ak⟩
       |false=>
        have T:=aB (show H=(r5,nm,true)from hfin);rcases ae with eA|⟨eA,rfl⟩;all_goals
         clear p m c I N M G hi hK hfin B C O D t Y h5 i Q Z a1 a2 j a3 S a4 l u a5 a6;go_wp2_with fail
         go_quiet(fail)
         go_wp2_with(first
          |(go_at_call 205;refine(aA ag _).mono ?_;rintro e w' ⟨rfl,f⟩;obtain rfl:=f.symm)
          |(go_at_call 109;refine(aA HW _ _ ((aA J).start.drewN _).rd).mono ?_;rintro e w3 ⟨rfl,L3,a⟩;have d:=aB (((aA J).start.drewN _).call a);have hc3:=a.rd.cell;have X:=a.rd.frozen;have v:=a.rd.lt;clear a;unfold aF at hc3))
         go_quiet(fail)
         go_wp2_with(first
          |(go_at_call 149;refine(aA a0 _).mono ?_;rintro e w' ⟨rfl,f⟩;obtain rfl:=f.symm)
          |(go_at_call 205;refine(aA ad _ _ _ ((aA d).drewN _)).mono ?_;rintro e w' ⟨rfl,f⟩;obtain rfl:=f.symm)
          |(go_at_call 104;refine(aA ah _ _ ((aA d).drewN _).rd).mono ?_;rintro e w4 ⟨rfl,L4,x⟩;have z:=aB (((aA d).drewN _).call x);clear x)
          |(go_at_call 107;refine(aA ai _ _ (aA z).rd).mono ?_;rintro e w5 ⟨rfl,L5,A⟩;have F:=aB ((aA z).call A);clear A)
          |(go_at_call 104;refine(aA an _ _ (aA F).rd).mono ?_;rintro e w6 ⟨rfl,L6,a7⟩;have a8:=aB ((aA F).call a7);clear a7)
          |(go_at_call 105;refine(aA ao _ _ (aA a8).rd).mono ?_;rintro e w7 ⟨rfl,L7,a9⟩;have ak:=aB ((aA a8).call a9);clear a9))
         go_ret2;rw[aA T];exact⟨rfl,L7,aA ak⟩
 |false=>
  have ay:decide (o≤K)=false:=by simpa using c1
  have c:=aA av;rw[m,c1,Bool.false_and]at c;simp only[Bool.false_eq_true,if_false]at c;have B:=aA aw;have C:=tH (r:=s);generalize O:Rf.word s=wd at *;obtain⟨P,nm,o1⟩:=wd;cases o1 with
  |false=>
   simp only[Bool.false_eq_true,if_false]at c;have T:=aB c;clear p m c I N M G hi hK B C O
   go_wp2_with(first
    |(go_at_call 109;refine(aA HW _ _ (aA J).start.rd).mono ?_;rintro e w3 ⟨rfl,L3,a⟩;have d:=aB ((aA J).start.call a);have hc3:=a.rd.cell;have X:=a.rd.frozen;have v:=a.rd.lt;clear a;unfold aF at hc3))
   go_ret2;rw[aA T];exact⟨rfl,L3,aA d⟩
  |true=>
   simp only[if_true]at c;obtain⟨kk,D,t,Y⟩:=C rfl;have h5:P.at_<P.s.length:=by simp only at D;rw[D];exact t
   have i:bT P:=B.ok (aA HL);obtain⟨y2,Q,b1,Z⟩:=bH P P.at_ h5;have ax:(P.at_:Int)<(P.s.length:Int):=by omega
   unfold pK at c;rw[Q]at c;have a0:=aB (fun w=>qG (y2.toNat:Int) w);generalize a1:Rf.cB (y2.toNat:Int)=sp at *;have ad:=aB (fun W r L' hm=>aA al nm W r L' hm);generalize a2:Rf.has q nm=hb at *;have j:bT (aP P):=(gb i.at_).ok i;have ah:=aB (fun(W:World) (L' :aH) (hW:aI W b P L')=>mU hW i);generalize a3:aP P=r2 at *;have S:=fS j.at_ 61;have ai:=aB (fun(W:World) (L' :aH) (hW:aI W b r2 L')=>Py hW j 61 (by decide) (by decide));generalize a4:Rf.must r2 61=mu at *;obtain⟨r3,o3⟩:=mu;have l:bT r3:=S.1.ok j;have an:=aB (fun(W:World) (L' :aH) (hW:aI W b r3 L')=>mU hW l);unfold pJ at c;have u:bT (aP r3):=(gb l.at_).ok l;have ao:=aB (fun(W:World) (L' :aH) (hW:aI W b (aP r3) L')=>gy hW u);generalize a5:aP r3=r4 at *;generalize a6:Rf.ends r4=en at *;obtain⟨r5,o5⟩:=en;simp only at c;have aj:(((y2.toNat:Int) !=61)=true∧sp=false)∨((((y2.toNat:Int) !=61)=false∨(((y2.toNat:Int) !=61)=true∧sp=true))∧H=if hb then(Rf.fail P 6,[],false)else if o3 then(if o5 then(r5,[],false)else(r5,nm,true))else(r3,[],false)):=by
    cases hq:((y2.toNat:Int) !=61)
    .right;refine⟨.inl rfl,?_⟩;rw[c,hq];rfl
    cases sp
    .exact .inl ⟨rfl,rfl⟩
    right;refine⟨.inr ⟨rfl,rfl⟩,?_⟩;rw[c,hq];rfl
   rcases aj with⟨eA,rfl⟩|⟨ae,hfin⟩
   .rw[eA]at c;have T:=aB (show H=(Rf.fail P 3,[],false)from c);clear p m c I N M G hi hK B C O D t Y h5 i Q Z a1 a2 j a3 S a4 l u a5 a6
    go_wp2_with(first
     |(go_at_call 109;refine(aA HW _ _ (aA J).start.rd).mono ?_;rintro e w3 ⟨rfl,L3,a⟩;have d:=aB ((aA J).start.call a);have hc3:=a.rd.cell;have X:=a.rd.frozen;have v:=a.rd.lt;clear a;unfold aF at hc3))
    go_quiet(fail)
    go_wp2_with(first
     |(go_at_call 149;refine(aA a0 _).mono ?_;rintro e w' ⟨rfl,f⟩;obtain rfl:=f.symm)
     |(go_at_call 83;refine(bW ((aA d).drewN _).rd 3).mono ?_;rintro e w9 ⟨rfl,L9,ab⟩))
    go_ret2;rw[aA T];exact⟨rfl,L9,((aA d).drewN _).call ab⟩
   cases hb with
   |true=>
    have T:=aB (show H=(Rf.fail P 6,[],false)from hfin);rcases ae with eA|⟨eA,rfl⟩;all_goals
     clear p m c I N M G hi hK hfin B C O D t Y h5 i Q Z a1 a2 j a3 S a4 l u a5 a6
     go_wp2_with(first
      |(go_at_call 109;refine(aA HW _ _ (aA J).start.rd).mono ?_;rintro e w3 ⟨rfl,L3,a⟩;have d:=aB ((aA J).start.call a);have hc3:=a.rd.cell;have X:=a.rd.frozen;have v:=a.rd.lt;clear a;unfold aF at hc3))
     go_quiet(fail)
     go_wp2_with(first
      |(go_at_call 149;refine(aA a0 _).mono ?_;rintro e w' ⟨rfl,f⟩;obtain rfl:=f.symm)
      |(go_at_call 205;refine(aA ad _ _ _ ((aA d).drewN _)).mono ?_;rintro e w' ⟨rfl,f⟩;obtain rfl:=f.symm)
      |(go_at_call 83;refine(bW ((aA d).drewN _).rd 6).mono ?_;rintro e w9 ⟨rfl,L9,ab⟩))
     go_ret2;rw[aA T];exact⟨rfl,L9,((aA d).drewN _).call ab⟩
   |false=>
    cases o3 with
    |false=>
     have T:=aB (show H=(r3,[],false)from hfin);rcases ae with eA|⟨eA,rfl⟩;all_goals
      clear p m c I N M G hi hK hfin B C O D t Y h5 i Q Z a1 a2 j a3 S a4 l u a5 a6
      go_wp2_with(first
       |(go_at_call 109;refine(aA HW _ _ (aA J).start.rd).mono ?_;rintro e w3 ⟨rfl,L3,a⟩;have d:=aB ((aA J).start.call a);have hc3:=a.rd.cell;have X:=a.rd.frozen;have v:=a.rd.lt;clear a;unfold aF at hc3))
      go_quiet(fail)
      go_wp2_with(first
       |(go_at_call 149;refine(aA a0 _).mono ?_;rintro e w' ⟨rfl,f⟩;obtain rfl:=f.symm)
       |(go_at_call 205;refine(aA ad _ _ _ ((aA d).drewN _)).mono ?_;rintro e w' ⟨rfl,f⟩;obtain rfl:=f.symm)
       |(go_at_call 104;refine(aA ah _ _ ((aA d).drewN _).rd).mono ?_;rintro e w4 ⟨rfl,L4,x⟩;have z:=aB (((aA d).drewN _).call x);clear x)
       |(go_at_call 107;refine(aA ai _ _ (aA z).rd).mono ?_;rintro e w5 ⟨rfl,L5,A⟩;have F:=aB ((aA z).call A);clear A))
      go_ret2;rw[aA T];exact⟨rfl,L5,aA F⟩
    |true=>
     cases o5 with
     |true=>
      have T:=aB (show H=(r5,[],false)from hfin);rcases ae with eA|⟨eA,rfl⟩;all_goals
       clear p m c I N M G hi hK hfin B C O D t Y h5 i Q Z a1 a2 j a3 S a4 l u a5 a6
       go_wp2_with(first
        |(go_at_call 109;refine(aA HW _ _ (aA J).start.rd).mono ?_;rintro e w3 ⟨rfl,L3,a⟩;have d:=aB ((aA J).start.call a);have hc3:=a.rd.cell;have X:=a.rd.frozen;have v:=a.rd.lt;clear a;unfold aF at hc3))
       go_quiet(fail)
       go_wp2_with(first
        |(go_at_call 149;refine(aA a0 _).mono ?_;rintro e w' ⟨rfl,f⟩;obtain rfl:=f.symm)
        |(go_at_call 205;refine(aA ad _ _ _ ((aA d).drewN _)).mono ?_;rintro e w' ⟨rfl,f⟩;obtain rfl:=f.symm)
        |(go_at_call 104;refine(aA ah _ _ ((aA d).drewN _).rd).mono ?_;rintro e w4 ⟨rfl,L4,x⟩;have z:=aB (((aA d).drewN _).call x);clear x)
        |(go_at_call 107;refine(aA ai _ _ (aA z).rd).mono ?_;rintro e w5 ⟨rfl,L5,A⟩;have F:=aB ((aA z).call A);clear A)
        |(go_at_call 104;refine(aA an _ _ (aA F).rd).mono ?_;rintro e w6 ⟨rfl,L6,a7⟩;have a8:=aB ((aA F).call a7);clear a7)
        |(go_at_call 105;refine(aA ao _ _ (aA a8).rd).mono ?_;rintro e w7 ⟨rfl,L7,a9⟩;have ak:=aB ((aA a8).call a9);clear a9))
       go_ret2;rw[aA T];exact⟨rfl,L7,aA ak⟩
     |false=>
      have T:=aB (show H=(r5,nm,true)from hfin);rcases ae with eA|⟨eA,rfl⟩;all_goals
       clear p m c I N M G hi hK hfin B C O D t Y h5 i Q Z a1 a2 j a3 S a4 l u a5 a6
       go_wp2_with(first
        |(go_at_call 109;refine(aA HW _ _ (aA J).start.rd).mono ?_;rintro e w3 ⟨rfl,L3,a⟩;have d:=aB ((aA J).start.call a);have hc3:=a.rd.cell;have X:=a.rd.frozen;have v:=a.rd.lt;clear a;unfold aF at hc3))
       go_quiet(fail)
       go_wp2_with(first
        |(go_at_call 149;refine(aA a0 _).mono ?_;rintro e w' ⟨rfl,f⟩;obtain rfl:=f.symm)
        |(go_at_call 205;refine(aA ad _ _ _ ((aA d).drewN _)).mono ?_;rintro e w' ⟨rfl,f⟩;obtain rfl:=f.symm)
        |(go_at_call 104;refine(aA ah _ _ ((aA d).drewN _).rd).mono ?_;rintro e w4 ⟨rfl,L4,x⟩;have z:=aB (((aA d).drewN _).call x);clear x)
        |(go_at_call 107;refine(aA ai _ _ (aA z).rd).mono ?_;rintro e w5 ⟨rfl,L5,A⟩;have F:=aB ((aA z).call A);clear A)
        |(go_at_call 104;refine(aA an _ _ (aA F).rd).mono ?_;rintro e w6 ⟨rfl,L6,a7⟩;have a8:=aB ((aA F).call a7);clear a7)
        |(go_at_call 105;refine(aA ao _ _ (aA a8).rd).mono ?_;rintro e w7 ⟨rfl,L7,a9⟩;have ak:=aB ((aA a8).call a9);clear a9))
       go_ret2;rw[aA T];exact⟨rfl,L7,aA ak⟩
end
theorem infoAt:(Tryz.prog.info? 69).map (fun i=>(i.zero,i.size,i.bytes))=some (some (.agg #[.string ByteArray.empty,.string ByteArray.empty,.string ByteArray.empty]),3,48):=by kernel_rfl
structure bX(w0 w:World)(b:Nat)(r:R)(L:aH)(v:Value)(l:List aD):Prop where
 row:w.ownsRow w0.heap.size 69 3 v l.length (aV l)
 nf:∀k,v.ownBlock=some k→k∉aR r L
section
variable {w0 w w' :World}{b:Nat}{f0:List Nat}{r r' :R}{L L' :aH}{v:Value}{l:List aD}
theorem bX.nil(w0 w:World)(b:Nat)(r:R)(L:aH):bX w0 w b r L (.slice none 0 0) []:=⟨World.ownsRow_nil _ _ _ _,fun k a=>by cases a⟩
theorem bX.low(h:bX w0 w b r L v l)(a:b<w0.heap.size):w.ownsRow (b+1) 69 3 v l.length (aV l):=nS h.row a
theorem bX.call(h:bX w0 w b r L v l)(d:b<w0.heap.size)(m:aL w b (aR r L) w' r' L'):bX w0 w' b r' L' v l:=by
 refine⟨fP (r:=⟨69,3,v,l.length,aV l⟩) h.row fun k a=>m.fr.block k (World.ownsRow.lt h.row k a).2 (by have:=(World.ownsRow.lt h.row k a).1;omega) (h.nf k a),fun k a c=>?_⟩;rcases m.fr.aJ k c with g|g
 .exact h.nf k a g
 have:=(World.ownsRow.lt h.row k a).2;omega
theorem bX.below(h:bX w0 w b r L v l)(a:Below w.heap.size w w'):bX w0 w' b r L v l:=⟨tE h.row a,h.nf⟩
theorem aL.JQ(m:aL w0 b f0 w r L){o:Option Nat}(c:w.grownBy w' o)(d:∀k,o=some k→w0.heap.size≤k∧k∉aR r L)(h:b<w0.heap.size):aL w0 b f0 w' r L:=by
 refine⟨m.rd.keep fun k a=>c.block k ?_ fun e=>?_,⟨c.os.trans m.fr.os,c.tape.trans m.fr.tape,c.output.trans m.fr.output,Nat.le_trans m.fr.size c.size,fun k a f g=>(c.block k (Nat.lt_of_lt_of_le a m.fr.size) fun e=>?_).trans (m.fr.block k a f g),m.fr.aJ⟩,m.gs⟩
 .rcases a with rfl|a
  .exact m.rd.lt
  exact(m.rd.dF k a).2
 .have:=d k e.symm;rcases a with rfl|a
  .omega
  exact this.2 a
 have:=(d k e.symm).1;omega
theorem JR(l:List aD)(x:aD):aV (l++[x])=aV l++bZ x:=by simp[aV]
theorem bX.push(h:bX w0 w b r L v l)(x:aD){o:Obj}{g cap:Nat}(i:b<w0.heap.size)(m:aL w0 b f0 w r L)(hown:w'.ownsRow w0.heap.size 69 3 (.slice (some ⟨g,0,none⟩) (l.length+1) cap) (l.length+1) (aV l++bZ x))
 (j:(w.alloc o).grownBy w' v.ownBlock) (c:v.ownBlock=some g∨g=(w.alloc o).heap.size):aL w0 b f0 w' r L∧bX w0 w' b r L (.slice (some ⟨g,0,none⟩) (l.length+1) cap) (l++[x]):=by
 refine⟨(m.alloc o).JQ j (fun k a=>⟨(World.ownsRow.lt h.row k a).1,h.nf k a⟩) i,?_,fun k a f=>?_⟩
 .rw[JR,List.length_append];exact hown
 have e:g=k:=by simpa[Value.ownBlock]using a
 subst e;rcases c with d|d
 .exact h.nf _ d f
 have:=(m.rd.dF _ f).2;simp at d;omega
end
end Go.Proofs.YtmgfijllcdadgaaGreatDoor.V
