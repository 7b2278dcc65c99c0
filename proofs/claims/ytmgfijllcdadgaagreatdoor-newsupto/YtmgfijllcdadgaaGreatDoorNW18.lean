import Derived.Test.YtmgfijllcdadgaaGreatDoorNW17
import Derived.Test.YtmgfijllcdadgaaGreatDoorNW13
import Derived.SliceStrings
import Derived.Carry
import Derived.WideKeyArgs
import Derived.Test.YtmgfijllcdadgaaGreatDoorNW15
import Derived.Test.YtmgfijllcdadgaaGreatDoorNW14
import Derived.Deep.Slices
import Derived.Deep.Strs
set_option linter.unusedVariables false
set_option linter.unusedSimpArgs false
set_option maxHeartbeats 8000000
set_option maxRecDepth 100000
namespace Go.Proofs.YtmgfijllcdadgaaGreatDoor.V
open Go.RowKit
open Mk (Bs Ev aD)
open Rf (R)
open Go.ChangeShapes Go.WideShapes Go.ChangeAt Go.RowKit
open Mk (St Bs Ev aD)
open Go.Proofs.Tryz
open Rf (Px fE gJ)
variable {got x:Bs}{l:List Bs}{a:Bool}
def bG(w:World):Prop:=∀i,w.cell? ⟨0,i,none⟩=(Px.map sv)[i]?
section
variable {w w' :World}{b:Nat}{s s' :R}{L L' :aH}
theorem bG.lt(h:bG w):0<w.heap.size:=by
 have:=h 0;cases a:w.heap[0]? with
 |none=>simp[World.cell?,a,Px]at this
 |some o=>exact(Array.getElem?_eq_some_iff.1 a).1
theorem bG.keep(h:bG w)(a:w'.heap[0]?=w.heap[0]?):bG w' :=fun i=>by
 rw[←h i];simp only[World.cell?,a]
theorem bG.mv(h:bG w)(c:aI w b s L)(a:aL w b (aR s L) w' s' L')(d:0<b):bG w' :=
 h.keep (a.fr.block _ h.lt (by omega) fun a=>by have:=(c.dF _ a).1;omega)
theorem bG.below(h:bG w)(a:Below w.heap.size w w'):bG w' :=h.keep (a.block _ h.lt)
end
section
variable {f from_:Nat}{r:R}
theorem Jc(h:¬r.at_<r.s.length):fE from_ (f+1) r=({r with stop:=1},[],false):=by
 rw[fE,if_neg h]
theorem Jd(h:r.at_<r.s.length)(a:r.at_=from_)(b:r.byte r.at_=35):fE from_ (f+1) r=Rf.number r:=by
 rw[fE,if_pos h,if_pos (by simp[a];rw[←a];exact b)]
theorem Je(h:r.at_<r.s.length)(a:¬(r.at_=from_∧r.byte r.at_=35)){t:Bs}{b:Bool}(c:gJ ((r.s.drop from_).take (r.at_+1 - from_)) Px false=(some t,b)):fE from_ (f+1) r=({r with at_:=r.at_+1},t,true):=by
 rw[fE,if_pos h,if_neg (by simpa using a),c]
theorem Jf(h:r.at_<r.s.length)(a:¬(r.at_=from_∧r.byte r.at_=35))(b:gJ ((r.s.drop from_).take (r.at_+1 - from_)) Px false=(none,true)):fE from_ (f+1) r=fE from_ f {r with at_:=r.at_+1}:=by
 rw[fE,if_pos h,if_neg (by simpa using a),b]
theorem Jg(h:r.at_<r.s.length)(a:¬(r.at_=from_∧r.byte r.at_=35))(b:gJ ((r.s.drop from_).take (r.at_+1 - from_)) Px false=(none,false)):fE from_ (f+1) r=(Rf.fail r 4,[],false):=by
 rw[fE,if_pos h,if_neg (by simpa using a),b]
theorem Jh(i:Nat)(h:i<5):∃x:Bs,(Px.map sv)[i]?=some (.string ⟨x.toArray⟩)∧Px.drop i=x::Px.drop (i+1)∧x.length≤6:=by
 match i,h with
 |0,_=>exact⟨_,rfl,rfl,by decide⟩
 |1,_=>exact⟨_,rfl,rfl,by decide⟩
 |2,_=>exact⟨_,rfl,rfl,by decide⟩
 |3,_=>exact⟨_,rfl,rfl,by decide⟩
 |4,_=>exact⟨_,rfl,rfl,by decide⟩
theorem AF(h:x.length≤got.length∨x.take got.length≠got):gJ got (x::l) a=gJ got l a:=by
 rw[gJ,if_pos (by simpa using h)]
theorem Ji(h:¬x.length≤got.length)(b:x.take got.length=got)(c:got.length+1=x.length):gJ got (x::l) a=(some (x.drop got.length),a):=by
 rw[gJ,if_neg (by simp[b];omega),if_pos c]
theorem Jj(h:¬x.length≤got.length)(b:x.take got.length=got)(c:got.length+1≠x.length):gJ got (x::l) a=gJ got l true:=by
 rw[gJ,if_neg (by simp[b];omega),if_neg c]
end
section
variable {w w' :World}{b:Nat}{s:R}{L:aH}
theorem wA(h:aI w b s L)(hl:bT s)(hi:s.at_<s.s.length)(aj:s.s.length≤100000000)(hG:bG w)(ak:0<b):Calls Tryz.prog 166 #[.pointer (some ⟨b,0,none⟩)] w (kM w b s L (Rf.reference s)):=by
 have HM:=aB h;have HL:=aB hl;have h1:=hl.len;obtain⟨d,z⟩:∃d,d=Rf.reference s:=⟨_,rfl⟩;rw[←z];have HF:Hid (d=fE (s.at_+1) (s.s.length+1) {s with at_:=s.at_+1}):=z;have al:=h.lt;have hc:=h.cell;have hf:=h.frozen;unfold aF at hc;have HG:=aB hG;clear h z hl hG;have am:wrap64 ((s.at_:Int)+1)=((s.at_+1:Nat):Int):=by unfold wrap64;omega
 have T:Hid (aL w b (aR s L) (w.setCell ⟨b,5,none⟩ (.int .i64 ((s.at_:Int)+1))) {s with at_:=s.at_+1} L):=(aA HM).start.store 5 _ {s with at_:=s.at_+1} (by simp[aF]) rfl rfl rfl;go_enter func166,ntmps166
 go_wp2_with fail
 generalize a2:(s.at_:Int)+1=J at T⊢;have p:Hid (J=((s.at_+1:Nat):Int)):=(show J=_ by rw[←a2];simp);clear a2;go_loopg [] (s.s.length+1) (fun g wx=>∃(k:Nat) (L1:aH),d=fE (s.at_+1) g {s with at_:=k}∧s.at_+1≤k∧k≤s.s.length∧s.s.length - k<g∧aL w b (aR s L) wx {s with at_:=k} L1)
 case atStart=>exact⟨s.at_+1,L,aA HF,Nat.le_refl _,by omega,by omega,aA T⟩
 case round=>
  obtain⟨k,L1,hfin,X,K,hg,hm⟩:=hrel;obtain⟨f,rfl⟩:∃f,gk=f+1:=⟨gk - 1,by omega⟩;have Y:bT {s with at_:=k}:=⟨(aA HL).len,K,(aA HL).t0,(aA HL).t1⟩;have HE:=aB (gy hm.rd Y);have Z:=aB hm;have b4:=hm.rd.lt;have a0:=aB (And.intro X (And.intro K hg));have an:=aB Y;clear hm hc hf al HF T am hi Y;by_cases A:k<s.s.length
  .rw[show Rf.ends {s with at_:=k}=({s with at_:=k},false) by simp[Rf.ends,A]]at HE;obtain⟨y,hb,ao,hy⟩:=bH {s with at_:=k} k A;have ap:(k:Int)<(s.s.length:Int):=by omega
   have M:=aB A;by_cases P:k=s.at_+1∧(y.toNat:Int)=35
   .have e1:((k:Int)==J)=true:=by rw[aA p,P.1];simp
    have e2:((y.toNat:Int)==35)=true:=by simpa using P.2
    rw[Jd (r:={s with at_:=k}) A P.1 (by rw[hb];exact P.2)]at hfin;have B:=aB hfin;have HN:=aB (fun(W:World) (L' :aH) (hW:aI W b {s with at_:=k} L')=>Jb hW (aA an) (aA M) aj);clear X K hg A hfin hb hy P;go_wp2_with(go_at_call 105;refine(aA HE).mono ?_;rintro e w1 ⟨rfl,L2,a⟩;have C:=aB ((aA Z).call a);have N:=a.rd.cell;have a3:=a.rd.frozen;have Q:=a.rd.lt;clear a;unfold aF at N)
    go_quiet(fail)
    go_wp2_with(go_at_call 209;refine(aA HN _ _ ((aA C).drewN _).rd).mono ?_;rintro e w2 ⟨rfl,I,aq⟩)
    go_ret2;rw[aA B];exact⟨rfl,I,((aA C).drewN _).call aq⟩
   have ar:(((k:Int)==J)=false)∨(((k:Int)==J)=true∧((y.toNat:Int)==35)=false):=by
    rw[aA p];by_cases h5:k=s.at_+1
    .right;refine⟨by simp[h5],?_⟩;have:¬(y.toNat:Int)=35:=fun h=>P ⟨h5,h⟩
     simpa using this
    left;simp;omega
   have o:¬(({s with at_:=k}:R).at_=s.at_+1∧({s with at_:=k}:R).byte ({s with at_:=k}:R).at_=35):=by
    intro h;exact P ⟨h.1,by rw[←hb];exact h.2⟩
   obtain⟨m,j⟩:∃m,m=gJ ((s.s.drop (s.at_+1)).take (k+1 - (s.at_+1))) Px false:=⟨_,rfl⟩;have a4:=aB j;have au:Hid (∀t v,m=(some t,v)→d=({s with at_:=k+1},t,true)):=fun t v h=>by rw[hfin];exact Je (r:={s with at_:=k}) A o (j.symm.trans h)
   have av:Hid (m=(none,true)→d=fE (s.at_+1) f {s with at_:=k+1}):=fun h=>by rw[hfin];exact Jf (r:={s with at_:=k}) A o (j.symm.trans h)
   have aw:Hid (m=(none,false)→d=(Rf.fail {s with at_:=k} 4,[],false)):=fun h=>by rw[hfin];exact Jg (r:={s with at_:=k}) A o (j.symm.trans h)
   have ax:wrap64 ((k:Int)+1)=((k+1:Nat):Int):=by unfold wrap64;omega
   have a5:(s.s.drop (s.at_+1)).length=s.s.length - (s.at_+1):=by simp
   have a6:Hid (((s.s.drop (s.at_+1)).take (k+1 - (s.at_+1))).length=k+1 - (s.at_+1)):=(show _=_ by rw[List.length_take,a5];omega)
   have a7:Hid (ByteArray.extract ⟨s.s.toArray⟩ (s.at_+1) (k+1)=⟨((s.s.drop (s.at_+1)).take (k+1 - (s.at_+1))).toArray⟩):=(show _=_ by
    have:=iS s.s (s.at_+1) (k+1 - (s.at_+1))
    rwa[show s.at_+1+(k+1 - (s.at_+1))=k+1 by omega]at this)
   clear X K hg A hfin hb hy P o j a5;rcases ar with e1|⟨e1,e2⟩;all_goals
    go_wp2_with(go_at_call 105;refine(aA HE).mono ?_;rintro e w1 ⟨rfl,L2,a⟩;have C:=aB ((aA Z).call a);have N:=a.rd.cell;have a3:=a.rd.frozen;have Q:=a.rd.lt;clear a;unfold aF at N)
    go_quiet(fail)
    go_wp2_with fail
    have a8:Hid (aL w b (aR s L) ((w1.drewN nq).setCell ⟨b,5,none⟩ (.int .i64 ((k:Int)+1))) {s with at_:=k+1} L2):=((aA C).drewN _).store 5 _ {s with at_:=k+1} (by simp[aF]) rfl rfl rfl;clear N a3 Q C HE ao ap;go_loopw [6,7] (fun s6 s7 wx=>∃(i:Nat) (v:Bool) (I:aH),s6=.bool v∧s7=.int .i64 i∧i≤5∧m=gJ ((s.s.drop (s.at_+1)).take (k+1 - (s.at_+1))) (Px.drop i) v∧aL w b (aR s L) wx {s with at_:=k+1} I) (fun _ i _=>5 - (intOf i).toNat)
    case atStart=>exact⟨0,false,L2,rfl,rfl,by omega,aA a4,aA a8⟩
    case round=>
     obtain⟨i,v,I,rfl,rfl,bc,hres,q⟩:=hrel;obtain⟨k1,c⟩:∃k1,k1=k+1:=⟨_,rfl⟩;have ay:=aB ((aA HG).mv (aA HM) q ak);have D:=a7;have E:=a6;have u:=aB q;have a9:=q.rd.cell;have be:=q.rd.frozen;have b5:=q.rd.lt;rw[←c]at a9;unfold aF at a9;clear a8 q ax;by_cases aa:i<5
     .obtain⟨x,ab,ad,bf⟩:=Jh i aa;have az:=(aA ay) i;rw[ab]at az;rw[ad]at hres;have bg:(i:Int)<5:=by omega
      have e6:decide ((i:Int)<5)=true:=by simp;omega
      have F:=aA a0;have G:=aA M;have b6:0≤J:=by rw[aA p];omega
      have b7:J≤(k1:Int):=by rw[aA p,c];omega
      have b8:(k1:Int)≤(s.s.length:Int):=by rw[c];omega
      obtain⟨got,l⟩:∃got,got=(s.s.drop (s.at_+1)).take (k+1 - (s.at_+1)):=⟨_,rfl⟩;have ae:got.length=k+1 - (s.at_+1):=by rw[l];exact aA E
      have bh:(k1:Int) - J=(got.length:Int):=by rw[aA p,c,ae];omega
      have b9:ByteArray.extract ⟨s.s.toArray⟩ J.toNat k1=⟨got.toArray⟩:=by
       rw[l,←aA D,aA p,c];rfl
      have bi:ByteArray.extract ⟨x.toArray⟩ 0 got.length=⟨(x.take got.length).toArray⟩:=by
       have:=iS x 0 got.length;simpa using this
      have a1:=aB l;rw[←l]at hres;have ba:got.length≤100000000:=by omega
      clear l ae ab ad F G E D c;by_cases O:x.length≤got.length
      .have e7:decide ((x.length:Int)≤(got.length:Int))=true:=by simp;omega
       have b0:decide (x.length≤got.length)=true:=by simpa using O
       rw[AF (.inl O)]at hres;have H:=aB hres;clear hres O;go_wp2_with fail
       go_quiet(fail)
       go_wp2
       exact⟨⟨i+1,v,I,rfl,by go_num,by omega,by rw[←aA a1];exact aA H,(aA u).drewN _⟩,by simp[intOf]<;>omega⟩
      have b0:decide (x.length≤got.length)=false:=by simpa using O
      have bb:(got.length:Int)≤(x.length:Int):=by omega
      by_cases S:x.take got.length=got
      .have e8:(x.take got.length==got)=true:=by simpa using S
       by_cases c3:got.length+1=x.length
       .have e9:((got.length:Int)==(x.length:Int) - 1)=true:=by simp;omega
        rw[Ji O S c3]at hres;have B:=aB (aA au _ _ hres);have b1:ByteArray.extract ⟨x.toArray⟩ got.length x.length=⟨(x.drop got.length).toArray⟩:=by
         have:=iS x got.length (x.length - got.length);rw[show got.length+(x.length - got.length)=x.length by omega,List.take_of_length_le (by simp)]at this;exact this
        clear hres O S c3;go_wp2_with fail
        go_quiet(fail)
        go_wp2
        go_ret2;rw[aA B];exact⟨by rw[←b1];rfl,I,(aA u).drewN _⟩
       have e9:((got.length:Int)==(x.length:Int) - 1)=false:=by simp;omega
       rw[Jj O S c3]at hres;have H:=aB hres;clear hres O S c3;go_wp2_with fail
       go_quiet(fail)
       go_wp2
       exact⟨⟨i+1,true,I,rfl,by go_num,by omega,by rw[←aA a1];exact aA H,(aA u).drewN _⟩,by simp[intOf]<;>omega⟩
      have e8:(x.take got.length==got)=false:=by simpa using S
      rw[AF (.inr S)]at hres;have H:=aB hres;clear hres O S;go_wp2_with fail
      go_quiet(fail)
      go_wp2
      exact⟨⟨i+1,v,I,rfl,by go_num,by omega,by rw[←aA a1];exact aA H,(aA u).drewN _⟩,by simp[intOf]<;>omega⟩
     have e6:decide ((i:Int)<5)=false:=by simp;omega
     obtain rfl:i=5:=by omega
     have n:m=(none,v):=hres;have af:=aB n;have F:=aA a0;have G:=aA M
     have ag:Hid (d=if v then fE (s.at_+1) f {s with at_:=k+1}else(Rf.fail {s with at_:=k} 4,[],false)):=(show d=_ by
      cases v
      .rw[if_neg (by decide)];exact aA aw (aA af)
      rw[if_pos rfl];exact aA av (aA af))
     cases v with
     |true=>
      clear hres n F G;go_wp2
      have ah:=aA ag;simp only[if_true]at ah;have F:=aA a0;have G:=aA M;go_roundg f
      case measure=>omega
      case rel=>exact⟨k+1,I,ah,by omega,by omega,by omega,aA u⟩
     |false=>
      have bj:(k1:Int) - 1=(k:Int):=by rw[c];omega
      have bk:wrap64 (k:Int)=(k:Int):=by unfold wrap64;omega
      have b2:=aB (fun(W:World) (L' :aH) (hW:aI W b {s with at_:=k} L')=>bW hW 4);have ai:Hid (aL w b (aR s L) (wr.setCell ⟨b,5,none⟩ (.int .i64 (k:Int))) {s with at_:=k} I):=(aA u).store 5 _ {s with at_:=k} (by simp[aF]) rfl rfl rfl;clear hres n F G c;go_wp2_with(go_at_call 83;refine(aA b2 _ _ (aA ai).rd).mono ?_;rintro e w6 ⟨rfl,L6,b3⟩)
      go_ret2;rw[aA ag,if_neg (by decide)];exact⟨rfl,L6,(aA ai).call b3⟩
  rw[show Rf.ends {s with at_:=k}=({s with at_:=k,stop:=1},true) by simp[Rf.ends,A]]at HE;rw[Jc (r:={s with at_:=k}) A]at hfin;have B:=aB hfin;clear hfin;go_wp2_with(go_at_call 105;refine(aA HE).mono ?_;rintro e w1 ⟨rfl,L2,a⟩)
  go_ret2;rw[aA B];exact⟨rfl,L2,(aA Z).call a⟩
end
theorem AJ : Tryz.prog.globalNamed "markup/markupref.words" = some 0 := by kernel_rfl
theorem Jk:(Tryz.prog.globals[0]?).map (·.type)=some 183:=by kernel_rfl
theorem Jl{W : World}(h : laidMetH Tryz.prog [("markup/markupref.words", Rows.laid_markup_markupref_words), ("markup/refs.names", Rows.laid_markup_refs_names), ("markup/refs.named", Rows.laid_markup_refs_named)] W) : bG W ∧ Gl W ∧ 2 < W.heap.size := by
 have d : laidMet Tryz.prog [("markup/markupref.words", Rows.laid_markup_markupref_words), ("markup/refs.names", Rows.laid_markup_refs_names), ("markup/refs.named", Rows.laid_markup_refs_named)] W := h;have f : laidMetH Tryz.prog [("markup/refs.names", Rows.laid_markup_refs_names), ("markup/refs.named", Rows.laid_markup_refs_named)] W := d.tail;have g : W.var? Tryz.prog "markup/markupref.words" = some (([[108, 116, 59, 60], [103, 116, 59, 62], [97, 109, 112, 59, 38], [113, 117, 111, 116, 59, 34], [97, 112, 111, 115, 59, 39]] : List Bs).map fun z => Value.string ⟨z.toArray⟩).toArray := by
  obtain⟨ps,⟨j,k,l,e,p,q,b,c,a,hd,_,_⟩,_⟩:=d;obtain rfl:=Option.some.inj (AJ.symm.trans b);obtain rfl:=Option.some.inj (Jk.symm.trans c);rw[a,←Ak (zs:=[[108,116,59,60],[103,116,59,62],[97,109,112,59,38],[113,117,111,116,59,34],[97,112,111,115,59,39]]) underlying183 underlying9 qF Am hd]
 refine⟨fun i=>?_,tables f⟩;rw[World.var?_cell AJ g i];simp[Px,sv]
end Go.Proofs.YtmgfijllcdadgaaGreatDoor.V
namespace Go.Proofs.YtmgfijllcdadgaaGreatDoor
open Go.ChangeShapes Go.WideShapes Go.ChangeAt Go.RowKit
open Mk (St Bs Ev aD)
theorem AK{H:Type}{enc:TypeId×Value→H}{P:Program}(i:laidOutB P=true){W j:World}(k:Below W.heap.size W j){sp:Nat→Bool}:
 ∀{ts:List TypeId} {vs:List Value} {g:List (DataW H)} {ps:List MemPlace},(∀t∈ts,P.readableRec t=true∧t<P.types.size)→(∀q∈ps,q.block<W.heap.size)→(∀q∈ps,sp q.block=true)→
  DataW.TrodAll enc P W 0 (fun _=>true) true ts vs g ps→DataW.TrodAll enc P j 0 sp true ts vs g ps
 |[],[],[],_,_,_,_,h=>h
 |t::ts,v::vs,d::g,ps,l,b,c,⟨p,q,m,n,e⟩=>by
  subst e;refine⟨p,q,?_,AK i k (fun t f=>l t (List.mem_cons_of_mem _ f)) (fun x a=>b x (List.mem_append_right _ a)) (fun x a=>c x (List.mem_append_right _ a)) n,rfl⟩;have f:=l t List.mem_cons_self;exact WideElems.Trod_stays i f.1 f.2 m (fun x a=>k.same (b x (List.mem_append_left _ a))) (fun x a=>c x (List.mem_append_left _ a))
end Go.Proofs.YtmgfijllcdadgaaGreatDoor
namespace Go.Proofs.YtmgfijllcdadgaaGreatDoor.V
open Go.RowKit
open Mk (Bs Ev aD)
open Go.Proofs.Tryz
variable {w:World}{base size n:Nat}{e:TypeId}{d:List Value}{v:Value}
theorem sZ{d g:Type}(f:d→List g)(m:Nat)(b:∀a,(f a).length=m):∀(l:List d) (k:Nat) (h:k<l.length) (j:Nat),j<m→(l.flatMap f)[k*m+j]?=(f l[k])[j]?
 |a::l,0,_,j,c=>by simp only[List.flatMap_cons,Nat.zero_mul,Nat.zero_add,List.getElem_cons_zero];rw[List.getElem?_append_left (by rw[b];exact c)]
 |a::l,k+1,h,j,c=>by
  simp only[List.flatMap_cons,List.getElem_cons_succ];have e:(k+1)*m+j=(f a).length+(k*m+j):=by rw[b,Nat.succ_mul];omega
  rw[e,List.getElem?_append_right (by omega),Nat.add_sub_cancel_left];exact sZ f m b l k (by simpa using h) j c
theorem Jm{g c:Nat}(h:w.ownsRow base e size (.slice (some ⟨g,0,none⟩) n c) n d)(j:Nat)(f:j<n*size):w.cell? ⟨g,j,none⟩=d[j]?:=by
 rcases h.2 with⟨i,_⟩|⟨p,cap,b,k,q,l,m,_,o,a⟩
 .cases i
 cases k;rw[cell_of_row w g j b _ _ l,←a,List.getElem?_take_of_lt f];simp
theorem kN{m:Nat}{d:Type}(f:d→List Value)(o:∀a,(f a).length=m){l:List d}(s:0<m)(h:w.ownsRow base e m v n (l.flatMap f))(t:n=l.length)(k:Nat)(p:k<l.length):
 ∃g c,v=.slice (some ⟨g,0,none⟩) n c∧g<w.heap.size∧∀j,j<m→w.cell? ⟨g,k*m+j,none⟩=(f l[k])[j]?:=by
 obtain⟨g,c,i,_,b⟩:=World.ownsRow.form h (by omega);refine⟨g,c,i,b,fun j q=>?_⟩;subst i;rw[Jm h (k*m+j) ?_]
 .exact sZ f m o l k p j q
 have r:(k+1)*m≤n*m:=Nat.mul_le_mul_right _ (by omega);rw[Nat.succ_mul]at r;omega
theorem b_(h:w.ownsRow base e size v n d):∃a c,v=.slice a n c:=by
 rcases h.2 with⟨b,f⟩|⟨g,cap,i,b,_⟩
 .exact⟨none,0,by rw[b,f]⟩
 exact⟨_,_,b⟩
theorem kO{a:List Value}(h:w.ownsRow base e size v n a):n≤9223372036854775807:=by
 rcases h.2 with⟨_,d⟩|⟨g,cap,b,_,_,_,f,c,_⟩
 .omega
 unfold maxLen at c;omega
theorem Jo(a:List aD)(b:Bs)(k:Nat)(h:k<a.length):Rf.has (a.drop k) b=(decide (a[k].name=b)||Rf.has (a.drop (k+1)) b):=by
 unfold Rf.has;rw[List.drop_eq_getElem_cons h,List.any_cons]
theorem r_{a:List aD}(j:w.ownsRow base 69 3 v a.length (aV a))(b:Bs):
 Calls Tryz.prog 205 #[v,.string ⟨b.toArray⟩] w fun e w' =>e=.returned (.bool (Rf.has a b))∧w' =w:=by
 have y:=kO j;have g:=aB (fun k r=>kN bZ (fun _=>rfl) (by decide) j rfl k r);obtain⟨z,A,rfl⟩:=b_ j;obtain⟨c,d⟩:∃c,c=Rf.has a b:=⟨_,rfl⟩;rw[←d];have m:Hid (c=Rf.has (a.drop 0) b):=d;clear j d;go_enter func205,ntmps205
 go_wp2
 go_loop [5] (fun i=>∃k:Nat,k≤a.length∧i=.int .i64 k∧Hid (c=Rf.has (a.drop k) b)) (fun i=>a.length - (intOf i).toNat)
 case atStart=>exact⟨0,by omega,rfl,m⟩
 case round=>
  obtain⟨k,r,rfl,l⟩:=hrel;by_cases h:k<a.length
  .obtain⟨B,C,n,_,s⟩:=(aA g) k h;injection n with n _ o;subst n;subst o;have p:=s 0 (by decide);simp[bZ]at p;have hd:=Jo a b k h;have f:=aB ((aA l).trans hd);clear s g m l hd;generalize a[k]=x at *;have u:decide ((k:Int)<(a.length:Int))=true:=by simp;omega
   cases t:(x.name==b)
   .have q:decide (x.name=b)=false:=by simpa using t
    rw[q,Bool.false_or]at f;go_wp2
    go_round
    case rel=>exact⟨k+1,by omega,by go_num,f⟩
    case measure=>simp[intOf];omega
   have q:decide (x.name=b)=true:=by simpa using t
   rw[q,Bool.true_or]at f;go_wp2
   go_ret;exact⟨by rw[aA f];rfl,rfl⟩
  have u:decide ((k:Int)<(a.length:Int))=false:=by simp;omega
  have hfin:Hid (c=false):=(show c=false by rw[aA l,List.drop_of_length_le (by omega)];rfl);clear g m l;go_wp2
  go_ret;exact⟨by rw[aA hfin];rfl,rfl⟩
end Go.Proofs.YtmgfijllcdadgaaGreatDoor.V
namespace Rf
open Mk (Bs aD Ev)
def esc(b:UInt8):Bs:=if b=60 then[38,108,116,59]else if b=62 then[38,103,116,59]else if b=38 then[38,97,109,112,59]else if b=13 then[38,35,49,51,59]else[b]
def qM(b:UInt8):Bs:=if esc b=[34]then[38,113,117,111,116,59]else if esc b=[9]then[38,35,57,59]else if esc b=[10]then[38,35,49,48,59]else esc b
def plain(s:Bs)(value:Bool):Bs:=s.flatMap fun b=>if value then qM b else esc b
def ko(a:aD):Bs:=[32]++a.name++[61,34]++plain a.val true++[34]
def tag(binds:Bs)(e:Ev):Bs:=[60]++e.name++binds++e.aC.flatMap ko++[62]
def one(binds:Bs)(e:Ev):Bs:=
 if e.kind=1 then tag binds e
 else if e.kind=2 then[60,47]++e.name++[62]
 else if e.kind=3 then plain e.val false
 else if e.kind=4 then[60,33,45,45]++e.val++[45,45,62]
 else if e.kind=5 then[60,63]++e.name++(if e.val=[]then[]else[32]++e.val)++[63,62]
 else[]
def tj(n:Bs):Bs:=if n=[]then[120,109,108,110,115]else[120,109,108,110,115,58]++n
def iD(e:Ev):Bs:=[32]++tj e.name++[61,34]++plain e.val true++[34]
def mW:List Ev→Bs→Bs→Bs
 |[],_,out=>out
 |e::l,binds,out=>mW l (if e.kind=6 then binds++iD e else[]) (out++one binds e)
def writes(l:List Ev):Bs:=mW l [] []
def fT:List aD→List aD→Bool
 |[],[]=>true
 |a::l,b::m=>decide (a.name=b.name)&&decide (a.space=b.space)&&decide (a.val=b.val)&&fT l m
 |_,_=>false
def Pz(x y:Ev):Bool:=fT x.aC y.aC&&decide (x.kind=y.kind)&&decide (x.name=y.name)&&decide (x.space=y.space)&&decide (x.val=y.val)
def same:List Ev→List Ev→Bool
 |[],[]=>true
 |a::l,b::m=>Pz a b&&same l m
 |_,_=>false
theorem AL:∀l m:List aD,fT l m=true↔l=m
 |[],[]=>by simp[fT]
 |[],_::_=>by simp[fT]
 |_::_,[]=>by simp[fT]
 |⟨n,s,v⟩::l,⟨a,b,c⟩::m=>by
  simp only[fT,Bool.and_eq_true,decide_eq_true_eq,AL l m,List.cons.injEq,aD.mk.injEq,and_assoc]
theorem Jp(x y:Ev):Pz x y=true↔x=y:=by
 obtain⟨k,n,s,v,a⟩:=x;obtain⟨g,h,i,j,l⟩:=y;simp only[Pz,Bool.and_eq_true,decide_eq_true_eq,AL,Ev.mk.injEq,and_assoc];constructor
 .rintro⟨b,c,d,e,f⟩;exact⟨c,d,e,f,b⟩
 rintro⟨c,d,e,f,b⟩;exact⟨b,c,d,e,f⟩
theorem same_iff:∀l m:List Ev,same l m=true↔l=m
 |[],[]=>by simp[same]
 |[],_::_=>by simp[same]
 |_::_,[]=>by simp[same]
 |x::l,y::m=>by simp only[same,Bool.and_eq_true,Jp,same_iff l m,List.cons.injEq]
def allowed(od oa ot:Int):Bool:=if decide (od<1)||decide (64<od)||decide (oa<0)||decide (32<oa)then false else decide (8≤ot)&&decide (ot≤1024)
def write(od oa ot:Int)(on:Bool)(l:List Ev):Bs×Int:=
 if allowed od oa ot then
  (if(read od oa ot on (writes l)).whole&&same (joined (read od oa ot on (writes l)).events) l then(writes l,0)else([],11))
 else([],1)
end Rf
namespace Go.Proofs.YtmgfijllcdadgaaGreatDoor.V
open Go.RowKit
open Mk (Bs Ev aD)
open Rf (R)
variable {l:List aD}{base:Nat}
structure cJ(lo hi:Nat)(w:World)(v:Value)(l:List aD):Prop where
 form:∃a c,v=.slice a l.length c∧∀k (hk:k<l.length),∃g o,a=some ⟨g,o,none⟩∧(lo≤g∧g<hi∧g<w.heap.size)∧∀j,j<3→w.cell? ⟨g,o+k*3+j,none⟩=(bZ l[k])[j]?
 len:l.length≤9223372036854775807
structure bN(lo hi:Nat)(w:World)(v:Value)(l:List Ev):Prop where
 form:∃a c,v=.slice a l.length c∧∀k (hk:k<l.length),∃g o va,a=some ⟨g,o,none⟩∧g<w.heap.size∧(∀j,j<5→w.cell? ⟨g,o+k*5+j,none⟩=(bP l[k] va)[j]?)∧cJ lo hi w va l[k].aC
 len:l.length≤9223372036854775807
section
variable {w w' :World}{v:Value}{lo hi:Nat}
theorem fU{g i:Nat}(h:w'.heap[g]?=w.heap[g]?):w'.cell? ⟨g,i,none⟩=w.cell? ⟨g,i,none⟩:=by simp only[World.cell?];rw[h]
theorem cJ.keep(h:cJ lo hi w v l)(e:∀g,lo≤g→g<hi→g<w.heap.size→w'.heap[g]?=w.heap[g]?)(f:w.heap.size≤w'.heap.size):cJ lo hi w' v l:=by
 obtain⟨a,c,i,m⟩:=h.form;refine⟨⟨a,c,i,fun k d=>?_⟩,h.len⟩;obtain⟨g,o,n,b,p⟩:=m k d;exact⟨g,o,n,⟨b.1,b.2.1,Nat.lt_of_lt_of_le b.2.2 f⟩,fun j q=>by rw[fU (e g b.1 b.2.1 b.2.2)];exact p j q⟩
theorem cJ.low{b:Nat}(h:cJ lo hi w v l)(f:b≤lo):cJ b hi w v l:=by
 obtain⟨a,c,i,j⟩:=h.form;refine⟨⟨a,c,i,fun k d=>?_⟩,h.len⟩;obtain⟨g,o,m,e,n⟩:=j k d;exact⟨g,o,m,⟨Nat.le_trans f e.1,e.2⟩,n⟩
theorem cJ.high(h:cJ lo hi w v l):cJ lo w.heap.size w v l:=by
 obtain⟨a,c,e,f⟩:=h.form;refine⟨⟨a,c,e,fun k b=>?_⟩,h.len⟩;obtain⟨g,o,i,d,j⟩:=f k b;exact⟨g,o,i,⟨d.1,d.2.2,d.2.2⟩,j⟩
theorem cJ.below(h:cJ lo hi w v l)(a:Below w.heap.size w w'):cJ lo hi w' v l:=h.keep (fun g _ _ b=>a.block g b) a.size
theorem bN.below{l:List Ev}(h:bN lo hi w v l)(b:Below w.heap.size w w'):bN lo hi w' v l:=by
 obtain⟨a,c,f,i⟩:=h.form;refine⟨⟨a,c,f,fun k d=>?_⟩,h.len⟩;obtain⟨g,o,m,n,e,p,q⟩:=i k d;exact⟨g,o,m,n,Nat.lt_of_lt_of_le e b.size,fun j r=>by rw[fU (b.block g e)];exact p j r,q.below b⟩
theorem below_drewN(w:World)(n:Nat):Below w.heap.size w (w.drewN n):=⟨rfl,rfl,rfl,Nat.le_of_eq (by rw[heap_drewN]),fun _ _=>by rw[heap_drewN]⟩
theorem cJ.drewN{l:List aD}(h:cJ lo hi w v l)(n:Nat):cJ lo hi (w.drewN n) v l:=h.below (below_drewN w n)
theorem cJ.of(h:w.ownsRow base 69 3 v l.length (aV l)):cJ base w.heap.size w v l:=by
 obtain⟨a,c,rfl⟩:=b_ h;refine⟨⟨a,c,rfl,fun k f=>?_⟩,kO h⟩;obtain⟨g,d,b,e,i⟩:=kN bZ (fun _=>rfl) (by decide) h rfl k f;have m:base≤g:=(World.ownsRow.lt h g (by rw[b];rfl)).1;injection b with b _ _;exact⟨g,0,b,⟨m,e,e⟩,fun j n=>by rw[Nat.zero_add];exact i j n⟩
theorem bN.of{b:List (Ev×Value)}(h:w.ownsRow base 65 5 v b.length (bA b))(i:∀p∈b,cJ lo hi w p.2 p.1.aC):bN lo hi w v (b.map (·.1)):=by
 obtain⟨a,c,rfl⟩:=b_ h;refine⟨⟨a,c,by rw[List.length_map],fun k e=>?_⟩,by rw[List.length_map];exact kO h⟩;rw[List.length_map]at e;obtain⟨g,d,f,m,n⟩:=kN (l:=b) (fun p=>bP p.1 p.2) (fun _=>rfl) (by decide) h rfl k e;injection f with f _ _;refine⟨g,0,b[k].2,f,m,fun j o=>?_,?_⟩
 .rw[Nat.zero_add,List.getElem_map];exact n j o
 rw[List.getElem_map];exact i _ (List.getElem_mem e)
theorem bN.drop{l:List Ev}{g o c:Nat}(h:bN lo hi w (.slice (some ⟨g,o,none⟩) l.length c) l)(n:Nat)(t:n≤l.length):bN lo hi w (.slice (some ⟨g,o+n*5,none⟩) (l.drop n).length (c - n)) (l.drop n):=by
 obtain⟨a,u,d,f⟩:=h.form;injection d with d _ _;have v:=h.len;refine⟨⟨_,_,rfl,fun k e=>?_⟩,by rw[List.length_drop];omega⟩;rw[List.length_drop]at e;obtain⟨x,y,i,b,m,p,q⟩:=f (n+k) (by omega);rw[←d]at b;injection b with b;injection b with b r _;subst b r;refine⟨g,o+n*5,i,rfl,m,fun j s=>?_,?_⟩
 .have:=p j s;rw[show o+(n+k)*5+j=o+n*5+k*5+j by omega]at this;rw[this,List.getElem_drop]
 rw[List.getElem_drop];exact q
end
end Go.Proofs.YtmgfijllcdadgaaGreatDoor.V
namespace Go.Proofs.YtmgfijllcdadgaaGreatDoor.V
open Go.ChangeShapes Go.WideShapes Go.ChangeAt Go.RowKit Go.Deep
open Mk (St Bs Ev aD)
open Go.Proofs.Tryz
variable {H:Type}{v:Value}{p:List MemPlace}
theorem Jq(D:Nat→DataW H):∀n,Rows.uptoBulkAll ((List.range n).map D)=((List.range n).map fun i=>Rows.uptoBulk (D i)).sum:=by
 have h:∀l:List Nat,Rows.uptoBulkAll (l.map D)=(l.map fun i=>Rows.uptoBulk (D i)).sum:=by
  intro l;induction l with
  |nil=>simp[Rows.uptoBulkAll]
  |cons x r ih=>simp[Rows.uptoBulkAll,ih]
 exact fun n=>h _
theorem AO(f g:Nat→Nat):∀n,(∀i,i<n→f i≤g i)→((List.range n).map f).sum≤((List.range n).map g).sum
 |0,_=>by simp
 |n+1,h=>by
  have a:=AO f g n fun i b=>h i (by omega)
  have c:=h n (by omega);simp only[List.range_succ,List.map_append,List.sum_append,List.map_cons,List.map_nil,List.sum_cons,List.sum_nil];omega
theorem AP(g o n:Nat):(⟨g,o,none⟩:Addr).add n=⟨g,o+n,none⟩:=by
 unfold Addr.add;split<;>simp_all
theorem wB{w:Type}{enc:TypeId×Value→H}{P:Program}{W:World}{sp:Nat→Bool}{t e:TypeId}{k:Nat}(cells:w→List Value)(size:w→Nat)(Q:w→Prop)(S:P.underlying t=some (.slice e))(R:P.cellsOf e=k)(z:0<k)
 (A:∀n B d p,DataW.trod enc P W 0 sp true n e B=some (d,p)→∃x:w,B=cells x∧size x≤Rows.uptoBulk d∧Q x)
 {C:Nat} {d:DataW H} (h:DataW.trod enc P W 0 sp true C t [v]=some (d,p)):
 ∃(l:List w) (a:Option Addr) (c:Nat),v=.slice a l.length c∧l.length≤maxLen∧(∀i (r:i<l.length),∃g o,a=some ⟨g,o,none⟩∧g<W.heap.size∧∀j,j<k→W.cell? ⟨g,o+i*k+j,none⟩=(cells l[i])[j]?)∧(l.map size).sum+1≤Rows.uptoBulk d∧∀x∈l,Q x:=by
 rcases open_slice S h with⟨E,f⟩|⟨a,len,cap,m,n,D,Pl,E,_,hl,hm,K,f,u⟩
 .simp at E f;obtain⟨rfl,rfl⟩:=f;exact⟨[],none,0,E,by simp,fun i r=>(by cases r),by simp[Rows.uptoBulk],fun x f=>(by cases f)⟩
 simp at E f;subst E;obtain⟨rfl,rfl⟩:=f;have T:len≤m:=by rw[K];split<;>omega
 have b:0<len→a.spot=none:=fun h0=>by
  obtain⟨B,q,I⟩:=u 0 (by omega);rw[R]at q;obtain⟨_,F,L⟩:=World.cells?_some q;have J:=L 0 z;rw[List.getElem?_eq_getElem (by omega:0<B.length)]at J;simpa[Addr.add]using World.cell?_spot J
 obtain⟨g,o,s⟩:=a;have y:∀i,i<len→∃x:w,(∀j,j<k→W.cell? ⟨g,o+i*k+j,none⟩=(cells x)[j]?)∧(cells x).length=k∧size x≤Rows.uptoBulk (D i)∧Q x:=fun i r=>by
  obtain⟨B,q,I⟩:=u i (by omega);rw[R]at q;obtain⟨_,F,L⟩:=World.cells?_some q;obtain⟨x,rfl,J,Y⟩:=A _ _ _ _ I;refine⟨x,fun j M=>?_,F,J,Y⟩;have N:s=none:=b (by omega);subst N;rw[←L j M,AP,AP]
 have O:∃X:Fin len→w,∀i:Fin len,(∀j,j<k→W.cell? ⟨g,o+i.1*k+j,none⟩=(cells (X i))[j]?)∧(cells (X i)).length=k∧size (X i)≤Rows.uptoBulk (D i.1)∧Q (X i):=
  ⟨fun i=>(y i.1 i.2).choose,fun i=>(y i.1 i.2).choose_spec⟩
 obtain⟨X,y⟩:=O;refine⟨List.ofFn X,some ⟨g,o,s⟩,cap,by simp,by simp;omega,fun i r=>?_,?_,fun x f=>?_⟩
 .have G:i<len:=by simpa using r
  obtain⟨q,I,_⟩:=y ⟨i,G⟩;have N:s=none:=b (by omega);subst N;have F:=q 0 z;rw[List.getElem?_eq_getElem (by omega:0<(cells (X ⟨i,G⟩)).length)]at F;refine⟨g,o,rfl,IE F,fun j M=>?_⟩;rw[List.getElem_ofFn];exact q j M
 .have q:((List.ofFn X).map size).sum≤((List.range len).map fun i=>Rows.uptoBulk (D i)).sum:=by
   have Z:(List.ofFn X).map size=(List.range len).map fun i=>if h:i<len then size (X ⟨i,h⟩)else 0:=by
    apply List.ext_getElem
    .simp
    intro i q1 q2;have:i<len:=by simpa using q2
    simp[this]
   rw[Z];refine AO _ _ len fun i r=>?_
   rw[dif_pos r];exact(y ⟨i,r⟩).2.2.1
  have I:=Jq D len;simp only[Rows.uptoBulk];omega
 obtain⟨i,rfl⟩:=List.mem_ofFn.1 f;exact(y i).2.2.2
theorem AQ:Tryz.prog.cellsOf 69=3:=by kernel_rfl
def iE(x:aD):Nat:=x.name.length+x.space.length+x.val.length+4
variable {H:Type}{enc:TypeId×Value→H}{W:World}{sp:Nat→Bool}
theorem Jr(n:Nat)(a:List Value)(d:DataW H)(p:List MemPlace)(h:DataW.trod enc Tryz.prog W 0 sp true n 69 a=some (d,p)):∃x:aD,a=bZ x∧iE x≤Rows.uptoBulk d∧True:=by
 obtain⟨q,r,s,m,b,c,e,f,g⟩:=trod_struct3 underlying69 h;rw[AQ]at c;match a,c with
 |[t,u,v],_=>
  simp only[qF]at e f g;obtain⟨k,e0,rfl,_⟩:=DataW.trod_string underlying9 e;obtain⟨l,i,rfl,_⟩:=DataW.trod_string underlying9 f;obtain⟨o,j,rfl,_⟩:=DataW.trod_string underlying9 g;simp at e0 i j b;obtain⟨rfl,rfl⟩:=b;refine⟨⟨k.data.toList,l.data.toList,o.data.toList⟩,?_,?_,trivial⟩
  .simp[bZ,e0,i,j]
  simp[iE,Rows.uptoBulk,Rows.uptoBulkAll];omega
theorem Js{b:Nat}{d:DataW H}(h:DataW.trod enc Tryz.prog W 0 sp true b 63 [v]=some (d,p)):∃l:List aD,cJ 0 W.heap.size W v l∧(l.map iE).sum+1≤Rows.uptoBulk d:=by
 obtain⟨l,a,c,f,i,j,m,_⟩:=wB bZ iE (fun _=>True) underlying63 AQ (by decide) Jr h;refine⟨l,⟨⟨a,c,f,fun k n=>?_⟩,by unfold maxLen at i;omega⟩,m⟩;obtain⟨g,o,q,e,r⟩:=j k n;exact⟨g,o,q,⟨Nat.zero_le _,e,e⟩,r⟩
theorem AR:Tryz.prog.cellsOf 65=5:=by kernel_rfl
theorem Jt:Tryz.prog.cellsOf 63=1:=by kernel_rfl
def d_(x:Ev):Nat:=x.name.length+x.space.length+x.val.length+(x.aC.map iE).sum+6
variable {H:Type}{enc:TypeId×Value→H}{W:World}{sp:Nat→Bool}
theorem Ju(n:Nat)(c:List Value)(d:DataW H)(p:List MemPlace)(h:DataW.trod enc Tryz.prog W 0 sp true n 65 c=some (d,p)):∃x:Ev×Value,c=bP x.1 x.2∧d_ x.1≤Rows.uptoBulk d∧cJ 0 W.heap.size W x.2 x.1.aC:=by
 obtain⟨w,m,_,f,g,a,b⟩:=DataW.trod_struct underlying65 h;rw[AR]at g;match c,g with
 |[E,F,G,I,i],_=>
  match w,a with
  |[J,K,L,M,y],_=>
   have j:=b 0 _ rfl;have k:=b 1 _ rfl;have o:=b 2 _ rfl;have q:=b 3 _ rfl;have r:=b 4 _ rfl;simp[qF,sS,Jt]at j k o q r;obtain⟨z,e0,e⟩:=DataW.trod_int underlying3 j;obtain⟨A,s,rfl,_⟩:=DataW.trod_string underlying9 k;obtain⟨B,t,rfl,_⟩:=DataW.trod_string underlying9 o;obtain⟨C,u,rfl,_⟩:=DataW.trod_string underlying9 q;obtain⟨N,O⟩:=y;obtain⟨l,D,P⟩:=Js (v:=i) r;simp at f e0 s t u;obtain⟨rfl,rfl⟩:=f;refine⟨(⟨z,A.data.toList,B.data.toList,C.data.toList,l⟩,i),?_,?_,D⟩
   .simp[bP,e0,s,t,u]
   obtain⟨rfl,_⟩:=e;simp[d_,Rows.uptoBulk,Rows.uptoBulkAll];omega
theorem Jv{b:Nat}{d:DataW H}(h:DataW.trod enc Tryz.prog W 0 sp true b 29 [v]=some (d,p)):∃l:List Ev,bN 0 W.heap.size W v l∧(l.map d_).sum+1≤Rows.uptoBulk d:=by
 obtain⟨l,a,c,f,i,m,n,q⟩:=wB (fun x:Ev×Value=>bP x.1 x.2) (fun x=>d_ x.1) (fun x=>cJ 0 W.heap.size W x.2 x.1.aC) underlying29 AR (by decide) Ju h;refine⟨l.map (·.1),⟨⟨a,c,by rw[List.length_map];exact f,fun k e=>?_⟩,by unfold maxLen at i;rw[List.length_map];omega⟩,by rw[List.map_map];exact n⟩;rw[List.length_map]at e;obtain⟨g,o,r,s,t⟩:=m k e;refine⟨g,o,l[k].2,r,s,fun j u=>?_,?_⟩
 .rw[List.getElem_map];exact t j u
 rw[List.getElem_map];exact q _ (List.getElem_mem e)
end Go.Proofs.YtmgfijllcdadgaaGreatDoor.V
