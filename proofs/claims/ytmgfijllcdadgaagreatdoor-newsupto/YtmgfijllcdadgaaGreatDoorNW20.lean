import Derived.Test.YtmgfijllcdadgaaGreatDoorNW19
import Derived.Test.YtmgfijllcdadgaaGreatDoorNW16
import Derived.Deep.CutBlock
import Derived.Deep.DeepCutAuto
set_option linter.unusedVariables false
set_option linter.unusedSimpArgs false
set_option maxHeartbeats 16000000
set_option maxRecDepth 100000
namespace Go.Proofs.YtmgfijllcdadgaaGreatDoor.V
open Go.RowKit
open Mk (Bs Ev aD)
open Rf (R)
open Go.Proofs.Tryz
open Rf (jB pu jA kI)
variable {a:List aD}{base size n:Nat}{w:World}{v:Value}{e:TypeId}
def beside(tags:List (List aD))(loc mine:Bs)(l:List aD):Bool:=l.all fun b=> !(!(Rf.declaration b.name).2&&decide ((Rf.parts b.name).2.1=loc)&&decide (Rf.aZ tags (Rf.parts b.name).1=mine))
theorem JK{b:List (List aD)}{i:Nat}(h:i<a.length):jB b a i=
 if !(Rf.parts a[i].name).2.2 then false
 else if(Rf.declaration a[i].name).2 then pu (Rf.declaration a[i].name).1 a[i].val
 else if !(Rf.bound b (Rf.parts a[i].name).1).2 then false
 else beside b (Rf.parts a[i].name).2.1 (Rf.aZ b (Rf.parts a[i].name).1) (a.take i):=by
 unfold jB;rw[List.getElem?_eq_getElem h];rfl
theorem JL{b:List (List aD)}{d c:Bs}{i k:Nat}(h:k<i)(f:i≤a.length):beside b d c ((a.take i).drop k)=(!(!(Rf.declaration (a[k]'(by omega)).name).2&&decide ((Rf.parts (a[k]'(by omega)).name).2.1=d)&&decide (Rf.aZ b (Rf.parts (a[k]'(by omega)).name).1=c))&&beside b d c ((a.take i).drop (k+1))):=by
 have e:k<(a.take i).length:=by simp;omega
 rw[List.drop_eq_getElem_cons e];unfold beside;rw[List.all_cons];simp
theorem JM{va:Value}{T:List (List aD×Value)}(h:mX w base v T)(X:w.ownsRow base 69 3 va a.length (aV a))(O:Sh a)(i:Nat)(Y:i<a.length):
 Calls Tryz.prog 161 #[v,va,.int .i64 i] w fun e w' =>e=.returned (.bool (jB (T.map (·.1)) a i))∧∃n,w' =w.drewN n:=by
 have hl:=kO X;have B:=aB (fun k M=>kN bZ (fun _=>rfl) (by decide) X rfl k M);have Z:=aB (fun(k:Nat) (M:k<a.length) (w:World)=>tu a[k].name (O a[k] (List.getElem_mem M)) w);have HD:=aB (fun(k:Nat) (M:k<a.length) (w:World)=>tv a[k].name (O a[k] (List.getElem_mem M)) w);have HB:=aB (fun(p:Bs) (m:Nat)=>tC (h.drewN m) p);have HS:=aB (fun(p:Bs) (m:Nat)=>oQ (h.drewN m) p);obtain⟨a1,c1,rfl⟩:=b_ X;obtain⟨a2,c2,rfl⟩:=b_ h.row;obtain⟨c,b⟩:∃c,c=jB (T.map (·.1)) a i:=⟨_,rfl⟩;rw[←b];rw[JK Y]at b;clear h X;obtain⟨N,d1,f1,_,q1⟩:=(aA B) i Y;injection f1 with f1 _ a0;subst f1;subst a0;have C:=q1 0 (by decide);have P:=q1 2 (by decide);simp[bZ]at C P;have E:∀m,(w.drewN m).cell? ⟨N,i*3,none⟩=w.cell? ⟨N,i*3,none⟩:=fun m=>by simp only[World.cell?,heap_drewN]
 have Q:∀m,(w.drewN m).cell? ⟨N,i*3+2,none⟩=w.cell? ⟨N,i*3+2,none⟩:=fun m=>by simp only[World.cell?,heap_drewN]
 have o:=aB (aA Z i Y);have s:=aB (aA HD i Y);have hx:∀(q:aD),a[i]=q→True:=fun _ _=>trivial
 generalize a[i]=x at *;generalize T.map (·.1)=d at *;have D:=aB (aA HB (Rf.parts x.name).1);have H:=aB (aA HS (Rf.parts x.name).1);have a9:(i:Int)<(a.length:Int):=by omega
 generalize Rf.parts x.name=pr at *;obtain⟨px,F,a3⟩:=pr;generalize Rf.declaration x.name=dr at *;obtain⟨pd,a4⟩:=dr;have R:=aB (fun w=>JI pd x.val w);generalize pu pd x.val=a5 at *;generalize aa:Rf.bound d px=bd at *;obtain⟨bv,I⟩:=bd;clear q1 hx;simp only at b o s D H;cases a3 with
 |false=>
  have G:=aB (show c=false from b);clear b;go_enter func161,ntmps161
  go_wp2_with(first
   |(go_at_call 159;refine(aA o _).mono ?_;rintro e w' ⟨rfl,n1,rfl⟩))
  go_ret;exact⟨by rw[aA G];rfl,_,rfl⟩
 |true=>
  cases a4 with
  |true=>
   have G:=aB (show c=a5 from b);clear b;go_enter func161,ntmps161
   go_wp2_with(first
    |(go_at_call 159;refine(aA o _).mono ?_;rintro e w' ⟨rfl,n1,rfl⟩)
    |(go_at_call 162;refine(aA s _).mono ?_;rintro e w' ⟨rfl,r⟩;obtain rfl:=r.symm)
    |(go_at_call 207;refine(aA R _).mono ?_;rintro e w' ⟨rfl,n2,rfl⟩))
   go_ret;exact⟨by rw[aA G];rfl,_,rfl⟩
  |false=>
   cases I with
   |false=>
    have G:=aB (show c=false from b);clear b;go_enter func161,ntmps161
    go_wp2_with(first
     |(go_at_call 159;refine(aA o _).mono ?_;rintro e w' ⟨rfl,n1,rfl⟩)
     |(go_at_call 162;refine(aA s _).mono ?_;rintro e w' ⟨rfl,r⟩;obtain rfl:=r.symm)
     |(go_at_call 160;refine(aA D _).mono ?_;rintro e w' ⟨rfl,n2,rfl⟩))
    go_ret;exact⟨by rw[aA G];rfl,_,rfl⟩
   |true=>
    generalize Rf.aZ d px=f at *;have G:=aB (show c=beside d F f ((a.take i).drop 0)from b);clear b;go_enter func161,ntmps161
    go_wp2_with(first
     |(go_at_call 159;refine(aA o _).mono ?_;rintro e w' ⟨rfl,n1,rfl⟩)
     |(go_at_call 162;refine(aA s _).mono ?_;rintro e w' ⟨rfl,r⟩;obtain rfl:=r.symm)
     |(go_at_call 160;refine(aA D _).mono ?_;rintro e w' ⟨rfl,n2,rfl⟩)
     |(go_at_call 163;refine(aA H _).mono ?_;rintro e w' ⟨rfl,n3,rfl⟩))
    go_loopg [15] i (fun g a6 wx=>∃k n:Nat,wx=w.drewN n∧k≤i∧g=i - k∧a6=.int .i64 k∧Hid (c=beside d F f ((a.take i).drop k)))
    case atStart=>exact⟨0,_,rfl,by omega,rfl,rfl,G⟩
    case round=>
     obtain⟨k,n,rfl,M,rfl,rfl,HK⟩:=hrel;clear G o s D H R C P E Q;by_cases a7:k<i
     .obtain⟨g2,d2,J,_,q2⟩:=(aA B) k (by omega);injection J with J _ a8;injection J with J;injection J with J;subst J;subst a8;have C:=q2 0 (by decide);simp[bZ]at C;have E:∀m,(w.drewN m).cell? ⟨N,k*3,none⟩=w.cell? ⟨N,k*3,none⟩:=fun m=>by simp only[World.cell?,heap_drewN]
      have j:=aB ((aA HK).trans (JL a7 (by omega)));have t:=aB (aA Z k (by omega));have u:=aB (aA HD k (by omega));have e1:decide ((k:Int)<(i:Int))=true:=by simp;omega
      have ab:(k:Int)<(a.length:Int):=by omega
      clear q2 B HK Z HD;generalize a[k]'(by omega)=y at *;have z:=aB (aA HS (Rf.parts y.name).1);generalize Rf.parts y.name=pr at *;obtain⟨qy,oy,ky⟩:=pr;generalize Rf.declaration y.name=dr at *;obtain⟨dy,S⟩:=dr;simp only at j t u z;generalize Rf.aZ d qy=K at *;clear HS HB;cases S with
      |true=>
       have l:Hid (c=beside d F f ((a.take i).drop (k+1))):=aB (by have:=aA j;simpa using this);clear j
       go_wp2_with(first
        |(go_at_call 159;refine(aA t _).mono ?_;rintro e w' ⟨rfl,m1,rfl⟩)
        |(go_at_call 162;refine(aA u _).mono ?_;rintro e w' ⟨rfl,r⟩;obtain rfl:=r.symm)
        |(go_at_call 163;refine(aA z _).mono ?_;rintro e w' ⟨rfl,m3,rfl⟩))
       go_roundg (i - (k+1))
       case measure=>omega
       case rel=>exact⟨k+1,_,rfl,by omega,rfl,by go_num,l⟩
      |false=>
       cases h3:(oy==F)
       .have L:decide (oy=F)=false:=by simpa using h3
        have l:Hid (c=beside d F f ((a.take i).drop (k+1))):=aB (by have:=aA j;rw[L]at this;simpa using this);clear j L
        go_wp2_with(first
         |(go_at_call 159;refine(aA t _).mono ?_;rintro e w' ⟨rfl,m1,rfl⟩)
         |(go_at_call 162;refine(aA u _).mono ?_;rintro e w' ⟨rfl,r⟩;obtain rfl:=r.symm)
         |(go_at_call 163;refine(aA z _).mono ?_;rintro e w' ⟨rfl,m3,rfl⟩))
        go_roundg (i - (k+1))
        case measure=>omega
        case rel=>exact⟨k+1,_,rfl,by omega,rfl,by go_num,l⟩
       have L:decide (oy=F)=true:=by simpa using h3
       cases h4:(K==f)
       .have A:decide (K=f)=false:=by simpa using h4
        have l:Hid (c=beside d F f ((a.take i).drop (k+1))):=aB (by have:=aA j;rw[L,A]at this;simpa using this);clear j L A
        go_wp2_with(first
         |(go_at_call 159;refine(aA t _).mono ?_;rintro e w' ⟨rfl,m1,rfl⟩)
         |(go_at_call 162;refine(aA u _).mono ?_;rintro e w' ⟨rfl,r⟩;obtain rfl:=r.symm)
         |(go_at_call 163;refine(aA z _).mono ?_;rintro e w' ⟨rfl,m3,rfl⟩))
        go_roundg (i - (k+1))
        case measure=>omega
        case rel=>exact⟨k+1,_,rfl,by omega,rfl,by go_num,l⟩
       .have A:decide (K=f)=true:=by simpa using h4
        have l:Hid (c=false):=aB (by have:=aA j;rw[L,A]at this;simpa using this);clear j L A
        go_wp2_with(first
         |(go_at_call 159;refine(aA t _).mono ?_;rintro e w' ⟨rfl,m1,rfl⟩)
         |(go_at_call 162;refine(aA u _).mono ?_;rintro e w' ⟨rfl,r⟩;obtain rfl:=r.symm)
         |(go_at_call 163;refine(aA z _).mono ?_;rintro e w' ⟨rfl,m3,rfl⟩))
        go_ret;exact⟨by rw[aA l];rfl,_,rfl⟩
     have e1:decide ((k:Int)<(i:Int))=false:=by simp;omega
     have hfin:Hid (c=true):=(show c=true by rw[aA HK,List.drop_of_length_le (by simp;omega)];rfl);clear B HK Z HD HB HS;go_wp2
     go_ret;exact⟨by rw[aA hfin];rfl,_,rfl⟩
theorem pI:(Tryz.prog.info? 63).map (fun i=>(i.zero,i.size,i.bytes))=some (some (.slice none 0 0),1,24):=by kernel_rfl
theorem nS{base' :Nat}{b:List Value}(h:w.ownsRow base e size v n b)(f:base' ≤base):w.ownsRow base' e size v n b:=by
 refine⟨h.1,?_⟩;rcases h.2 with g|⟨g,cap,a,c,i,d⟩
 .exact .inl g
 exact .inr ⟨g,cap,a,c,by omega,d⟩
theorem tE{w' :World}{a:List Value}(h:w.ownsRow base e size v n a)(b:Below w.heap.size w w'):w'.ownsRow base e size v n a:=
 fP (r:=⟨e,size,v,n,a⟩) h fun k c=>b.block k (World.ownsRow.lt h k c).2
section
variable {w:World}{b:Nat}{s:R}{L:aH}
theorem tF(h:aI w b s L)(c:Bs)(al:c.length≤100000000)(a:List aD)(va:Value)(hrow:w.ownsRow (b+1) 69 3 va a.length (aV a))(a0:Sh a)(a1:∀t∈s.tags,Sh t)(au:s.tags.length≤1000000):
 Calls Tryz.prog 111 #[.pointer (some ⟨b,0,none⟩),.string ⟨c.toArray⟩,va] w fun e w' =>e=.returned (.bool (Rf.qualified s c a))∧Below w.heap.size w w' :=by
 obtain⟨i0,hi,a2,a3,a4⟩:=info_parts pI;have am:=h.lt;have Z:=h.cell;have hf:=h.frozen;have D:=h.je;have M:L.gs.length=s.tags.length:=by rw[←D];simp
 have hR:w.ownsRow (b+1) 63 1 (.slice L.ga s.tags.length L.gc) s.tags.length (L.gs.flatMap fun q=>[q.2]):=by
  rw[wE];exact h.rows.own (bK s L) (by simp[a_])
 have HR:=aB (fun k hk=>kN (fun q:List aD×Value=>[q.2]) (fun _=>rfl) (by decide) hR M.symm k hk);have hT:∀p∈L.gs,w.ownsRow (b+1) 69 3 p.2 p.1.length (aV p.1)∧Sh p.1:=fun p hp=>
  ⟨h.rows.own (dK p) (by simp only[a_,List.mem_cons,List.mem_append,List.mem_map];right;right;right;right;exact⟨p,hp,rfl⟩),a1 p.1 (by rw[←D];exact List.mem_map.2 ⟨p,hp,rfl⟩)⟩
 obtain⟨J,K,rfl⟩:=b_ hrow;have HT:=aB hT;have HA:=aB hrow;obtain⟨f,x⟩:∃f,f=Rf.qualified s c a:=⟨_,rfl⟩;rw[←x];have E:=aB x;unfold aF at Z;clear h hR hT hrow x;go_enter func111,ntmps111
 go_upto_block 0 with fail
 go_cut [7] (fun s7 N=>Hid (Below w.heap.size w N∧N.ownsRow w.heap.size 63 1 s7 s.tags.length (L.gs.map (·.2))))
 case first=>
  go_wp2_with fail
  go_loopg [7,8] s.tags.length (fun g s7 s8 N=>∃k:Nat,k≤s.tags.length∧g=s.tags.length - k∧s8=.int .i64 k∧Hid (Below w.heap.size w N∧N.ownsRow w.heap.size 63 1 s7 k ((L.gs.take k).map (·.2))))
  case atStart=>exact⟨0,by omega,rfl,rfl,aB ⟨Below.refl _ _,World.ownsRow_nil _ _ _ _⟩⟩
  case round=>
   obtain⟨k,hk,rfl,rfl,O⟩:=hrel;obtain⟨j,y⟩:=aA O;obtain⟨a7,c7,rfl⟩:=b_ y;have a5:∀i,wr.cell? ⟨b,i,none⟩=w.cell? ⟨b,i,none⟩:=fun i=>by simp only[World.cell?];rw[j.block b am]
   have aq:b<wr.heap.size:=by have:=j.size;omega
   have aw:∀i,wr.cell? ⟨b,i,none⟩=[.int .i64 s.od,.int .i64 s.oa,.int .i64 s.ot,.bool s.on,.string ⟨s.s.toArray⟩,.int .i64 s.at_,.int .i64 s.stop,.int .i64 s.err,.bool s.whole,.slice L.ea s.events.length L.ec,.slice L.oa s.opn.length L.oc,.slice L.ga s.tags.length L.gc][i]?:=fun i=>(a5 i).trans (Z i)
   clear a5 O Z;by_cases h3:k<s.tags.length
   .have e1:decide ((k:Int)<(s.tags.length:Int))=true:=by simp;omega
    have ax:(k:Int)<(s.tags.length:Int):=by omega
    obtain⟨g1,d1,f1,an,q1⟩:=(aA HR) k (by omega);have p0:=q1 0 (by decide);simp only[Nat.mul_one,Nat.add_zero,List.getElem?_cons_zero]at p0;have ao:wr.cell? ⟨g1,k,none⟩=some (L.gs[k]'(by omega)).2:=by simp only[World.cell?];rw[j.block g1 an];exact p0
    injection f1 with f1 _ ay;obtain⟨av,cv,a6⟩:=b_ (aA HT (L.gs[k]'(by omega)) (List.getElem_mem _)).1;have a8:(L.gs.take (k+1)).map (·.2)=(L.gs.take k).map (·.2)++[(L.gs[k]'(by omega)).2]:=by
     rw[List.take_add_one,List.getElem?_eq_getElem (by omega),List.map_append];rfl
    have a9:=aB a8;rw[a6]at ao a9;generalize(L.gs[k]'(by omega)).1.length=tn at *;have az:g1<wr.heap.size:=by have:=j.size;omega
    have HO:=aB (World.ownsRow.alloc y (.cells #[.slice av tn cv] 63));have HB:=aB (show(wr.alloc (.cells #[.slice av tn cv] 63)).heap[wr.heap.size]?=_ from heap_alloc_new wr _);have F:=aB (show k+1≤maxLen by unfold maxLen;omega);have P:=j.size;have l:=aB (show w.heap.size≤(wr.alloc (.cells #[.slice av tn cv] 63)).heap.size by simp;omega);have o:=aB j;have G:=aB (fun Q e=>(World.ownsRow.lt y Q e).1);clear y j q1 p0 a6 a8 HR HT HA E;go_wp2_with(at_builtin;refine wpList_append_lies _ rfl _ _ 109 rfl w.heap.size 63 i0 _ 1 24 underlying109 hi a2 a3 a4 rfl (by decide) (.slice a7 k c7) k ((L.gs.take k).map (·.2)) (by simp[Act.eval]) (aA HO) ⟨wr.heap.size,0,none⟩ 1 1 [.slice av tn cv] (by simp[Act.eval]) rfl (World.news_of_block (aA HB)) (by intro u hu;simp at hu;subst hu;rfl) (by decide) (aA F) (by omega) (aA l) (wr.heap.size+1) (by simp) ?_;intro g2 cap w2 hown hgrow z ab;have HOW:=aB hown;have H:=aB hgrow;have ad:=aB z;clear hown hgrow z)
    go_roundg (s.tags.length - (k+1))
    case measure=>omega
    case rel=>
     refine⟨k+1,by omega,rfl,by go_num,aB ⟨?_,?_⟩⟩
     .exact((aA o).alloc P _).grown (aA H) (aA l) (fun Q e=>aA G Q e)
     have:=aA HOW;rw[aA a9];simpa using this
   have e1:decide ((k:Int)<(s.tags.length:Int))=false:=by simp;omega
   have ae:k=s.tags.length:=by omega
   have HO:=aB (show wr.ownsRow w.heap.size 63 1 (.slice a7 k c7) s.tags.length (L.gs.map (·.2)) by
    have:=y
    rw[List.take_of_length_le (by omega)]at this
    rw[ae]at this⊢;exact this)
   have o:=aB j;clear y j HR HT HA E ae;go_wp2_with fail
   go_meet
   exact aB ⟨aA o,aA HO⟩
 case rest=>
 obtain⟨j,y⟩:=aA hcut;obtain⟨a7,c7,rfl⟩:=b_ y;have HO:=aB (World.ownsRow.alloc y (.cells #[.slice J a.length K] 63));have HB:=aB (show(wc.alloc (.cells #[.slice J a.length K] 63)).heap[wc.heap.size]?=_ from heap_alloc_new wc _);have F:=aB (show s.tags.length+1≤maxLen by unfold maxLen;omega);have P:=j.size;have l:=aB (show w.heap.size≤(wc.alloc (.cells #[.slice J a.length K] 63)).heap.size by simp;omega);have o:=aB j;have G:=aB (fun Q e=>(World.ownsRow.lt y Q e).1);clear y j hcut HR Z hf;have HP:=aB (fun w=>tu c al w);go_wp2_with(at_builtin;refine wpList_append_lies _ rfl _ _ 109 rfl w.heap.size 63 i0 _ 1 24 underlying109 hi a2 a3 a4 rfl (by decide) (.slice a7 s.tags.length c7) s.tags.length (L.gs.map (·.2)) (by simp[Act.eval]) (aA HO) ⟨wc.heap.size,0,none⟩ 1 1 [.slice J a.length K] (by simp[Act.eval]) rfl (World.news_of_block (aA HB)) (by intro u hu;simp at hu;subst hu;rfl) (by decide) (aA F) (by omega) (aA l) (wc.heap.size+1) (by simp) ?_;intro g2 cap w2 hown hgrow z ab;have HOW:=aB hown;have H:=aB hgrow;have ad:=aB z;clear hown hgrow z)
 have A:Below w.heap.size w w2:=((aA o).alloc P _).grown (aA H) (aA l) (fun Q e=>aA G Q e);have R:mX w2 (b+1) (.slice (some ⟨g2,0,none⟩) (s.tags.length+1) cap) (L.gs++[(a,.slice J a.length K)]):=by
  refine⟨?_,fun p hp=>?_⟩
  .have:=nS (aA HOW) (show b+1≤w.heap.size by omega);have e:(L.gs++[(a,Value.slice J a.length K)]).length=s.tags.length+1:=by simp[M]
   rw[e];simpa using this
  rcases List.mem_append.1 hp with g|g
  .exact⟨tE (aA HT p g).1 A,(aA HT p g).2⟩
  simp only[List.mem_cons,List.not_mem_nil,or_false]at g;subst g;exact⟨tE (aA HA) A,a0⟩
 have S:w2.ownsRow (b+1) 69 3 (.slice J a.length K) a.length (aV a):=tE (aA HA) A;have af:(L.gs++[(a,Value.slice J a.length K)]).map (·.1)=s.tags++[a]:=by simp[D]
 have hq:f=(if !(Rf.parts c).2.2||decide ((Rf.parts c).1=jA)then false else if !(Rf.bound (s.tags++[a]) (Rf.parts c).1).2 then false else(List.range a.length).all fun i=>jB (s.tags++[a]) a i):=by rw[aA E];rfl
 have r:=aB (fun(m:Nat)=>tC (R.drewN m) (Rf.parts c).1);have B:=aB (fun(m i:Nat) (hi:i<a.length)=>JM (R.drewN m) (mY S m) a0 i hi);rw[af]at r B;have b0:=kO S;have v:=aB A;clear A R S af E HT HA HOW H ad HO HB F l o G D M;generalize s.tags++[a]=d at *;have ag:∀q:Bs,(q==[120,109,108,110,115])=decide (q=jA):=fun q=>beq_lit q jA
 have ah:=ag (Rf.parts c).1;generalize Rf.parts c=pr at *;obtain⟨px,lx,C⟩:=pr;simp only at hq HP r ah;generalize Rf.bound d px=bd at *;obtain⟨bv,is⟩:=bd;simp only at hq r;generalize decide (px=jA)=bx at *;clear ag;have ai:∀n,Below w.heap.size w (w2.drewN n):=fun n=>⟨(aA v).os,(aA v).tape,(aA v).output,by rw[heap_drewN];exact(aA v).size,fun k hk=>by rw[heap_drewN];exact(aA v).block k hk⟩
 have T:=aB ai;clear ai v;have X:(f=false∧(C=false∨(C=true∧bx=true)∨(C=true∧bx=false∧is=false)))∨(C=true∧bx=false∧is=true∧f=(List.range a.length).all fun i=>jB d a i):=by
  rw[hq];cases C<;>cases bx<;>cases is<;>simp
 clear hq;rcases X with⟨hF,Z⟩|⟨rfl,rfl,rfl,hF⟩
 .have E:=aB hF;clear hF B;rcases Z with rfl|⟨rfl,rfl⟩|⟨rfl,rfl,rfl⟩;all_goals
   go_wp2_with(first
    |(go_at_call 159;refine(aA HP _).mono ?_;rintro e w' ⟨rfl,n1,rfl⟩)
    |(go_at_call 160;refine(aA r _).mono ?_;rintro e w' ⟨rfl,n2,rfl⟩))
   go_ret;exact⟨by rw[aA E];rfl,aA T _⟩
 have E:=aB (show f=(List.range' 0 a.length).all fun i=>jB d a i by rw[←List.range_eq_range'];exact hF);clear hF
 go_wp2_with(first
  |(go_at_call 159;refine(aA HP _).mono ?_;rintro e w' ⟨rfl,n1,rfl⟩)
  |(go_at_call 160;refine(aA r _).mono ?_;rintro e w' ⟨rfl,n2,rfl⟩))
 go_loopg [14] a.length (fun g ap N=>∃k n:Nat,N=w2.drewN n∧k≤a.length∧g=a.length - k∧ap=.int .i64 k∧Hid (f=(List.range' k (a.length - k)).all fun i=>jB d a i))
 case atStart=>exact⟨0,_,rfl,by omega,rfl,rfl,E⟩
 case round=>
  obtain⟨k,n,rfl,hk,rfl,rfl,O⟩:=hrel;clear E r HP;by_cases h3:k<a.length
  .have e1:decide ((k:Int)<(a.length:Int))=true:=by simp;omega
   have aj:=aB (aA B n k h3);have ak:(List.range' k (a.length - k)).all (fun i=>jB d a i)=(jB d a k&&(List.range' (k+1) (a.length - (k+1))).all fun i=>jB d a i):=by
    rw[show a.length - k=(a.length - (k+1))+1 by omega,List.range'_succ,List.all_cons]
   have I:=aB ((aA O).trans ak);clear ak O;generalize jB d a k=ar at *;cases ar with
   |false=>
    have Y:=aB (show f=false from aA I);clear I B;go_wp2_with(go_at_call 161;refine(aA aj).mono ?_;rintro e w' ⟨rfl,n3,rfl⟩)
    go_ret;exact⟨by rw[aA Y];rfl,aA T _⟩
   |true=>
    have Y:=aB (show f=(List.range' (k+1) (a.length - (k+1))).all fun i=>jB d a i from aA I);clear I;go_wp2_with(go_at_call 161;refine(aA aj).mono ?_;rintro e w' ⟨rfl,n3,rfl⟩)
    go_roundg (a.length - (k+1))
    case measure=>omega
    case rel=>exact⟨k+1,_,rfl,by omega,rfl,by go_num,Y⟩
  have e1:decide ((k:Int)<(a.length:Int))=false:=by simp;omega
  have hfin:=aB (show f=true by rw[aA O,show a.length - k=0 by omega];rfl);clear O B;go_wp2
  go_ret;exact⟨by rw[aA hfin];rfl,aA T _⟩
end
section
variable {w:World}{b:Nat}{s:R}{L:aH}
theorem aI.tg(h:aI w b s L)(c:∀t∈s.tags,Sh t):mX w (b+1) (.slice L.ga s.tags.length L.gc) L.gs:=by
 have a:=h.je;have d:L.gs.length=s.tags.length:=by rw[←a];simp
 refine⟨?_,fun p e=>⟨h.rows.own (dK p) (by simp only[a_,List.mem_cons,List.mem_append,List.mem_map];right;right;right;right;exact⟨p,e,rfl⟩),c p.1 (by rw[←a];exact List.mem_map.2 ⟨p,e,rfl⟩)⟩⟩;rw[d];exact h.rows.own (bK s L) (by simp[a_])
theorem AY(h:aI w b s L)(a:Bs)(j:a.length≤100000000)(k:∀t∈s.tags,Sh t):
 Calls Tryz.prog 164 #[.pointer (some ⟨b,0,none⟩),.string ⟨a.toArray⟩] w fun e w' =>e=.returned (.string ⟨(kI s a).toArray⟩)∧∃n,w' =w.drewN n:=by
 have o:=h.lt;have p:=h.cell;have v:=h.frozen;have f:=h.tg k;have q:=aB (fun w=>tu a j w);have m:=aB (fun n=>tC (f.drewN n) (Rf.parts a).1);have g:L.gs.map (·.1)=s.tags:=h.je;rw[g]at m;obtain⟨d,c⟩:∃d,d=kI s a:=⟨_,rfl⟩;rw[←c];unfold kI at c;have r:∀n i,(w.drewN n).cell? ⟨b,i,none⟩=w.cell? ⟨b,i,none⟩:=fun n i=>by simp only[World.cell?,heap_drewN]
 unfold aF at p;generalize u:s.on=on at *;cases on with
 |false=>
  have l:=aB (show d=[]from c);clear c h f g;go_enter func164,ntmps164
  go_wp2
  go_ret;exact⟨by rw[aA l];rfl,0,rfl⟩
 |true=>
  have l:=aB (show d=(Rf.bound s.tags (Rf.parts a).1).1 from c);clear c h f g;go_enter func164,ntmps164
  go_wp2_with(first
   |(go_at_call 159;refine(aA q _).mono ?_;rintro e w' ⟨rfl,x,rfl⟩)
   |(go_at_call 160;refine(aA m _).mono ?_;rintro e w' ⟨rfl,y,rfl⟩))
  go_ret;exact⟨by rw[aA l];rfl,_,rfl⟩
end
section
variable {w:World}{b:Nat}{s:R}{L:aH}
theorem aI.tG(h:aI w b s L){p:List aD×Value}(a:p∈L.gs):w.ownsRow (b+1) 69 3 p.2 p.1.length (aV p.1):=
 h.rows.own (dK p) (by simp only[a_,List.mem_cons,List.mem_append,List.mem_map];right;right;right;right;exact⟨p,a,rfl⟩)
theorem aI.AZ(h:aI w b s L){p:List aD×Value}(a:p∈L.gs):p.1∈s.tags:=by rw[←h.je];exact List.mem_map.2 ⟨p,a,rfl⟩
theorem JN{l:List aD}{k:Nat}(a:k<l.length):(l.take (k+1)).reverse=l[k]::(l.take k).reverse:=by
 rw[List.take_add_one,List.getElem?_eq_getElem a];simp
structure Tk(s r:R)(n:Nat):Prop where
 tags:r.tags=s.tags
 on:r.on=s.on
 ev:r.events.length≤s.events.length+n
theorem Tk.tell{s r:R}{n:Nat}(h:Tk s r n)(e:Ev):Tk s (Rf.tell r e) (n+1):=⟨h.tags,h.on,by have:=h.ev;simp[Rf.tell];omega⟩
theorem Tk.refl(s:R):Tk s s 0:=⟨rfl,rfl,Nat.le_refl _⟩
theorem Tk.mono{s r:R}{m:Nat}(h:Tk s r n)(a:n≤m):Tk s r m:=⟨h.tags,h.on,by have:=h.ev;omega⟩
theorem Ql(h:aI w b s L)(c:Bs)(a:List aD)(v:Value)(l:(a,v)∈L.gs)(O:c.length≤100000000)(y:∀t∈s.tags,Sh t)(hev:s.events.length+a.length≤900000000):
 Calls Tryz.prog 115 #[.pointer (some ⟨b,0,none⟩),.string ⟨c.toArray⟩,v] w fun e w' =>e=.returned (.tuple #[])∧∃L', aL w b (aR s L) w' (Rf.ended s c a) L' :=by
 have hrow:w.ownsRow (b+1) 69 3 v a.length (aV a):=h.tG l;have a2:=kO hrow;have B:Sh a:=y _ (h.AZ l);obtain⟨a1,c1,rfl⟩:=b_ hrow;have P:=aB (AY h c O y);obtain⟨f,d⟩:∃f,f=Rf.ended s c a:=⟨_,rfl⟩;rw[←d];unfold Rf.ended at d;generalize kI s c=sp at *;have C:=aB (fun n=>mV (h.drewN n) ⟨2,c,sp,[],[]⟩ none 0 0 (jw ⟨rfl,rfl,rfl⟩) (fun k I=>by cases I) (by omega));have D:=(Tk.refl s).tell ⟨2,c,sp,[],[]⟩;simp only at d;generalize Rf.tell s ⟨2,c,sp,[],[]⟩=q at *;have E:=D.on;have Q:=aB h;have HI:=aB l;generalize a3:s.on=on at *;clear hrow h l y;cases on with
 |false=>
  have J:=aB (show f=q from d);clear d;go_enter func115,ntmps115
  go_wp2_with(first
   |(go_at_call 164;refine(aA P).mono ?_;rintro e w1 ⟨rfl,S,rfl⟩)
   |(go_at_call 152;refine(aA C _).mono ?_;rintro e w2 ⟨rfl,T,i⟩;have j:=i.rd.cell;unfold aF at j;rw[E]at j))
  refine bodyPost_ret (results_none rfl _ _ _) rfl ?_;exact⟨rfl,T,by rw[aA J];exact((aA Q).start.drewN S).call i⟩
 |true=>
  have J:=aB (show f=Rf.endGo a.reverse q from d);clear d;go_enter func115,ntmps115
  go_wp2_with(first
   |(go_at_call 164;refine(aA P).mono ?_;rintro e w1 ⟨rfl,S,rfl⟩)
   |(go_at_call 152;refine(aA C _).mono ?_;rintro e w2 ⟨rfl,T,i⟩;have j:=i.rd.cell;unfold aF at j;rw[E]at j))
  go_loopg [7] a.length (fun g s7 wx=>∃(k:Nat) (r:R) (K:aH),k≤a.length∧g=k∧s7=.int .i64 ((k:Int) - 1)∧Hid (f=Rf.endGo (a.take k).reverse r)∧Tk s r (1+(a.length - k))∧aL w b (aR s L) wx r K)
  case atStart=>exact⟨a.length,q,T,Nat.le_refl _,rfl,by go_num,aB (by rw[List.take_of_length_le (Nat.le_refl _)];exact aA J),D.mono (by omega),((aA Q).start.drewN S).call i⟩
  case round=>
   obtain⟨k,r,K,I,a4,rfl,M,m,o⟩:=hrel;clear j i J P C;rcases k with _|k
   .have e1:decide ((0:Int)≤((0:Nat):Int) - 1)=false:=by decide
    have hfin:=aB (show f=r from aA M);have F:=aB o;clear M o;go_wp2
    go_end0
    exact⟨rfl,K,by rw[aA hfin];exact aA F⟩
   have ek:(((k+1:Nat):Int) - 1)=(k:Int):=by omega
   rw[ek];have e1:decide ((0:Int)≤(k:Int))=true:=by simp
   have z:k<a.length:=by omega
   have G:=o.kJ (aA Q) m.tags;have hrow:=o.rd.tG (p:=(a,.slice a1 a.length c1)) (by rw[G];exact aA HI);obtain⟨g1,d1,N,_,q1⟩:=kN bZ (fun _=>rfl) (by decide) hrow rfl k z;simp only at N;injection N with N _ X;subst N;subst X;have Y:=q1 0 (by decide);simp[bZ]at Y;have hd:Rf.endGo (a.take (k+1)).reverse r=Rf.endGo (a.take k).reverse (if(Rf.declaration a[k].name).2 then Rf.tell r ⟨7,(Rf.declaration a[k].name).1,[],[],[]⟩else r):=by
    rw[JN z];rfl
   have u:=aB ((aA M).trans hd);have H:=B a[k] (List.getElem_mem z);have a5:=m.ev;clear q1 M hd hrow G;generalize a[k]=x at *;have HD:=aB (fun w=>tv x.name H w);generalize Rf.declaration x.name=dd at *;obtain⟨pp,is⟩:=dd;cases is with
   |false=>
    have A:=aB (show f=Rf.endGo (a.take k).reverse r from aA u);have F:=aB o;clear u o;go_wp2_with(go_at_call 162;refine(aA HD _).mono ?_;rintro e w' ⟨rfl,Z⟩;obtain rfl:=Z.symm)
    go_roundg k
    case measure=>omega
    case rel=>exact⟨k,r,K,by omega,rfl,by go_num,A,m.mono (by omega),aA F⟩
   |true=>
    have A:=aB (show f=Rf.endGo (a.take k).reverse (Rf.tell r ⟨7,pp,[],[],[]⟩)from aA u);have C:=aB (mV o.rd ⟨7,pp,[],[],[]⟩ none 0 0 (jw ⟨rfl,rfl,rfl⟩) (fun k I=>by cases I) (by omega));have F:=aB o;clear u o
    go_wp2_with(first
     |(go_at_call 162;refine(aA HD _).mono ?_;rintro e w' ⟨rfl,Z⟩;obtain rfl:=Z.symm)
     |(go_at_call 152;refine(aA C).mono ?_;rintro e w3 ⟨rfl,L3,a0⟩))
    go_roundg k
    case measure=>omega
    case rel=>exact⟨k,_,L3,by omega,rfl,by go_num,A,(m.tell _).mono (by omega),(aA F).call a0⟩
end
end Go.Proofs.YtmgfijllcdadgaaGreatDoor.V
