import Derived.Test.YtmgfijllcdadgaaGreatDoorNW04
set_option linter.unusedVariables false
set_option linter.unusedSimpArgs false
set_option maxHeartbeats 4000000
set_option maxRecDepth 100000
namespace Go.Proofs.YtmgfijllcdadgaaGreatDoor
open Go.RowKit
open Mk (St Bs Ev aD)
open Tryz
open Mk (iO dD k_ nG qg fN cG)
variable {n size b base:Nat}{w w2 w' :World}{e:TypeId}{v:Value}{s:St}{L:Lay}
theorem QL:(Tryz.prog.info? 69).map (fun i=>(i.zero,i.size,i.bytes))=some (some (.agg #[.string ByteArray.empty,.string ByteArray.empty,.string ByteArray.empty]),3,48):=by kernel_rfl
theorem yY(a:aD):∀u∈bZ a,u.oneCell' =true:=by
 intro u b;simp[bZ]at b;rcases b with rfl|rfl|rfl<;>rfl
structure nI(w wx:World)(s:St)(iB:Option (List aD))(acc:List aD)(i:Nat)(a:Option Addr)(c:Nat):Prop where
 aU:Below w.heap.size w wx
 own:wx.ownsRow w.heap.size 69 3 (.slice a acc.length c) acc.length (aV acc)
 fin:iB=iO s.aG (s.aC.drop i) acc
 le:acc.length≤i
 nm:∀x∈acc,x.name.length≤100000000
def QM(w:World)(iB:Option (List aD))(e:Ending)(w' :World):Prop:=
 Below w.heap.size w w' ∧((iB=none∧e=.returned (.tuple #[.slice none 0 0,.bool false]))∨∃l a c,iB=some l∧e=.returned (.tuple #[.slice a l.length c,.bool true])∧w'.ownsRow w.heap.size 69 3 (.slice a l.length c) l.length (aV l))
theorem uY{w1:World}{k:Nat}{b:List Value}(h:Below n w w1)(f:n≤w1.heap.size)(c:w1.ownsRow n e size v k b)(a:w1.grownBy w2 v.ownBlock):Below n w w2:=
 ⟨a.os.trans h.os,a.tape.trans h.tape,a.output.trans h.output,Nat.le_trans h.size a.size,fun j d=>(a.block j (by omega) fun e=>by have:=(c.lt j e.symm).1;omega).trans (h.block j d)⟩
theorem PR{a:List Value}(h:w.ownsRow base e size v n a)(b:∀k,k<w.heap.size→w'.heap[k]?=w.heap[k]?):w'.ownsRow base e size v n a:=
 fP (r:=⟨e,size,v,n,a⟩) h fun k c=>b k (h.lt k c).2
theorem nI.push{w3:World}{e:Option (List aD)}{b:List aD}{i:Nat}{a:Option Addr}{c g2 cap:Nat}{x:aD}(g:Below w.heap.size w w2)(h:w.heap.size≤w2.heap.size)(j:w2.ownsRow w.heap.size 69 3 (.slice a b.length c) b.length (aV b))
 (hown:w3.ownsRow w.heap.size 69 3 (.slice (some ⟨g2,0,none⟩) (b.length+1) cap) (b.length+1) (aV b++bZ x)) (k:w2.grownBy w3 (Value.slice a b.length c).ownBlock) (l:e=iO s.aG (s.aC.drop (i+1)) (b++[x])) (f:b.length+1≤i+1) (m:∀y∈b,y.name.length≤100000000) (n:x.name.length≤100000000):
 nI w w3 s e (b++[x]) (i+1) (some ⟨g2,0,none⟩) cap:=by
 refine⟨uY g h j k,?_,l,by simpa using f,fun y d=>?_⟩
 .have o:(b++[x]).length=b.length+1:=by simp
  have p:aV (b++[x])=aV b++bZ x:=by simp[aV]
  rw[o,p];exact hown
 rcases List.mem_append.1 d with d|d
 .exact m y d
 simp at d;subst d;exact n
theorem E_(h:aK w b s L)(ad:s.am=false)(ae:∀a∈s.aC,a.name.length≤100000000)(a3:s.aG.length≤300000000)(aq:s.aC.length≤32):
 Calls Tryz.prog 242 #[.pointer (some ⟨b,7,none⟩),.slice L.aa s.aC.length L.ac] w (QM w (iO s.aG s.aC [])):=by
 obtain⟨u,N⟩:∃u,u=iO s.aG s.aC []:=⟨_,rfl⟩;rw[←N];have HI:Hid (nI w w s u [] 0 none 0):=⟨Below.refl _ _,World.ownsRow_nil _ _ _ _,N,by simp,fun x hx=>by cases hx⟩;have HH:=aB h;have aj:=aB ad;have ak:=aB ae;have ar:=h.lt;obtain⟨i0,hi,af,ag,ah⟩:=info_parts QL;obtain⟨aa,a4⟩:∃x,x=L.aa:=⟨_,rfl⟩;rw[←a4];have al:=aB a4;clear h N a4 ad ae;go_enter func242,ntmps242
 go_wp2_with fail
 go_loopg [6,7] s.aC.length (fun g s6 s7 wx=>∃(o:World) (l:List aD) (i:Nat) (a:Option Addr) (c:Nat),o=wx∧i≤s.aC.length∧g=s.aC.length - i∧s6=.slice a l.length c∧s7=.int .i64 (i:Int)∧Hid (nI w o s u l i a c))
 case atStart=>exact⟨w,[],0,none,0,rfl,by omega,rfl,rfl,rfl,HI⟩
 case round=>
  obtain⟨o,l,i,a,c,an,ao,rfl,rfl,rfl,v⟩:=hrel;subst an;clear HI;have ap:=(aA v).le;have J:w.heap.size≤o.heap.size:=(aA v).aU.size;by_cases h3:i<s.aC.length
  .have e1:decide ((i:Int)<(s.aC.length:Int))=true:=by simp;omega
   have au:(i:Int)<(s.aC.length:Int):=by omega
   obtain⟨g,hg,av,c0,c1,c2⟩:=yX ((aA HH).start.below (aA v).aU).rd (aA aj) i h3;rw[←aA al]at hg;have a0:=aA ak _ (List.getElem_mem h3);have HP:=aB (fun w=>yF s.aC[i].name a0 w);have K:=aB (fun w=>ql s.aC[i].name a0 w);have t:=(aA v).fin;rw[List.drop_eq_getElem_cons h3]at t;unfold iO at t;have a1:=aB a0;clear a0;generalize s.aC[i]=x at *;subst hg;cases e2:Mk.oM x.name
   .rw[e2]at HP t;simp only[Bool.false_eq_true,if_false]at t;cases e3:(dD x.name==[])
    .skip;have O:k_ s.aG x={x with space:=Mk.valueOf s.aG (dD x.name)}:=by unfold k_;rw[show(dD x.name !=[])=true by simp[bne,e3]];rfl
     rw[O]at t;clear O;have P:Below w.heap.size w (o.alloc (.cells #[.string ⟨x.name.toArray⟩,.string ⟨x.space.toArray⟩,.string ⟨x.val.toArray⟩] 69)):=(aA v).aU.alloc J _;have HV:=aB (qm ((aA HH).start.below P).rd a3 (dD x.name));obtain⟨m,a2⟩:∃y,y=Mk.valueOf s.aG (dD x.name):=⟨_,rfl⟩;rw[←a2]at HV t;have z:Below w.heap.size w (o.alloc (.cells #[.string ⟨x.name.toArray⟩,.string ⟨m.toArray⟩,.string ⟨x.val.toArray⟩] 69)):=(aA v).aU.alloc J _;have E:∀k,k<o.heap.size→(o.alloc (.cells #[.string ⟨x.name.toArray⟩,.string ⟨m.toArray⟩,.string ⟨x.val.toArray⟩] 69)).heap[k]?=o.heap[k]?:=fun k hk=>Below.heap_alloc _ _ _ hk
     have Q:(o.alloc (.cells #[.string ⟨x.name.toArray⟩,.string ⟨m.toArray⟩,.string ⟨x.val.toArray⟩] 69)).heap[o.heap.size]?=some (.cells #[.string ⟨x.name.toArray⟩,.string ⟨m.toArray⟩,.string ⟨x.val.toArray⟩] 69 (0,0)):=heap_alloc_new o _;have F:=aB (rZ ((aA HH).start.below z).rd a3 (dD x.name));have G:=aB (r_ (PR (aA v).own E) (by omega) (aA v).nm ({x with space:=m}:aD) (aA a1));have a5:=aB (PR (aA v).own E);have H:=aB z;have a6:=aB Q;have a7:=aB (aA v).nm;have B:w.heap.size<(o.alloc (.cells #[.string ⟨x.name.toArray⟩,.string ⟨m.toArray⟩,.string ⟨x.val.toArray⟩] 69)).heap.size:=by simp;omega
     have C:=aB B;have R:(o.alloc (.cells #[.string ⟨x.name.toArray⟩,.string ⟨m.toArray⟩,.string ⟨x.val.toArray⟩] 69)).heap.size=o.heap.size+1:=by simp
     have a8:=aB R;clear P z E Q B R v a2;generalize dD x.name=p at *;generalize nG s.aG p=q at *;generalize S:qg l ({x with space:=m}:aD)=r at *;clear S;cases q
     .skip;have M:=aB (show u=none by simpa using t);clear t
      go_wp2_with(first
       |(go_at_call 245;refine(aA HP _).mono ?_;rintro e w1 ⟨d,f⟩;subst d;subst f)
       |(go_at_call 241;refine(aA K _).mono ?_;rintro e w1 ⟨d,f⟩;subst d;subst f)
       |(go_at_call 243;refine(aA HV).mono ?_;rintro e w1 ⟨d,f⟩;subst d;subst f)
       |(go_at_call 240;refine(aA F).mono ?_;rintro e w1 ⟨d,f⟩;subst d;subst f)
       |(go_at_call 248;refine(aA G).mono ?_;rintro e w2 ⟨rfl,n⟩))
      go_ret2;exact⟨aA H,.inl ⟨aA M,rfl⟩⟩
     cases r
     .skip;have M:=aB (show u=iO s.aG (s.aC.drop (i+1)) (l++[({x with space:=m}:aD)]) by simpa using t);clear t;have a9:=aB (show l.length+1≤maxLen by unfold maxLen;omega);have I:l.length+1≤i+1:=by omega
      go_wp2_with(first
       |(go_at_call 245;refine(aA HP _).mono ?_;rintro e w1 ⟨d,f⟩;subst d;subst f)
       |(go_at_call 241;refine(aA K _).mono ?_;rintro e w1 ⟨d,f⟩;subst d;subst f)
       |(go_at_call 243;refine(aA HV).mono ?_;rintro e w1 ⟨d,f⟩;subst d;subst f)
       |(go_at_call 240;refine(aA F).mono ?_;rintro e w1 ⟨d,f⟩;subst d;subst f)
       |(go_at_call 248;refine(aA G).mono ?_;rintro e w2 ⟨rfl,n⟩;have A:Below w.heap.size w w2:=(aA H).trans (n.mono (Nat.le_of_lt (aA C)));have T:w.heap.size≤w2.heap.size:=A.size;have D:=(n.block o.heap.size (by rw[aA a8];omega)).trans (aA a6);have hq:∀j,w2.cell? ⟨o.heap.size,j,none⟩=[.string ⟨x.name.toArray⟩,.string ⟨m.toArray⟩,.string ⟨x.val.toArray⟩][j]?:=(fun j=>by simp[World.cell?,D]);have HO:=aB (World.ownsRow.alloc (PR (aA a5) (fun k hk=>n.block k hk)) (.cells #[.string ⟨x.name.toArray⟩,.string ⟨m.toArray⟩,.string ⟨x.val.toArray⟩] 69));have HB:=aB (show(w2.alloc (.cells #[.string ⟨x.name.toArray⟩,.string ⟨m.toArray⟩,.string ⟨x.val.toArray⟩] 69)).heap[w2.heap.size]?=_ from heap_alloc_new w2 _);have X:=aB (A.alloc T (.cells #[.string ⟨x.name.toArray⟩,.string ⟨m.toArray⟩,.string ⟨x.val.toArray⟩] 69));have Y:=aB (show w.heap.size≤(w2.alloc (.cells #[.string ⟨x.name.toArray⟩,.string ⟨m.toArray⟩,.string ⟨x.val.toArray⟩] 69)).heap.size by simp;omega);clear n A D)
       |(at_builtin;refine wpList_append_lies _ rfl (.tmp 41) (.tmp 43) 63 rfl w.heap.size 69 i0 _ 3 48 underlying63 hi af ag ah rfl (by decide) (.slice a l.length c) l.length (aV l) (by simp[Act.eval]) (aA HO) ⟨w2.heap.size,0,none⟩ 1 1 (bZ ({x with space:=m}:aD)) (by simp[Act.eval]) rfl (World.news_of_block (aA HB)) (yY _) (by decide) (aA a9) (by omega) (aA Y) (w2.heap.size+1) (by simp) ?_;intro g2 cap w3 hown hgrow ab ai;have Z:=aB (nI.push (aA X) (aA Y) (aA HO) hown hgrow (aA M) I (aA a7) (aA a1));clear hown hgrow ab))
      go_roundg (s.aC.length - (i+1))
      case measure=>omega
      case rel=>exact⟨_,l++[({x with space:=m}:aD)],i+1,_,cap,rfl,by omega,rfl,by simp,by simp,Z⟩
     have M:=aB (show u=none by simpa using t);clear t
     go_wp2_with(first
      |(go_at_call 245;refine(aA HP _).mono ?_;rintro e w1 ⟨d,f⟩;subst d;subst f)
      |(go_at_call 241;refine(aA K _).mono ?_;rintro e w1 ⟨d,f⟩;subst d;subst f)
      |(go_at_call 243;refine(aA HV).mono ?_;rintro e w1 ⟨d,f⟩;subst d;subst f)
      |(go_at_call 240;refine(aA F).mono ?_;rintro e w1 ⟨d,f⟩;subst d;subst f)
      |(go_at_call 248;refine(aA G).mono ?_;rintro e w2 ⟨rfl,n⟩))
     go_ret2;exact⟨(aA H).trans (n.mono (Nat.le_of_lt (aA C))),.inl ⟨aA M,rfl⟩⟩
    have O:k_ s.aG x=x:=by unfold k_;rw[show(dD x.name !=[])=false by simp[bne,e3]];rfl
    rw[O]at t;clear O;have P:Below w.heap.size w (o.alloc (.cells #[.string ⟨x.name.toArray⟩,.string ⟨x.space.toArray⟩,.string ⟨x.val.toArray⟩] 69)):=(aA v).aU.alloc J _;have z:=P;have E:∀k,k<o.heap.size→(o.alloc (.cells #[.string ⟨x.name.toArray⟩,.string ⟨x.space.toArray⟩,.string ⟨x.val.toArray⟩] 69)).heap[k]?=o.heap[k]?:=fun k hk=>Below.heap_alloc _ _ _ hk
    have Q:(o.alloc (.cells #[.string ⟨x.name.toArray⟩,.string ⟨x.space.toArray⟩,.string ⟨x.val.toArray⟩] 69)).heap[o.heap.size]?=some (.cells #[.string ⟨x.name.toArray⟩,.string ⟨x.space.toArray⟩,.string ⟨x.val.toArray⟩] 69 (0,0)):=heap_alloc_new o _;have F:=aB (rZ ((aA HH).start.below z).rd a3 (dD x.name));have G:=aB (r_ (PR (aA v).own E) (by omega) (aA v).nm x (aA a1));have a5:=aB (PR (aA v).own E);have H:=aB z;have a6:=aB Q;have a7:=aB (aA v).nm;have B:w.heap.size<(o.alloc (.cells #[.string ⟨x.name.toArray⟩,.string ⟨x.space.toArray⟩,.string ⟨x.val.toArray⟩] 69)).heap.size:=by simp;omega
    have C:=aB B;have R:(o.alloc (.cells #[.string ⟨x.name.toArray⟩,.string ⟨x.space.toArray⟩,.string ⟨x.val.toArray⟩] 69)).heap.size=o.heap.size+1:=by simp
    have a8:=aB R;clear P z E Q B R v;generalize dD x.name=p at *;generalize nG s.aG p=q at *;generalize S:qg l x=r at *;clear S;cases q
    .skip;have M:=aB (show u=none by simpa using t);clear t
     go_wp2_with(first
      |(go_at_call 245;refine(aA HP _).mono ?_;rintro e w1 ⟨d,f⟩;subst d;subst f)
      |(go_at_call 241;refine(aA K _).mono ?_;rintro e w1 ⟨d,f⟩;subst d;subst f)
      |(go_at_call 243;refine(aA HV).mono ?_;rintro e w1 ⟨d,f⟩;subst d;subst f)
      |(go_at_call 240;refine(aA F).mono ?_;rintro e w1 ⟨d,f⟩;subst d;subst f)
      |(go_at_call 248;refine(aA G).mono ?_;rintro e w2 ⟨rfl,n⟩))
     go_ret2;exact⟨aA H,.inl ⟨aA M,rfl⟩⟩
    cases r
    .skip;have M:=aB (show u=iO s.aG (s.aC.drop (i+1)) (l++[x]) by simpa using t);clear t;have a9:=aB (show l.length+1≤maxLen by unfold maxLen;omega);have I:l.length+1≤i+1:=by omega
     go_wp2_with(first
      |(go_at_call 245;refine(aA HP _).mono ?_;rintro e w1 ⟨d,f⟩;subst d;subst f)
      |(go_at_call 241;refine(aA K _).mono ?_;rintro e w1 ⟨d,f⟩;subst d;subst f)
      |(go_at_call 243;refine(aA HV).mono ?_;rintro e w1 ⟨d,f⟩;subst d;subst f)
      |(go_at_call 240;refine(aA F).mono ?_;rintro e w1 ⟨d,f⟩;subst d;subst f)
      |(go_at_call 248;refine(aA G).mono ?_;rintro e w2 ⟨rfl,n⟩;have A:Below w.heap.size w w2:=(aA H).trans (n.mono (Nat.le_of_lt (aA C)));have T:w.heap.size≤w2.heap.size:=A.size;have D:=(n.block o.heap.size (by rw[aA a8];omega)).trans (aA a6);have hq:∀j,w2.cell? ⟨o.heap.size,j,none⟩=[.string ⟨x.name.toArray⟩,.string ⟨x.space.toArray⟩,.string ⟨x.val.toArray⟩][j]?:=(fun j=>by simp[World.cell?,D]);have HO:=aB (World.ownsRow.alloc (PR (aA a5) (fun k hk=>n.block k hk)) (.cells #[.string ⟨x.name.toArray⟩,.string ⟨x.space.toArray⟩,.string ⟨x.val.toArray⟩] 69));have HB:=aB (show(w2.alloc (.cells #[.string ⟨x.name.toArray⟩,.string ⟨x.space.toArray⟩,.string ⟨x.val.toArray⟩] 69)).heap[w2.heap.size]?=_ from heap_alloc_new w2 _);have X:=aB (A.alloc T (.cells #[.string ⟨x.name.toArray⟩,.string ⟨x.space.toArray⟩,.string ⟨x.val.toArray⟩] 69));have Y:=aB (show w.heap.size≤(w2.alloc (.cells #[.string ⟨x.name.toArray⟩,.string ⟨x.space.toArray⟩,.string ⟨x.val.toArray⟩] 69)).heap.size by simp;omega);clear n A D)
      |(at_builtin;refine wpList_append_lies _ rfl (.tmp 41) (.tmp 43) 63 rfl w.heap.size 69 i0 _ 3 48 underlying63 hi af ag ah rfl (by decide) (.slice a l.length c) l.length (aV l) (by simp[Act.eval]) (aA HO) ⟨w2.heap.size,0,none⟩ 1 1 (bZ x) (by simp[Act.eval]) rfl (World.news_of_block (aA HB)) (yY _) (by decide) (aA a9) (by omega) (aA Y) (w2.heap.size+1) (by simp) ?_;intro g2 cap w3 hown hgrow ab ai;have Z:=aB (nI.push (aA X) (aA Y) (aA HO) hown hgrow (aA M) I (aA a7) (aA a1));clear hown hgrow ab))
     go_roundg (s.aC.length - (i+1))
     case measure=>omega
     case rel=>exact⟨_,l++[x],i+1,_,cap,rfl,by omega,rfl,by simp,by simp,Z⟩
    have M:=aB (show u=none by simpa using t);clear t
    go_wp2_with(first
     |(go_at_call 245;refine(aA HP _).mono ?_;rintro e w1 ⟨d,f⟩;subst d;subst f)
     |(go_at_call 241;refine(aA K _).mono ?_;rintro e w1 ⟨d,f⟩;subst d;subst f)
     |(go_at_call 243;refine(aA HV).mono ?_;rintro e w1 ⟨d,f⟩;subst d;subst f)
     |(go_at_call 240;refine(aA F).mono ?_;rintro e w1 ⟨d,f⟩;subst d;subst f)
     |(go_at_call 248;refine(aA G).mono ?_;rintro e w2 ⟨rfl,n⟩))
    go_ret2;exact⟨(aA H).trans (n.mono (Nat.le_of_lt (aA C))),.inl ⟨aA M,rfl⟩⟩
   rw[e2]at HP t;simp only[if_true]at t;have Z:Hid (nI w (o.alloc (.cells #[.string ⟨x.name.toArray⟩,.string ⟨x.space.toArray⟩,.string ⟨x.val.toArray⟩] 69)) s u l (i+1) a c):=⟨(aA v).aU.alloc J _,(aA v).own.alloc _,t,by omega,(aA v).nm⟩;clear t v;go_wp2_with(go_at_call 245;refine(aA HP _).mono ?_;rintro e w1 ⟨rfl,rfl⟩)
   go_roundg (s.aC.length - (i+1))
   case measure=>omega
   case rel=>exact⟨_,l,i+1,a,c,rfl,by omega,rfl,rfl,by simp,Z⟩
  have e1:decide ((i:Int)<(s.aC.length:Int))=false:=by simp;omega
  have t:=(aA v).fin;rw[List.drop_of_length_le (by omega)]at t;have M:=aB (show u=some l from t);clear t;go_wp2
  go_ret2;exact⟨(aA v).aU,.inr ⟨l,a,c,aA M,rfl,(aA v).own⟩⟩
theorem yZ{base' :Nat}{b:List Value}(h:w.ownsRow base e size v n b)(c:base' ≤base):w.ownsRow base' e size v n b:=by
 refine⟨h.1,?_⟩;rcases h.2 with d|⟨g,cap,a,f,i,j⟩
 .exact .inl d
 exact .inr ⟨g,cap,a,f,Nat.le_trans c i,j⟩
theorem Mv.Fa{w0:World}{v:List Nat}(m:Mv w0 b v w s L)(r:s.am=false)(l:List aD)(a:Option Addr)(c B:Nat)(A:∀k∈aJ s L,k<B)(C:b<B)(H:w0.heap.size≤B)
 (q:w.ownsRow B 69 3 (.slice a l.length c) l.length (aV l)):Mv w0 b v (w.setCell ⟨b,13,none⟩ (.slice a l.length c)) {s with aC:=l} {L with aa:=a,ac:=c}:=by
 have y:(rowsOf s L).Perm (bD s L::(bE s L::bQ s L::bJ s L::cA s L::bM s L::bS s L::L.es.map aN)):=Pw _ _ _ _;have t:=(m.rd.rows.perm y).tail;have D:bD {s with aC:=l} {L with aa:=a,ac:=c}=⟨69,3,.slice a l.length c,l.length,aV l⟩:=by simp[bD,r]
 have g:(rowsOf {s with aC:=l} {L with aa:=a,ac:=c}).Perm (⟨69,3,.slice a l.length c,l.length,aV l⟩::(bE s L::bQ s L::bJ s L::cA s L::bM s L::bS s L::L.es.map aN)):=by
  rw[←D];exact Pw _ _ _ _
 have d:∀k∈aW (bE s L::bQ s L::bJ s L::cA s L::bM s L::bS s L::L.es.map aN),k∈aJ s L:=fun k h=>gI y.symm k (@lQ [bD s L] _ k h)
 have E:bL w (b - 1) (⟨69,3,.slice a l.length c,l.length,aV l⟩::(bE s L::bQ s L::bJ s L::cA s L::bM s L::bS s L::L.es.map aN)):=by
  refine⟨fun x u=>?_,?_⟩
  .rcases List.mem_cons.1 u with rfl|u
   .exact yZ q (by omega)
   exact t.own x u
  unfold aW;rw[List.filterMap_cons];split
  .exact t.nd
  rename_i j n;refine List.nodup_cons.2 ⟨fun o=>?_,t.nd⟩;have:=(q.lt j n).1;have:=A j (d j o);omega
 have F:bL w (b - 1) (rowsOf {s with aC:=l} {L with aa:=a,ac:=c}):=E.perm g.symm;have p:b∉aJ {s with aC:=l} {L with aa:=a,ac:=c}:=fun o=>by
  have f:=gI g b o;unfold aW at f;rw[List.filterMap_cons]at f;split at f
  .exact m.rd.nb (d b f)
  rename_i j n;rcases List.mem_cons.1 f with e|f
  .subst e;have:=(q.lt b n).1;omega
  exact m.rd.nb (d b f)
 refine⟨⟨?_,?_,m.rd.evs,p⟩,?_⟩
 .have:=m.rd.blk;have G:(cellsOf s L).set 13 (.slice a l.length c)=cellsOf {s with aC:=l} {L with aa:=a,ac:=c}:=by simp[cellsOf]
  rw[←G];simp[World.setCell,Array.getElem?_modify,this]
 .refine F.keep fun k h=>Below.heap_setCell _ _ _ _ ?_
  exact fun(e:k=b)=>p (e▸h)
 have i:=m.fr;refine⟨i.os,i.tape,i.output,by simpa[World.setCell]using i.size,fun k h z o=>(Below.heap_setCell _ _ _ _ z).trans (i.block k h z o),fun k h=>?_⟩;have f:=gI g k h;unfold aW at f;rw[List.filterMap_cons]at f;split at f
 .exact i.aJ k (d k f)
 rename_i j n;rcases List.mem_cons.1 f with rfl|f
 .have:=(q.lt k n).1;exact .inr (by omega)
 exact i.aJ k (d k f)
def Fb(w:World)(b:Nat)(s:St)(L:Lay)(r:St×Option (List aD))(e:Ending)(w' :World):Prop:=
 ∃L', Mv w b (aJ s L) w' r.1 L' ∧L'.aa=L.aa∧L'.ac=L.ac∧((r.2=none∧e=.returned (.tuple #[.slice none 0 0,.bool false]))∨∃l a c B,r.2=some l∧e=.returned (.tuple #[.slice a l.length c,.bool true])∧(∀k∈aJ r.1 L', k<B)∧b<B∧w.heap.size≤B∧w'.ownsRow B 69 3 (.slice a l.length c) l.length (aV l))
theorem Fc(h:Bd s):(Mk.declare s).1.aG.length≤300000000∧(Mk.declare s).1.aC=s.aC∧(Mk.declare s).1.name=s.name∧(Mk.declare s).1.am=s.am:=by
 have e:∀(d:List aD) (b:List (Bs×Bs)) (c:Nat),(fN d b c).1.length≤b.length+d.length:=by
  intro d;induction d with
  |nil=>intro b c;simp[fN]
  |cons a r ih=>
   intro b c;unfold fN;split
   .have:=ih b c;simp only[List.length_cons];omega
   split
   .simp only[List.length_cons];omega
   have:=ih (b++[(Mk.declared a.name,a.val)]) (c+1);simp only[List.length_cons,List.length_append,List.length_nil]at this⊢;omega
 have f:=e s.aC s.aG 0;have g:=h.hb;have i:=h.ha;unfold Mk.declare;dsimp only;split
 .exact⟨by show(fN s.aC s.aG 0).1.length≤_;omega,rfl,rfl,rfl⟩
 exact⟨by show(fN s.aC s.aG 0).1.length≤_;omega,rfl,rfl,rfl⟩
theorem Qi(h:aK w b s L)(m:Bd s):
 Calls Tryz.prog 233 #[.pointer (some ⟨b,7,none⟩),.string ⟨s.name.toArray⟩,.slice L.aa s.aC.length L.ac] w (Fb w b s L (Mk.enter s)):=by
 have hrow:=h.rows.own (bD s L) (by simp[rowsOf]);have H:bD s L=⟨69,3,.slice L.aa s.aC.length L.ac,s.aC.length,aV s.aC⟩:=by simp[bD,m.am]
 rw[H]at hrow;have t:=aB (EA hrow m.ha m.an s.name m.hn);have u:=aB (QK h m);have I:=aB (fun w=>ql s.name m.hn w);have q:=Fc m;obtain⟨x,a⟩:∃x,x=Mk.enter s:=⟨_,rfl⟩;rw[←a];unfold Mk.enter at a;have M:=aB h.start;have B:=aB m.am;have C:=aB m.an;have HA:=aB m.ha;clear hrow H;cases J:Mk.rT s.name s.aC
 .rw[J]at a t;simp only[Bool.not_false,if_true]at a;have o:=aB a;clear h m a u q;go_enter func233,ntmps233
  go_wp2_with(go_at_call 238;refine(aA t).mono ?_;rintro e w1 ⟨c,d⟩;subst c;subst d)
  go_ret2;rw[aA o];exact⟨L,aA M,rfl,rfl,.inl ⟨rfl,rfl⟩⟩
 rw[J]at a t;simp only[Bool.not_true,Bool.false_eq_true,if_false]at a;cases K:(Mk.declare s).2
 .rw[K]at a u;simp only[Bool.not_false,if_true]at a;have o:=aB a;clear h m a q;go_enter func233,ntmps233
  go_wp2_with(first|(go_at_call 238;refine(aA t).mono ?_;rintro e w1 ⟨c,d⟩;subst c;subst d)|(go_at_call 239;refine(aA u).mono ?_;rintro e w2 ⟨rfl,v,f,i,j⟩;have g:=aB f;clear f))
  go_ret2;rw[aA o];exact⟨v,aA g,i,j,.inl ⟨rfl,rfl⟩⟩
 rw[K]at a u;simp only[Bool.not_true,Bool.false_eq_true,if_false]at a;obtain⟨E,F,T,N⟩:=q;have O:=h.lt;generalize Mk.declare s=D at *;obtain⟨P,X⟩:=D;dsimp only at *;generalize dD s.name=p at *;clear h m;cases A:nG P.aG p
 .rw[A]at a;simp only[Bool.not_false,if_true]at a;have o:=aB a;clear a;go_enter func233,ntmps233
  go_wp2_with(first|(go_at_call 238;refine(aA t).mono ?_;rintro e w1 ⟨c,d⟩;subst c;subst d)|(go_at_call 239;refine(aA u).mono ?_;rintro e w2 ⟨rfl,v,f,i,j⟩;have n:=aB (rZ f.rd E p);rw[A]at n;have g:=aB f;clear f)|(go_at_call 241;refine(aA I _).mono ?_;rintro e w1 ⟨c,d⟩;subst c;subst d)|(go_at_call 240;refine(aA n).mono ?_;rintro e w1 ⟨c,d⟩;subst c;subst d))
  go_ret2;rw[aA o];exact⟨v,aA g,i,j,.inl ⟨rfl,rfl⟩⟩
 rw[A]at a;simp only[Bool.not_true,Bool.false_eq_true,if_false]at a;have o:=aB a;clear a;go_enter func233,ntmps233
 go_wp2_with(first|(go_at_call 238;refine(aA t).mono ?_;rintro e w1 ⟨c,d⟩;subst c;subst d)|(go_at_call 239;refine(aA u).mono ?_;rintro e w2 ⟨rfl,v,f,i,j⟩;have n:=aB (rZ f.rd E p);rw[A]at n;have y:=aB (E_ f.rd (N.trans (aA B)) (by rw[F];exact aA C) E (by rw[F];exact aA HA));rw[F,i,j]at y;have g:=aB f;clear f)|(go_at_call 241;refine(aA I _).mono ?_;rintro e w1 ⟨c,d⟩;subst c;subst d)|(go_at_call 240;refine(aA n).mono ?_;rintro e w1 ⟨c,d⟩;subst c;subst d)|(go_at_call 242;refine(aA y).mono ?_;rintro e w3 ⟨z,(⟨r,rfl⟩|⟨l,Q,R,r,rfl,G⟩)⟩))
 .go_ret2;rw[aA o];exact⟨v,(aA g).below z,i,j,.inl ⟨r,rfl⟩⟩
 go_ret2;rw[aA o];exact⟨v,(aA g).below z,i,j,.inr ⟨l,Q,R,_,r,rfl,fun k S=>((aA g).rd.dF k S).2,(aA g).rd.lt,(aA g).fr.size,G⟩⟩
theorem Qj(s:St):Mk.first s≤s.aG.length:=by
 unfold Mk.first
 split
 .exact Nat.le_refl _
 split<;>omega
theorem uZ{a:Option Addr}{c:Nat}{k:List Value}(h:w.ownsRow base e size (.slice a n c) n k):(a=none∧c=0∧n=0)∨∃g,a=some ⟨g,0,none⟩∧n≤c∧g<w.heap.size∧∀j,j<n*size→w.cell? ⟨g,j,none⟩=k[j]?:=by
 rcases h.2 with⟨l,m⟩|⟨g,cap,o,p,u,q,b,v,r,d⟩
 .injection l with f s i;exact .inl ⟨f,i,m⟩
 injection p with f s i;subst f;subst i;exact .inr ⟨g,rfl,b,(Array.getElem?_eq_some_iff.1 q).1,fun j t=>yI h j t⟩
theorem Qk(h:aK w b s L)(e:s.cnt≠[]):∃(l:List Nat) (x:Nat) (g:Nat),s.cnt=l++[x]∧s.cnt.length=l.length+1∧L.ca=some ⟨g,0,none⟩∧l.length+1≤L.cc∧w.cell? ⟨g,l.length,none⟩=some (.int .i64 (x:Int)):=by
 have hrow:=h.rows.own (bS s L) (by simp[rowsOf]);have d:s.cnt.length=s.cnt.dropLast.length+1:=by
  have:=List.length_pos_iff.2 e;rw[List.length_dropLast];omega
 rcases uZ (a:=L.ca) (c:=L.cc) (n:=s.cnt.length) (size:=1) hrow with⟨_,_,f⟩|⟨g,i,k,f,j⟩
 .omega
 refine⟨s.cnt.dropLast,s.cnt.getLast e,g,(List.dropLast_concat_getLast e).symm,d,i,by omega,?_⟩;rw[j _ (by omega)];show(s.cnt.map nv)[_]?=_;rw[List.getElem?_map,List.getElem?_eq_getElem (by omega)];simp only[Option.map_some,nv];congr 3
 rw[List.getLast_eq_getElem];congr 1
 omega
theorem y_(h:aK w b s L)(y:s.aG.length≤300000000)(i:s.cnt.length≤100000100)(a:∀c∈s.cnt,c≤32):
 Calls Tryz.prog 237 #[.pointer (some ⟨b,7,none⟩)] w fun e w' =>e=.returned (.int .i64 (Mk.first s:Int))∧∃n,w' =w.drewN n:=by
 have j:=h.cell;have r:=h.lt;unfold cellsOf at j;by_cases d:s.cnt=[]
 .have f:Mk.first s=s.aG.length:=by simp[Mk.first,d]
  have o:s.cnt.length=0:=by simp[d]
  rw[f];rw[o]at j;clear h f d o;go_enter func237,ntmps237
  go_wp2
  go_quiet(fail)
  go_wp2
  go_ret;exact⟨rfl,_,rfl⟩
 obtain⟨l,x,g,k,m,t,z,A⟩:=Qk h d;have B:x≤32:=a x (by rw[k];simp);have f:Mk.first s=if s.aG.length<x then s.aG.length else s.aG.length - x:=by simp[Mk.first,k]
 rw[f];rw[m,t]at j;have e0:decide ((l.length:Int)<0)=false:=by simp
 have u:((l.length+1:Nat):Int) - 1=(l.length:Int):=by omega
 rw[m]at i;clear h f k d a m;by_cases p:s.aG.length<x
 .rw[if_pos p];have v:decide ((s.aG.length:Int)<(x:Int))=true:=by simp;omega
  go_enter func237,ntmps237
  go_wp2
  go_quiet(fail)
  go_wp2
  go_ret;exact⟨rfl,_,rfl⟩
 rw[if_neg p];have v:decide ((s.aG.length:Int)<(x:Int))=false:=by simp;omega
 have q:((s.aG.length - x:Nat):Int)=(s.aG.length:Int) - (x:Int):=by omega
 rw[q];clear q;go_enter func237,ntmps237
 go_wp2
 go_quiet(fail)
 go_wp2
 go_quiet(fail)
 go_wp2
 go_ret;exact⟨rfl,_,PZ _ _ _⟩
theorem Fe{P:Program}(w:World)(t b e:TypeId)(i:TypeInfo)(d:P.underlying t=some (.slice e))(f:P.info? e=some i)(a:Option Addr)(c:Nat):
 (Builtin.append_ #[t,t] b #[.slice none 0 0,.slice a 0 c]).run P w=.ok (.slice none 0 0) w:=by
 cases a<;>simp[Builtin.append_,run_underlying d,sizeOf,typeInfo,f,Builtin.lenOf,Builtin.firstCells,storeCells,loadCells,loadCellsFrom]
theorem za{P:Program}{b:Array Oper}{rest:List Oper}{o:Oper}{a:Act}{Q:Exit→Act→World→Prop}(d:o.guard=none)(s x:Operand)(t e:TypeId)
 (g:o.op=.call {callee:=.builtin .append,args:=#[s,x],argTypes:=#[t,t]}) (i:TypeInfo) (j:P.underlying t=some (.slice e)) (k:P.info? e=some i) (f:Option Addr) (c:Nat) (l:a.eval s=.slice none 0 0) (m:a.eval x=.slice f 0 c)
 (h:wpList P b Q rest (a.put o.dst (.slice none 0 0)) w):wpList P b Q (o::rest) a w:=
 wpList_plain d fun _ n=>by
  unfold Oper.wp execOp;simp only[g,resolve,invoke,builtin,Sem.run_bind,Sem.run_pure,Result.andThen_ok,List.map_toArray,List.map_cons,List.map_nil,l,m,Fe w t o.type e i j k f c];exact n _ _ h
theorem Ff(h:w.grownBy w' none):Below w.heap.size w w' :=⟨h.os,h.tape,h.output,h.size,fun k a=>h.block k a (by simp)⟩
theorem Fg(l:List (Bs×Bs)):∀(k:Nat),dS (l.drop k)=(dS l).drop (k*2):=by
 induction l with
 |nil=>intro k;simp[dS]
 |cons x r ih=>
  intro k;cases k with
  |zero=>simp
  |succ k=>
   have a:dS (x::r)=.string ⟨x.1.toArray⟩::.string ⟨x.2.toArray⟩::dS r:=rfl;have b:(k+1)*2=k*2+1+1:=by omega
   rw[List.drop_succ_cons,ih k,a,b,List.drop_succ_cons,List.drop_succ_cons]
theorem zb(l:List (Bs×Bs)):(dS l).length=l.length*2:=by
 induction l with
 |nil=>rfl
 |cons x r ih=>simp only[dS,List.flatMap_cons,List.length_append,List.length_cons]at ih⊢;rw[ih];simp[lS];omega
theorem ze(h:aK w b s L)(hb:s.aG.length≤300000000)(H:s.cnt.length≤100000100)(x:∀c∈s.cnt,c≤32):
 Calls Tryz.prog 236 #[.pointer (some ⟨b,7,none⟩)] w fun e w' =>∃a c,e=.returned (.slice a (cG s).length c)∧w'.ownsRow w.heap.size 139 2 (.slice a (cG s).length c) (cG s).length (dS (cG s))∧Below w.heap.size w w' :=by
 have I:=aB (y_ h hb H x);have a1:=Qj s;have Z:(cG s).length=s.aG.length - Mk.first s:=by unfold cG;simp
 have l:cG s=s.aG.drop (Mk.first s):=rfl;rw[Z];have D:=aB l;generalize cG s=tag at *;generalize Mk.first s=F at *
 obtain⟨J,K,M,N,O⟩:=info_parts yU;have P:=aB h;have hrow:=h.rows.own (bM s L) (by simp[rowsOf]);have d:w.ownsRow (b - 1) 139 2 (.slice L.ba s.aG.length L.bc) s.aG.length (dS s.aG):=hrow;clear h l Z hrow x;rcases uZ d with⟨E,q2,G⟩|⟨g,E,q2,G,q4⟩
 .have hF:F=0:=by omega
  subst hF;have i:tag=[]:=by have:=aA D;rw[List.drop_zero]at this;rw[this];exact List.eq_nil_of_length_eq_zero G
  have t:=aB i;rw[G];clear d i;go_enter func236,ntmps236
  go_wp2_with fail
  refine(aA I).mono ?_;rintro e w1 ⟨rfl,n,rfl⟩;have m:=((aA P).drewN n).cell;unfold cellsOf at m;rw[E,q2,G]at m;have f:Below w.heap.size w (w.drewN n):=⟨rfl,rfl,rfl,Nat.le_of_eq (by rw[heap_drewN]),fun _ _=>by rw[heap_drewN]⟩;have k:=aB f;clear f;generalize w.drewN n=w1 at *;go_wp2_with(at_builtin;refine za rfl (.tmp 7) (.tmp 13) 83 139 rfl J underlying83 K _ _ rfl rfl ?_)
  go_ret;refine⟨none,0,rfl,?_,aA k⟩;rw[aA t];exact World.ownsRow_nil _ _ _ _
 by_cases hz:F=s.aG.length
 .have i:tag=[]:=by have:=aA D;rw[hz,List.drop_length]at this;exact this
  have y:s.aG.length - F=0:=by omega
  rw[y];have t:=aB i;subst hz;clear d i y;go_enter func236,ntmps236
  go_wp2_with fail
  refine(aA I).mono ?_;rintro e w1 ⟨rfl,n,rfl⟩;have m:=((aA P).drewN n).cell;unfold cellsOf at m;rw[E]at m;have f:Below w.heap.size w (w.drewN n):=⟨rfl,rfl,rfl,Nat.le_of_eq (by rw[heap_drewN]),fun _ _=>by rw[heap_drewN]⟩;have k:=aB f;clear f;generalize w.drewN n=w1 at *;have k1:¬(s.aG.length:Int)<0:=by omega
  have k2:s.aG.length - s.aG.length=0:=by omega
  go_wp2_with(at_builtin;refine za rfl (.tmp 7) (.tmp 13) 83 139 rfl J underlying83 K _ _ rfl (by simp[Act.eval];rfl) ?_)
  all_goals
   go_ret;refine⟨none,0,rfl,?_,aA k⟩;rw[aA t];exact World.ownsRow_nil _ _ _ _
 have z:0<s.aG.length - F:=by omega
 have o:∀j u,(dS (s.aG.drop F))[j]?=some u→w.cell? ⟨g,F*2+j,none⟩=some u:=fun j u q=>by
  rw[Fg,List.getElem?_drop]at q;have hj:=(List.getElem?_eq_some_iff.1 q).1;rw[zb]at hj;rw[q4 _ hj];exact q
 have Q:=aB o;have R:=aB (show(dS tag).length=(s.aG.length - F)*2 by rw[aA D,zb];simp);clear d o;go_enter func236,ntmps236
 go_wp2_with fail
 refine(aA I).mono ?_;rintro e w1 ⟨rfl,n,rfl⟩;have m:=((aA P).drewN n).cell;unfold cellsOf at m;rw[E]at m;have HN:Hid (∀j u,(dS tag)[j]?=some u→(w.drewN n).cell? ((⟨g,F*2,none⟩:Addr).add j)=some u):=fun j u q=>by
  have A:(⟨g,F*2,none⟩:Addr).add j=⟨g,F*2+j,none⟩:=by unfold Addr.add;split<;>simp_all
  rw[A];rw[aA D]at q;exact aA Q j u q
 have f:Below w.heap.size w (w.drewN n):=⟨rfl,rfl,rfl,Nat.le_of_eq (by rw[heap_drewN]),fun _ _=>by rw[heap_drewN]⟩;have k:=aB f;have v:=aB (show(w.drewN n).heap.size=w.heap.size by rw[heap_drewN]);have B:Hid ((w.drewN n).ownsRow w.heap.size 139 2 (.slice none 0 0) 0 []):=World.ownsRow_nil _ _ _ _;clear f;generalize w.drewN n=w1 at *;have k1:¬(F:Int)<0:=by omega
 have k2:(F:Int)≤(s.aG.length:Int):=by omega
 have k3:¬(s.aG.length:Int)<(F:Int):=by omega
 have r:∀u∈dS tag,u.oneCell' =true:=fun u q=>by
  obtain⟨p,_,hp⟩:=List.mem_flatMap.1 q;exact yV p u hp
 have C:=aB r;clear r;go_wp2_with(at_builtin;refine wpList_append_lies _ rfl (.tmp 7) (.tmp 13) 83 rfl w.heap.size 139 J _ 2 32 underlying83 K M N O rfl (by decide) (.slice none 0 0) 0 [] rfl (aA B) ⟨g,F*2,none⟩ (s.aG.length - F) (L.bc - F) (dS tag) (by simp[Act.eval]) (aA R) (aA HN) (aA C) z (by unfold maxLen;omega) (by omega) (by rw[aA v];exact Nat.le_refl _) w.heap.size (aA v) ?_;intro g2 cap w2 hown hgrow S a0;rw[Nat.zero_add]at *;have HOW:=aB hown;have T:=aB hgrow;clear hown hgrow S)
 all_goals
  go_ret;have X:=aA T;have Y:Below w.heap.size w1 w2:=by
   have:=Ff X;rw[aA v]at this;exact this
  exact⟨_,_,rfl,aA HOW,(aA k).trans Y⟩
end Go.Proofs.YtmgfijllcdadgaaGreatDoor
