/- WcE, Cn7, Cn8, Cn9, BuA, BuB, BuC, BuD, WsA, WsB, WsC, BuE, BuF, BndA, BuG, CaA, CaB -/
import Derived.Test.YtmgfijllcdadgabGreatDoorPCCompl
import Derived.Test.YtmgfijllcdadgabGreatDoorPCCn5
import Derived.Deep.DeepCutAuto
import Derived.Test.YtmgfijllcdadgabGreatDoorPCNest5
set_option linter.unusedVariables false
set_option linter.unusedSimpArgs false
namespace Go.Proofs.YtmgfijllcdadgabGreatDoor
open Go.RowKit
open Mk (St Bs Ev Att)
theorem wGo_cons (bs:List Ev) (e:Ev) (r:List Ev):wGo bs (e :: r)=if e.kind=6 then wGo (bs ++ [e]) r else if e.kind=1 then wStart e bs ++ wGo [] r else wOther e ++ wGo [] r:=rfl
structure SmE (l:List Ev):Prop where
  n:l.length≤20000000
  e:∀ x ∈ l,x.name.length≤7000000∧x.val.length≤100000000∧(x.kind=6→x.val.length≤7000000)∧x.attrs.length≤7000000∧∀ y ∈ x.attrs,y.name.length≤7000000∧y.val.length≤7000000
set_option maxHeartbeats 2000000 in
set_option maxRecDepth 100000 in
theorem wtext_all {w:World} {v:Value} {l:List Ev} {fp:List Nat} (hg:Got w v l fp) (hs:SmE l) (hl:(wAll l).length≤300000000) :
    Calls Tryz.prog 52 #[v] w fun e w' => ∃ a c,e = .returned (.slice a (wAll l).length c)∧w'.ownsRow (w.heap.size + 1) 5 1 (.slice a (wAll l).length c) (wAll l).length ((wAll l).map bv)∧Below w.heap.size w w' := by
  obtain ⟨va,vc,hv⟩:=hg.slice
  subst hv
  have hln:=hs.n
  have hcap:=hg.cap
  have HG:=hide hg
  have HS:=hide hs
  have HL:Hid ((wAll l).length≤300000000):=hl
  have H0:Hid (WTx (w.alloc (.cells #[.slice none 0 0] 124)) w.heap.size [] []∧Below w.heap.size w (w.alloc (.cells #[.slice none 0 0] 124))):=⟨⟨none,0,⟨heap_alloc_new w _,World.ownsRow_nil _ _ _ _⟩,rfl⟩,(Below.refl _ _).alloc (Nat.le_refl _) _⟩
  clear hg hs hl
  go_enter Tryz.func52,Tryz.ntmps52
  go_wp2_with fail
  go_loopg [4,5] l.length (fun g s4 s5 wx=>∃ (i fs:Nat) (T:Bs) (f:List Nat),i≤l.length∧fs≤i∧g=l.length - i∧s4 = .int .i64 (fs:Int)∧s5 = .int .i64 (i:Int)∧Hid (WTx wx w.heap.size T f∧Below w.heap.size w wx)∧Hid ((wAll l=T ++ wGo ((l.take i).drop fs) (l.drop i))∧∀ y ∈ (l.take i).drop fs,y.kind=6))
  case atStart=>exact ⟨0,0,[],[],by omega,by omega,rfl,rfl,rfl,unhide H0,⟨by show wAll l=[] ++ wGo [] l;rfl,fun y hy=>by cases hy⟩⟩
  case round =>
    obtain ⟨i,fs,T,f,hi,hfs,rfl,rfl,rfl,HQ,HE⟩:=hrel
    clear H0
    by_cases h3:i<l.length
    · have e1:decide ((i:Int)<(l.length:Int))=true:=by simp;omega
      have hk1:(i:Int)<(l.length:Int):=by omega
      obtain ⟨g,c,aa,ac,hva,hgl,c0,c1,c2,c3,c4,hats,hev⟩:=(unhide HG).at2 i h3
      injection hva with hva _ hvc
      subst hva hvc
      have hbel:=(unhide HQ).2
      have hcw:∀ j,wr.cell? ⟨g,j,none⟩=w.cell? ⟨g,j,none⟩:=fun j=>by simp only [World.cell?];rw [hbel.block _ hgl]
      have hgl2:g<wr.heap.size:=by have:=hbel.size;omega
      rw [← hcw] at c0 c1 c2 c3 c4
      have he:=(unhide HE).1
      have hk6s:=(unhide HE).2
      rw [List.drop_eq_getElem_cons h3,wGo_cons] at he
      have hsn:(l.take (i + 1)).drop fs=(l.take i).drop fs ++ [l[i]]:=by
        rw [List.take_add_one,List.getElem?_eq_getElem h3]
        rw [List.drop_append_of_le_length (by rw [List.length_take];omega)]
        rfl
      have hmm:=unhide HS |>.e l[i] (List.getElem_mem h3)
      have hbs:∀ y ∈ (l.take i).drop fs,y ∈ l:=fun y hy=>List.mem_of_mem_take (List.mem_of_mem_drop hy)
      by_cases hk6:l[i].kind=6
      · have t6:(l[i].kind == 6)=true:=by simpa using hk6
        rw [if_pos hk6, ← hsn] at he
        have hks2:∀ y ∈ (l.take (i + 1)).drop fs,y.kind=6:=fun y hy=>by
          rw [hsn] at hy
          rcases List.mem_append.1 hy with q | q
          · exact hk6s y q
          · rw [List.mem_singleton.1 q];exact hk6
        have HE2:=hide (And.intro he hks2)
        clear he hsn HE hcw hbel hats hev hmm hbs hks2 hk6s
        generalize l[i]=x at *
        go_wp2
        go_roundg (l.length - (i + 1))
        case measure=>omega
        case rel=>exact ⟨i + 1,fs,T,f,by omega,by omega,rfl,rfl,by simp,unhide HQ,unhide HE2⟩
      · have t6:(l[i].kind == 6)=false:=by simpa using hk6
        by_cases hk11:l[i].kind=1
        · have t1:(l[i].kind == 1)=true:=by simpa using hk11
          rw [if_neg hk6,if_pos hk11, ← List.append_assoc] at he
          have hblen:((l.take i).drop fs).length=i - fs:=by rw [List.length_drop,List.length_take];omega
          have k1:(fs:Int)≤(i:Int):=by omega
          have k2:(i:Int)≤(vc:Int):=by omega
          have k3:¬ (vc:Int)<(i:Int):=by omega
          have k4:¬ (i:Int)<(fs:Int):=by omega
          have k5:¬ (fs:Int)<0:=by omega
          have k6:¬ vc=fs:=by omega
          have hB:BsAt w (some ⟨g,fs * 5,none⟩) ((l.take i).drop fs):=fun k hk=>by
            rw [hblen] at hk
            obtain ⟨g', c', aa', ac', hva', hgl', _,d1,_,d3,_⟩:=(unhide HG).at2 (fs + k) (by omega)
            injection hva' with hva' _ _
            cases hva'
            have eg:((l.take i).drop fs)[k]'(by rw [hblen];exact hk)=l[fs + k]'(by omega):=by simp
            refine ⟨g,fs * 5,rfl,hgl,?_,?_⟩
            · rw [eg, ← d1,show fs * 5 + k * 5 + 1=(fs + k) * 5 + 1 by omega]
            · rw [eg, ← d3,show fs * 5 + k * 5 + 3=(fs + k) * 5 + 3 by omega]
          have hwd:WTx wr.drew w.heap.size T f:=wtx_keep (unhide HQ).1 ⟨rfl,rfl,rfl,Nat.le_refl _,fun _ _=>rfl⟩
          have hbd:Below w.heap.size w wr.drew:=(unhide HQ).2.trans ⟨rfl,rfl,rfl,Nat.le_refl _,fun _ _=>rfl⟩
          have hTl:T.length + (wStart l[i] ((l.take i).drop fs)).length≤300000000:=by
            have:=unhide HL
            rw [he] at this
            simp only [List.length_append] at this
            omega
          have HSB:=hide (And.intro hats (And.intro hmm.1 (And.intro hmm.2.2.2.2 hmm.2.2.2.1)))
          have hk6b:∀ y ∈ (l.take i).drop fs,y.name.length≤7000000∧y.val.length≤7000000:=fun y hy=>by
            have q:=(unhide HS).e y (hbs y hy)
            exact ⟨q.1,q.2.2.1 (hk6s y hy)⟩
          have HW:=hide (wstart_any hwd hbd ⟨1,l[i].name,l[i].space,l[i].val,l[i].attrs⟩ aa (some ⟨g,fs * 5,none⟩) ac (vc - fs) ((l.take i).drop fs) hats hB hmm.1 hmm.2.2.2.2 hk6b hmm.2.2.2.1 (by rw [hblen];omega) (by show T.length + (wStart l[i] ((l.take i).drop fs)).length≤900000000;omega))
          rw [hblen] at HW
          have e9:(l.take (i + 1)).drop (i + 1)=[]:=List.drop_eq_nil_of_le (by rw [List.length_take];omega)
          have HE2:Hid ((wAll l=(T ++ wStart l[i] ((l.take i).drop fs)) ++ wGo ((l.take (i + 1)).drop (i + 1)) (l.drop (i + 1)))∧∀ y ∈ (l.take (i + 1)).drop (i + 1),y.kind=6):=by
            refine ⟨?_,?_⟩
            · rw [e9];exact he
            · rw [e9];intro y hy;cases hy
          have ew:wStart ⟨1,l[i].name,l[i].space,l[i].val,l[i].attrs⟩ ((l.take i).drop fs)=wStart l[i] ((l.take i).drop fs):=rfl
          rw [ew] at HW
          clear e9 hk6s ew he hsn HE hcw hbel hats hev hmm hbs hB hwd hbd hTl HSB hk6b hblen
          generalize wStart l[i] ((l.take i).drop fs)=X at *
          generalize l[i]=x at *
          go_wp2_with fail
          go_region_with (go_at_call 69;refine (unhide HW).mono ?_;rintro e w3 ⟨rfl,f4,h3', b3⟩;have b3' : Below w.heap.size w w3:=(unhide HQ).2.trans ⟨b3.os,b3.tape,b3.output,b3.size,(fun k hk=>b3.block k (by have:=(unhide HQ).2.size;show k<wr.heap.size;omega) (by omega) (fun hm=>by have:=((wtx_lt (unhide HQ).1).2 k hm).1;omega))⟩;have HN:=hide (And.intro h3' b3');clear h3' b3 b3' HW HQ c0 c1 c2 c3 c4)
          all_goals
            go_wp2
            go_roundg (l.length - (i + 1))
            case measure=>omega
            case rel=>exact ⟨i + 1,i + 1,T ++ X,f4,by omega,by omega,rfl,by simp,by simp,unhide HN,unhide HE2⟩
        · have t1:(l[i].kind == 1)=false:=by simpa using hk11
          rw [if_neg hk6,if_neg hk11, ← List.append_assoc] at he
          have hwd:WTx wr.drew w.heap.size T f:=wtx_keep (unhide HQ).1 ⟨rfl,rfl,rfl,Nat.le_refl _,fun _ _=>rfl⟩
          have hTl:T.length≤300000000:=by
            have:=unhide HL
            rw [he] at this
            simp only [List.length_append] at this
            omega
          have HW:=hide (wother_any hwd l[i] (.slice aa l[i].attrs.length ac) (by have:=hmm.1;have:=hmm.2.1;omega))
          have HW0:=hide (wother_any (unhide HQ).1 l[i] (.slice aa l[i].attrs.length ac) (by have:=hmm.1;have:=hmm.2.1;omega))
          have e9:(l.take (i + 1)).drop (i + 1)=[]:=List.drop_eq_nil_of_le (by rw [List.length_take];omega)
          have HE2:Hid ((wAll l=(T ++ wOther l[i]) ++ wGo ((l.take (i + 1)).drop (i + 1)) (l.drop (i + 1)))∧∀ y ∈ (l.take (i + 1)).drop (i + 1),y.kind=6):=by
            refine ⟨?_,?_⟩
            · rw [e9];exact he
            · rw [e9];intro y hy;cases hy
          clear e9 hk6s he hsn HE hcw hbel hats hev hmm hbs hwd hTl HW
          generalize wOther l[i]=X at *
          generalize l[i]=x at *
          go_wp2_with fail
          refine (unhide HW0).mono ?_
          rintro e w3 ⟨rfl,f4,h3', b3⟩
          have b3' : Below w.heap.size w w3:=(unhide HQ).2.trans ⟨b3.os,b3.tape,b3.output,b3.size,(fun k hk=>b3.block k (by have:=(unhide HQ).2.size;omega) (by omega) (fun hm=>by have:=((wtx_lt (unhide HQ).1).2 k hm).1;omega))⟩
          have HN:=hide (And.intro h3' b3')
          clear h3' b3 b3' HW0 HQ c0 c1 c2 c3 c4
          go_wp2
          go_roundg (l.length - (i + 1))
          case measure=>omega
          case rel=>exact ⟨i + 1,i + 1,T ++ X,f4,by omega,by omega,rfl,by simp,by simp,unhide HN,unhide HE2⟩
    · have e1:decide ((i:Int)<(l.length:Int))=false:=by simp;omega
      have hil:i=l.length:=by omega
      have he:wAll l=T:=by
        have he0:=(unhide HE).1
        rw [hil,List.drop_length] at he0
        rw [he0];show T ++ []=T;simp
      have HQ2:=unhide HQ
      rw [← he] at HQ2
      obtain ⟨⟨a,c,hWT,hf⟩,hbl⟩:=HQ2
      have hcell:=hWT.cell
      have hltb:=hWT.lt
      have HF:=hide (And.intro hWT.row hbl)
      clear he hil HE HQ hWT hbl
      go_wp2
      go_ret
      exact ⟨a,c,rfl,unhide HF⟩
theorem zAs_cons (a:Att) (l:List Att):zAs (a :: l)=zA a + zAs l:=by simp [zAs]
theorem zAs_mem:∀ (l:List Att),4 * l.length≤zAs l∧∀ y ∈ l,y.name.length≤zAs l∧y.val.length≤zAs l
  | []=>⟨by simp,fun y hy=>by cases hy⟩
  | a :: r=>by
    have ih:=zAs_mem r
    have h:zA a=a.name.length + 6 * a.val.length + 4:=rfl
    rw [zAs_cons,List.length_cons]
    refine ⟨by omega,fun y hy => ?_⟩
    rcases List.mem_cons.1 hy with rfl | hy
    · omega
    · have:=ih.2 y hy;omega
section
variable {d a t:Int}
theorem good_small {o o1:List Bs} {ov ov1 pt:Bool} {e:Ev} (h:GoodE d a t o ov pt e o1 ov1):SmX (zE e) e∧1 + 4 * e.attrs.length≤zE e∧e.kind ≠ 6:=by
  cases h with
  | start n ats h1 h2 h3 h4 h5 h6 =>
    have h:=zAs_mem ats
    have e:zE ⟨1,n,[],[],ats⟩=n.length + 2 + zAs ats:=rfl
    rw [e]
    refine ⟨⟨by show n.length≤_;omega,by show 0≤_;omega,by show ats.length≤_;omega,fun y hy=>by have:=h.2 y hy;omega⟩,by show 1 + 4 * ats.length≤_;omega,by show (1:Int) ≠ 6;decide⟩
  | fin o' n h1 h2 =>
    have e:zE ⟨2,n,[],[],[]⟩=n.length + 3:=rfl
    rw [e]
    exact ⟨⟨by show n.length≤_;omega,by show 0≤_;omega,by show 0≤_;omega,fun y hy=>by cases hy⟩,by show 1 + 4 * 0≤_;omega,by show (2:Int) ≠ 6;decide⟩
  | txt val h1 h2 h3 h4 =>
    have e:zE ⟨3,[],[],val,[]⟩=6 * val.length:=rfl
    have hne:val.length ≠ 0:=fun k=>h3 (List.length_eq_zero_iff.1 k)
    rw [e]
    exact ⟨⟨by show 0≤_;omega,by show val.length≤_;omega,by show 0≤_;omega,fun y hy=>by cases hy⟩,by show 1 + 4 * 0≤_;omega,by show (3:Int) ≠ 6;decide⟩
  | comm val h1 =>
    have e:zE ⟨4,[],[],val,[]⟩=val.length + 7:=rfl
    rw [e]
    exact ⟨⟨by show 0≤_;omega,by show val.length≤_;omega,by show 0≤_;omega,fun y hy=>by cases hy⟩,by show 1 + 4 * 0≤_;omega,by show (4:Int) ≠ 6;decide⟩
  | pi n val h1 h2 h3 =>
    have e:zE ⟨5,n,[],val,[]⟩=n.length + val.length + 5:=rfl
    rw [e]
    exact ⟨⟨by show n.length≤_;omega,by show val.length≤_;omega,by show 0≤_;omega,fun y hy=>by cases hy⟩,by show 1 + 4 * 0≤_;omega,by show (5:Int) ≠ 6;decide⟩
theorem SmX.mono {K M:Nat} {x:Ev} (h:SmX K x) (hk:K≤M):SmX M x:=
  ⟨Nat.le_trans h.1 hk,Nat.le_trans h.2.1 hk,Nat.le_trans h.2.2.1 hk,fun y hy=>⟨Nat.le_trans (h.2.2.2 y hy).1 hk,Nat.le_trans (h.2.2.2 y hy).2 hk⟩⟩
theorem goodL_small {o o1:List Bs} {ov ov1 pt:Bool} {l:List Ev} (h:GoodL d a t o ov pt l o1 ov1):(∀ x ∈ l,SmX (zL l) x∧x.kind ≠ 6)∧l.length + 4 * totA l≤zL l:=by
  induction h with
  | nil o ov pt=>exact ⟨fun x hx=>(by cases hx),by simp [totA,zL]⟩
  | @cons o o1 o2 ov ov1 ov2 pt e l h r ih =>
    have h1:=good_small h
    have e1:zL (e :: l)=zE e + zL l:=by simp [zL]
    have e2:totA (e :: l)=e.attrs.length + totA l:=by simp [totA]
    rw [e1,e2,List.length_cons]
    refine ⟨fun x hx => ?_,by omega⟩
    rcases List.mem_cons.1 hx with rfl | hx
    · exact ⟨h1.1.mono (by omega),h1.2.2⟩
    · exact ⟨(ih.1 x hx).1.mono (by omega),(ih.1 x hx).2⟩
end
theorem sme_of {l:List Ev} {K:Nat} (hK:K≤6900000) (h:∀ x ∈ l,SmX K x) (hn:l.length≤20000000):SmE l:=
  ⟨hn,fun x hx=>by
    have:=h x hx
    exact ⟨by have:=this.1;omega,by have:=this.2.1;omega,fun _=>by have:=this.2.1;omega,by have:=this.2.2.1;omega,fun y hy=>by have:=this.2.2.2 y hy;omega⟩⟩
section
variable {d a t:Int}
theorem small_off (d1:1≤d) (t1:8≤t) (a1:0≤a) (a2:a≤32) (D:Bs) (hD:D.length≤1120000) (he:(Mk.feedAll (Mk.make_ d a t false) D).ended=0) (hc:(Mk.close (Mk.feedAll (Mk.make_ d a t false) D)).2=0) :
    SmE (wT (Mk.feedAll (Mk.make_ d a t false) D)):=by
  obtain ⟨hg,hz⟩:=doc_facts d1 t1 a1 a2 D he hc
  have h:=goodL_small hg
  exact sme_of (K:=zL (wT (Mk.feedAll (Mk.make_ d a t false) D))) (by omega) (fun x hx=>(h.1 x hx).1) (by omega)
theorem small_on (d1:1≤d) (t1:8≤t) (a1:0≤a) (a2:a≤32) (D:Bs) (hD:D.length≤1120000) (he:(Mk.feedAll (Mk.make_ d a t false) D).ended=0) (hc:(Mk.close (Mk.feedAll (Mk.make_ d a t false) D)).2=0) (h8:(Mk.feedAll (Mk.make_ d a t true) D).ended ≠ 8) :
    SmE (wT (Mk.feedAll (Mk.make_ d a t true) D)):=by
  obtain ⟨hg,hz⟩:=doc_facts d1 t1 a1 a2 D he hc
  obtain ⟨_,_,_,c,hk,_,_⟩:=spaces_ok d a t d1 t1 a1 a2 D h8
  have h:=goodL_small hg
  have hs:=kRes_small (K:=6800000) _ hk (fun x hx=>(h.1 x hx).1.mono (by omega)) (fun y hy=>by have h:y=(Mk.wXml,Mk.xmlSpace):=List.mem_singleton.1 hy;rw [h];decide) (fun x hx=>by cases hx)
  have hb:Sc.zero.bnd.length≤10:=by decide
  exact sme_of (K:=6800000) (by omega) hs.1 (by have:=hs.2;simp only [List.length_nil] at this;omega)
end
theorem rest_sn (b:List (Bs × Bs)) (c:List Nat) (l:List Ev) (s:St):Mk.rest (sn b c l s)=Mk.rest s:=rfl
theorem rest_names {s0 s1:St} {c:Sc} (h:Nn s0 s1 c):Mk.rest s1=Mk.rest s0:=by
  by_cases hst:s0.state=19
  · have e:=h.eq
    rw [e]
    have h2:∀ (x y:St),x.state=19→y={ x with attrs:=y.attrs }→Mk.rest y=Mk.rest x:=by
      intro x y hx hy
      rw [hy]
      unfold Mk.rest Mk.markRest Mk.startRest Mk.leftOpen Mk.isStartTag Mk.isEndTag
      simp only [hx]
      rfl
    rw [← rest_sn s1.bnd s1.cnt s1.list s0]
    exact h2 (sn s1.bnd s1.cnt s1.list s0) _ hst rfl
  · rw [h.toNm.ai hst]
    rfl
theorem stuck_app {s:St} (p q:Bs) (h:(Mk.feedAll s p).ended ≠ 0):Mk.feedAll s (p ++ q)=Mk.feedAll s p:=by
  have hap:∀ (l r:Bs) (s:St),Mk.feedAll s (l ++ r)=Mk.feedAll (Mk.feedAll s l) r:=by
    intro l
    induction l with
    | nil=>intro r s;rfl
    | cons y l ih=>intro r s;exact ih r _
  rw [hap,fa_stuck q _ h]
section
variable {d a t:Int}
theorem compl_names (d1:1≤d) (t1:8≤t) (a1:0≤a) (a2:a≤32) (text:Bs):∃ T,compl (Mk.make_ d a t true) text=compl (Mk.make_ d a t false) T:=by
  have hok:=upTo_ok (s:=Mk.make_ d a t true) rfl rfl text
  refine ⟨upTo (Mk.make_ d a t true) text,?_⟩
  generalize hT:upTo (Mk.make_ d a t true) text=T at hok
  unfold compl
  rw [hT]
  rcases nt_feedAll T (w_make d a t false d1 t1 a2) (v_make d a t t1 a1) (nn_make d a t) rfl with ⟨c,p,hp,q1,q2,q3,q4,q5,q6,q8,q7⟩ | ⟨c,p,x,q,hD,q1,q2,q3,q4,q5⟩
  · have h0:(Mk.feedAll (Mk.make_ d a t false) T).ended=0:=by rw [← q5];exact hok
    have hpT:=q7 h0
    subst hpT
    have e:upTo (Mk.make_ d a t false) p=p:=by unfold upTo;rw [if_pos h0]
    rw [e,rest_names q1]
  · exfalso
    have e:T=(p ++ [x]) ++ q:=by rw [hD];simp
    rw [e,stuck_app _ _ (by rw [q4];decide),q4] at hok
    exact absurd hok (by decide)
theorem compl_off (nm:Bool) (d1:1≤d) (t1:8≤t) (a1:0≤a) (a2:a≤32) (text:Bs):(Mk.feedAll (Mk.make_ d a t false) (compl (Mk.make_ d a t nm) text)).ended=0∧(Mk.close (Mk.feedAll (Mk.make_ d a t false) (compl (Mk.make_ d a t nm) text))).2=0:=by
  cases nm with
  | false =>
    have h:=compl_doc d a t d1 t1 a2 text
    exact ⟨h.1,h.2.1⟩
  | true =>
    obtain ⟨T,e⟩:=compl_names (d:=d) (a:=a) (t:=t) d1 t1 a1 a2 text
    rw [e]
    have h:=compl_doc d a t d1 t1 a2 T
    exact ⟨h.1,h.2.1⟩
end
section
variable {d a t:Int}
theorem good_two {o o1:List Bs} {ov ov1 pt:Bool} {l:List Ev} (h:GoodL d a t o ov pt l o1 ov1):ov=false→ov1=true→1≤l.length∧(o=[]→2≤l.length):=by
  induction h with
  | nil o ov pt=>intro h1 h2;rw [h1] at h2;cases h2
  | cons h r ih =>
    intro h1 h2
    rw [List.length_cons]
    refine ⟨by omega,fun ho => ?_⟩
    cases h with
    | start n ats g1 g2 g3 g4 g5 g6=>have:=(ih h1 h2).1;omega
    | fin o' n g1 g2=>rw [ho] at g1;simp at g1
    | txt val g1 g2 g3 g4=>exact absurd ho g1
    | comm val g1=>have:=(ih h1 h2).1;omega
    | pi n val g1 g2 g3=>have:=(ih h1 h2).1;omega
theorem kOne_one {c c' : Sc} {e:Ev} {m:List Ev} (h:kOne c e=some (c', m)):1≤m.length:=by
  unfold kOne at h
  split at h
  · split at h
    · cases h
    · cases h
      unfold kTold
      simp
  · split at h
    · split at h
      · cases h
      · cases h
        unfold kEnd
        simp
    · split at h
      · split at h
        · cases h
        · cases h;simp
      · cases h;simp
theorem kRes_len:∀ (l:List Ev) {c c' : Sc} {acc m:List Ev},kRes c acc l=(c', m,true)→acc.length + l.length≤m.length
  | [],c,c', acc,m,h=>by cases h;simp
  | e :: r,c,c', acc,m,h=>by
    have h:(match kOne c e with | none=>(c,acc,false) | some (c', m)=>kRes c' (acc ++ m) r)=(c', m,true):=h
    cases hk:kOne c e with
    | none=>rw [hk] at h;cases h
    | some q =>
      obtain ⟨c1,m1⟩:=q
      rw [hk] at h
      have h1:=kRes_len r h
      have h2:=kOne_one hk
      rw [List.length_append] at h1
      rw [List.length_cons]
      omega
theorem compl_1120000 (nm:Bool) (d1:1≤d) (d2:d≤64) (t1:8≤t) (t2:t≤1024) (a2:a≤32) (text:Bs) (hT:text.length≤1048576):(compl (Mk.make_ d a t nm) text).length≤1120000:=by
  have h1:=upTo_len (Mk.make_ d a t nm) text
  have h2:=rest_short (W_text d a t nm d1 t1 a2 text) (by rw [(opts_feedAll d a t nm _).1];exact d2) (by rw [(opts_feedAll d a t nm _).2.1];exact t2)
  unfold compl
  rw [List.length_append]
  have:=h2.1
  omega
structure CanD (d a t:Int) (nm:Bool) (D:Bs) (E:List Ev):Prop extends Can d a t nm D.length E where
  ed:(Mk.feedAll (Mk.make_ d a t nm) D).ended=0
  cd:(Mk.close (Mk.feedAll (Mk.make_ d a t nm) D)).2=0
  wd:wT (Mk.feedAll (Mk.make_ d a t nm) D)=E
  two:1<E.length
  sm:SmE E
theorem canD_off (d1:1≤d) (t1:8≤t) (a1:0≤a) (a2:a≤32) (D:Bs) (hD:D.length≤1120000) (he:(Mk.feedAll (Mk.make_ d a t false) D).ended=0) (hc:(Mk.close (Mk.feedAll (Mk.make_ d a t false) D)).2=0) :
    CanD d a t false D (wT (Mk.feedAll (Mk.make_ d a t false) D)):=
  ⟨can_off d1 t1 a1 a2 D he hc,he,hc,rfl,(good_two (doc_facts d1 t1 a1 a2 D he hc).1 rfl rfl).2 rfl,small_off d1 t1 a1 a2 D hD he hc⟩
theorem canD_on (d1:1≤d) (t1:8≤t) (a1:0≤a) (a2:a≤32) (D:Bs) (hD:D.length≤1120000) (he:(Mk.feedAll (Mk.make_ d a t false) D).ended=0) (hc:(Mk.close (Mk.feedAll (Mk.make_ d a t false) D)).2=0) (h8:(Mk.feedAll (Mk.make_ d a t true) D).ended ≠ 8) :
    CanD d a t true D (wT (Mk.feedAll (Mk.make_ d a t true) D)):=by
  have h2:=(good_two (doc_facts d1 t1 a1 a2 D he hc).1 rfl rfl).2 rfl
  obtain ⟨e1,_,e3,c,hk,_,_⟩:=spaces_ok d a t d1 t1 a1 a2 D h8
  have h3:=kRes_len _ hk
  exact ⟨can_on d1 t1 a1 a2 D he hc h8,e1.trans he,e3.trans hc,rfl,by simp only [List.length_nil] at h3;omega,small_on d1 t1 a1 a2 D hD he hc h8⟩
end
structure BLay where
  la:Option Addr
  lc:Nat
  oa:Option Addr
  oc:Nat
section
variable {n0:Nat} {w w' : World} {b:Nat} {code:Bs} {p:Nat} {es:List (Ev × Value)} {o:List Bs} {L:BLay}
end
section
variable {n0:Nat} {w wx w' : World} {b:Nat} {code:Bs} {p q:Nat} {es:List (Ev × Value)} {o:List Bs} {L:BLay} {v:Value} {ds:List Att}
end
set_option maxHeartbeats 1000000 in
theorem msameAttrs_eq {w:World} {v1 v2:Value} {l:List Att} (h1:w.ownsRow 0 112 3 v1 l.length (atsRow l)) (h2:w.ownsRow 0 112 3 v2 l.length (atsRow l)) :
    Calls Tryz.prog 108 #[v1,v2] w fun e w' => e = .returned (.bool true)∧∃ n,w' = w.drewN n:=by
  have hl:=own_len h1
  have HE1:=hide (fun k hk=>elem_cells atCells (fun _=>rfl) (by decide) h1 rfl k hk)
  have HE2:=hide (fun k hk=>elem_cells atCells (fun _=>rfl) (by decide) h2 rfl k hk)
  obtain ⟨a1,c1,rfl⟩:=slice_form h1
  obtain ⟨a2,c2,rfl⟩:=slice_form h2
  clear h1 h2
  have e0:((l.length:Int) != (l.length:Int))=false:=by simp
  go_enter Tryz.func108,Tryz.ntmps108
  go_wp2
  go_loopw [5] (fun i w' => ∃ k:Nat,k≤l.length∧i = .int .i64 k∧∃ n,w' = w.drewN n) (fun i _=>l.length - (intOf i).toNat)
  case atStart=>exact ⟨0,by omega,rfl,0,rfl⟩
  case round =>
    obtain ⟨k,hk,rfl,n,rfl⟩:=hrel
    by_cases hlt:k<l.length
    · obtain ⟨g1,d1,f1,_,q1⟩:=(unhide HE1) k hlt
      obtain ⟨g2,d2,f2,_,q2⟩:=(unhide HE2) k hlt
      injection f1 with f1 _ f1c
      injection f2 with f2 _ f2c
      subst f1
      subst f2
      subst f1c
      subst f2c
      have p10:=q1 0 (by decide)
      have p11:=q1 1 (by decide)
      have p12:=q1 2 (by decide)
      have p20:=q2 0 (by decide)
      have p21:=q2 1 (by decide)
      have p22:=q2 2 (by decide)
      simp [atCells] at p10 p11 p12 p20 p21 p22
      clear q1 q2 HE1 HE2
      generalize l[k]=x at *
      go_wp2
      go_quiet (fail)
      go_wp2
      go_roundw
      case rel=>exact ⟨k + 1,by omega,by go_num,_,rfl⟩
      case measure=>simp [intOf];omega
    · have e1:decide ((k:Int)<(l.length:Int))=false:=by simp;omega
      clear HE1 HE2
      go_wp2
      go_ret
      exact ⟨rfl,n,rfl⟩
set_option maxRecDepth 100000 in
theorem msameEvent_eq {w:World} {a1 a2:Option Addr} {c1 c2:Nat} (x:Ev) (h1:w.ownsRow 0 112 3 (.slice a1 x.attrs.length c1) x.attrs.length (atsRow x.attrs)) (h2:w.ownsRow 0 112 3 (.slice a2 x.attrs.length c2) x.attrs.length (atsRow x.attrs)) :
    Calls Tryz.prog 86 #[.agg #[.int .i64 x.kind,.string ⟨x.name.toArray⟩,.string ⟨x.space.toArray⟩,.string ⟨x.val.toArray⟩,.slice a1 x.attrs.length c1],.agg #[.int .i64 x.kind,.string ⟨x.name.toArray⟩,.string ⟨x.space.toArray⟩,.string ⟨x.val.toArray⟩,.slice a2 x.attrs.length c2]] w fun e w' => e = .returned (.bool true)∧Below w.heap.size w w' := by
  obtain ⟨k,n,s,v,ats⟩:=x
  dsimp only at h1 h2 ⊢
  have HA:=hide (fun (W:World) (hb:Below w.heap.size w W)=>msameAttrs_eq (owned_keep (r:=⟨112,3,_,_,_⟩) h1 fun q hq=>hb.block q (World.ownsRow.lt h1 q hq).2) (owned_keep (r:=⟨112,3,_,_,_⟩) h2 fun q hq=>hb.block q (World.ownsRow.lt h2 q hq).2))
  clear h1 h2
  have e1:(k == k)=true:=by simp
  have e2:(n == n)=true:=by simp
  have e3:(s == s)=true:=by simp
  have e4:(v == v)=true:=by simp
  have hb2:Below w.heap.size w ((w.alloc (.cells #[.int .i64 k,.string ⟨n.toArray⟩,.string ⟨s.toArray⟩,.string ⟨v.toArray⟩,.slice a1 ats.length c1] 53)).alloc (.cells #[.int .i64 k,.string ⟨n.toArray⟩,.string ⟨s.toArray⟩,.string ⟨v.toArray⟩,.slice a2 ats.length c2] 53)):=((Below.refl _ _).alloc (Nat.le_refl _) _).alloc (by simp) _
  have HB:=hide hb2
  clear hb2
  go_enter Tryz.func86,Tryz.ntmps86
  go_wp2_with fail
  refine (unhide HA _ (unhide HB)).mono ?_
  rintro e w1 ⟨rfl,m,rfl⟩
  go_wp2
  go_ret
  exact ⟨rfl,(unhide HB).trans ⟨rfl,rfl,rfl,Nat.le_of_eq (by rw [heap_drewN]),fun _ _=>by rw [heap_drewN]⟩⟩
set_option maxHeartbeats 1000000 in
set_option maxRecDepth 100000 in
theorem msameEvents_eq {w:World} {v1 v2:Value} {l:List Ev} {fp1 fp2:List Nat} (h1:Got w v1 l fp1) (h2:Got w v2 l fp2) :
    Calls Tryz.prog 71 #[v1,v2] w fun e w' => e = .returned (.bool true)∧Below w.heap.size w w' := by
  have hl:l.length≤9223372036854775807:=by
    obtain ⟨es1,hl1,ho1,_⟩:=h1.ex
    exact own_len ho1
  obtain ⟨a1,c1,hv1⟩:=h1.slice
  obtain ⟨a2,c2,hv2⟩:=h2.slice
  subst hv1 hv2
  have HG1:=hide h1
  have HG2:=hide h2
  clear h1 h2
  have e0:((l.length:Int) != (l.length:Int))=false:=by simp
  go_enter Tryz.func71,Tryz.ntmps71
  go_wp2_with fail
  go_loopg [5] l.length (fun g s5 wx=>∃ k:Nat,k≤l.length∧g=l.length - k∧s5 = .int .i64 (k:Int)∧Hid (Below w.heap.size w wx))
  case atStart=>exact ⟨0,by omega,rfl,rfl,Below.refl _ _⟩
  case round =>
    obtain ⟨k,hk,rfl,rfl,HB⟩:=hrel
    by_cases h3:k<l.length
    · have e1:decide ((k:Int)<(l.length:Int))=true:=by simp;omega
      have hk1:(k:Int)<(l.length:Int):=by omega
      obtain ⟨g,c,aa,ac,hva,hgl,p0,p1,p2,p3,p4,_,o1⟩:=(unhide HG1).at2 k h3
      obtain ⟨g', c', aa', ac', hva', hgl', q0,q1,q2,q3,q4,_,o2⟩:=(unhide HG2).at2 k h3
      injection hva with hva _ hvc
      injection hva' with hva' _ hvc'
      subst hva hva' hvc hvc'
      have hbel:=unhide HB
      have hcw:∀ j,wr.cell? ⟨g,j,none⟩=w.cell? ⟨g,j,none⟩:=fun j=>by simp only [World.cell?];rw [hbel.block _ hgl]
      have hcw' : ∀ j,wr.cell? ⟨g', j,none⟩=w.cell? ⟨g', j,none⟩:=fun j=>by simp only [World.cell?];rw [hbel.block _ hgl']
      have hgl2:g<wr.heap.size:=by have:=hbel.size;omega
      have hgl2' : g' < wr.heap.size:=by have:=hbel.size;omega
      rw [← hcw] at p0 p1 p2 p3 p4
      rw [← hcw'] at q0 q1 q2 q3 q4
      have o1' : wr.ownsRow 0 112 3 (.slice aa l[k].attrs.length ac) l[k].attrs.length (atsRow l[k].attrs):=owned_keep (r:=⟨112,3,_,_,_⟩) o1 fun q hq=>hbel.block q (World.ownsRow.lt o1 q hq).2
      have o2' : wr.ownsRow 0 112 3 (.slice aa' l[k].attrs.length ac') l[k].attrs.length (atsRow l[k].attrs):=owned_keep (r:=⟨112,3,_,_,_⟩) o2 fun q hq=>hbel.block q (World.ownsRow.lt o2 q hq).2
      have d1:wr.drew.ownsRow 0 112 3 (.slice aa l[k].attrs.length ac) l[k].attrs.length (atsRow l[k].attrs):=owned_drewN o1' 1
      have d2:wr.drew.ownsRow 0 112 3 (.slice aa' l[k].attrs.length ac') l[k].attrs.length (atsRow l[k].attrs):=owned_drewN o2' 1
      have HC:=hide (msameEvent_eq l[k] d1 d2)
      have HC0:=hide (msameEvent_eq l[k] o1' o2')
      clear hcw hcw' o1 o2 o1' o2' d1 d2 hbel HG1 HG2
      generalize l[k]=x at *
      go_wp2_with fail
      go_region_with (go_at_call 86;refine (unhide HC).mono ?_;rintro e w2 ⟨rfl,hb2⟩;have HN:=hide ((unhide HB).trans (Below.mono (show Below wr.heap.size wr w2 from ⟨hb2.os,hb2.tape,hb2.output,hb2.size,hb2.block⟩) (unhide HB).size));clear hb2 HC HC0 HB p0 p1 p2 p3 p4 q0 q1 q2 q3 q4)
      all_goals
        go_wp2
        go_roundg (l.length - (k + 1))
        case measure=>omega
        case rel=>exact ⟨k + 1,by omega,rfl,by simp,unhide HN⟩
    · have e1:decide ((k:Int)<(l.length:Int))=false:=by simp;omega
      clear HG1 HG2
      go_wp2
      go_ret
      exact ⟨rfl,unhide HB⟩
theorem endText_wT (s:St):(Mk.endText s).list=wT s:=by
  unfold Mk.endText wT
  split
  · rfl
  · rfl
theorem feed_parts {s:St} (h0:s.ended=0) (D:Bs):(Mk.feed s D).2.1=wT (Mk.feedAll s D)∧(Mk.feed s D).2.2=(Mk.feedAll s D).ended∧(Mk.close (Mk.feed s D).1).2=(Mk.close (Mk.feedAll s D)).2:=by
  unfold Mk.feed
  rw [if_pos h0]
  refine ⟨endText_wT _,rfl,?_⟩
  have e:(Mk.take (Mk.feedAll s D)).ended=(Mk.feedAll s D).ended∧Mk.isDocument (Mk.take (Mk.feedAll s D))=Mk.isDocument (Mk.feedAll s D):=by
    unfold Mk.take Mk.endText Mk.isDocument
    split <;> exact ⟨rfl,rfl⟩
  have key:∀ x y:St,x.ended=y.ended→Mk.isDocument x=Mk.isDocument y→(Mk.close x).2=(Mk.close y).2:=by
    intro x y h1 h2
    unfold Mk.close
    rw [h1,h2]
    split
    · split <;> rfl
    · rfl
  exact key _ _ e.1 e.2
structure Och (w w' : World) (b:Nat) (f:List Nat):Prop where
  os:w'.os=w.os
  tape:w'.tape=w.tape
  output:w'.output=w.output
  size:w.heap.size≤w'.heap.size
  block:∀ k,k<w.heap.size→k ≠ b→k ∉ f→w'.heap[k]? = w.heap[k]?
theorem Fr.och {w w' : World} {b:Nat} {f f' : List Nat} (h:Fr w w' b f f'):Och w w' b f:=⟨h.os,h.tape,h.output,h.size,h.block⟩
theorem Och.below {w w1 w2:World} {b:Nat} {f:List Nat} (h:Och w w1 b f) (hb:Below w1.heap.size w1 w2):Och w w2 b f:=
  ⟨hb.os.trans h.os,hb.tape.trans h.tape,hb.output.trans h.output,Nat.le_trans h.size hb.size,fun k h1 h2 h3=>(hb.block k (Nat.lt_of_lt_of_le h1 h.size)).trans (h.block k h1 h2 h3)⟩
section
variable {w:World} {b:Nat} {d a t:Int} {nm:Bool} {D:Bs} {l:List Ev} {v:Value} {fp:List Nat} {g c:Nat}
set_option maxHeartbeats 1000000 in
set_option maxRecDepth 100000 in
theorem gives_yes (h:RdL w b (Mk.make_ d a t nm) (L0 b)) (a2:a≤32) (hD:D.length≤7000000) (hG:Gl w) (hb2:6 + 1<b) (hg:g<w.heap.size) (hgb:g ≠ b) (hgf:g ∉ foot (Mk.make_ d a t nm) (L0 b))
    (hp:∀ j (hj:j<D.length),w.cell? ⟨g,j,none⟩=some (.int .u8 (D[j].toNat:Int))) (hl:Got w v l fp) (hfp:∀ k ∈ fp,k<w.heap.size∧k ≠ b∧k ∉ foot (Mk.make_ d a t nm) (L0 b))
    (h0:(Mk.feedAll (Mk.make_ d a t nm) D).ended=0) (h1:(Mk.close (Mk.feedAll (Mk.make_ d a t nm) D)).2=0) (h2:wT (Mk.feedAll (Mk.make_ d a t nm) D)=l) :
    Calls Tryz.prog 53 #[.pointer (some ⟨b,0,none⟩),.slice (some ⟨g,0,none⟩) D.length c,v] w fun e w' => e = .returned (.bool true)∧Och w w' b (foot (Mk.make_ d a t nm) (L0 b)):=by
  have HF:=hide (Feed_any h (inv_make d a t nm a2) D (by omega) hG hb2 (Int.le_refl 0) (by show (0:Int)≤1000000000;decide) g c hg hgb hgf hp)
  obtain ⟨q1,q2,q3⟩:=feed_parts (s:=Mk.make_ d a t nm) rfl D
  rw [h2] at q1
  rw [h0] at q2
  rw [h1] at q3
  rw [q1,q2] at HF
  have HGL:=hide hl
  have HFP:=hide hfp
  clear hl hfp h hp hG q1 q2 h0 h1 h2
  generalize foot (Mk.make_ d a t nm) (L0 b)=F at *
  generalize (Mk.feed (Mk.make_ d a t nm) D).1=s1 at *
  have e0:((0:Int) != 0)=false:=rfl
  have e1:((0:Int) == 0)=true:=rfl
  go_enter Tryz.func53,Tryz.ntmps53
  go_wp2_with fail
  refine (unhide HF).mono ?_
  rintro e w1 ⟨v1,fp1,L1,rfl,hg1,⟨sa,sn,sc,hv1⟩,hm1,hf1⟩
  have HC:=hide (close_any hm1.rd)
  rw [show Mk.close s1=((Mk.close s1).1,0) from by rw [← q3]] at HC
  subst hv1
  have hl1:Got w1 v l fp:=(unhide HGL).keep fun k hk=>by
    have:=unhide HFP k hk
    exact hm1.fr.block k this.1 this.2.1 this.2.2
  have HM1:=hide hm1
  have HL1:=hide (And.intro hl1 (And.intro hg1 hf1))
  clear hm1 hg1 hf1 hl1 HF HGL q3
  go_wp2_with fail
  refine (unhide HC).mono ?_
  rintro e w2 ⟨rfl,L2,hm2⟩
  have hl2:Got w2 v l fp:=(unhide HL1).1.keep fun k hk=>by
    have q:=unhide HFP k hk
    have hs1:=(unhide HM1).fr.size
    refine hm2.fr.block k (by omega) q.2.1 fun hm => ?_
    rcases (unhide HM1).fr.foot k hm with x | x
    · exact q.2.2 x
    · omega
  have hg2:Got w2 (.slice sa sn sc) l fp1:=(unhide HL1).2.1.keep fun k hk=>by
    have q:=(unhide HL1).2.2 k hk
    exact hm2.fr.block k q.2.1 q.1.2 q.2.2.1
  have HS:=hide (msameEvents_eq hg2 hl2)
  have HO:=hide ((unhide HM1).fr.trans hm2.fr)
  clear hm2 hl2 hg2 HC HM1 HL1
  go_wp2_with fail
  refine (unhide HS).mono ?_
  rintro e w3 ⟨rfl,hb3⟩
  have HOC:=hide ((unhide HO).och.below hb3)
  clear hb3 HS HO
  go_wp2
  go_ret
  exact ⟨rfl,unhide HOC⟩
end
theorem bytes_at {w:World} {base:Nat} {D:Bs} {a:Option Addr} {c:Nat} (h:w.ownsRow base 5 1 (.slice a D.length c) D.length (D.map bv)) (h0:0<D.length):∃ g,a=some ⟨g,0,none⟩∧base≤g∧g<w.heap.size∧∀ j (hj:j<D.length),w.cell? ⟨g,j,none⟩=some (.int .u8 (D[j].toNat:Int)):=by
  obtain ⟨g,c', hv,hb,hlt⟩:=World.ownsRow.form h (by omega)
  injection hv with hv _ hc
  subst hv hc
  refine ⟨g,rfl,?_,hlt,fun j hj => ?_⟩
  · exact (World.ownsRow.lt h g rfl).1
  · rw [row_cell h j (by omega)]
    simp [bv,hj]
section
variable {w:World} {d a t:Int} {nm:Bool} {l:List Ev} {v:Value} {fp:List Nat}
theorem write_pre {w1 w2:World} {b:Nat} {a1:Option Addr} {c1:Nat} (hg:Got w v l fp) (hfp:∀ k ∈ fp,k<w.heap.size) (hG:Gl w) (hn:6<w.heap.size) (hb:w.heap.size<b) (hbl:Below w.heap.size w w1) (hr:RdL w1 b (Mk.make_ d a t nm) (L0 b))
    (hrow:w2.ownsRow (w1.heap.size + 1) 5 1 (.slice a1 (wAll l).length c1) (wAll l).length ((wAll l).map bv)) (hb2:Below w1.heap.size w1 w2) (hpos:0<(wAll l).length) :
    ∃ g,a1=some ⟨g,0,none⟩∧w1.heap.size + 1≤g∧RdL w2 b (Mk.make_ d a t nm) (L0 b)∧Gl w2∧6 + 1<b∧g<w2.heap.size∧g ≠ b∧g ∉ foot (Mk.make_ d a t nm) (L0 b)∧(∀ j (hj:j<(wAll l).length),w2.cell? ⟨g,j,none⟩=some (.int .u8 ((wAll l)[j].toNat:Int)))∧Got w2 v l fp∧(∀ k ∈ fp,k<w2.heap.size∧k ≠ b∧k ∉ foot (Mk.make_ d a t nm) (L0 b))
      ∧ ∀ w3,Och w2 w3 b (foot (Mk.make_ d a t nm) (L0 b))→Below w.heap.size w w3∧w3.ownsRow w.heap.size 5 1 (.slice a1 (wAll l).length c1) (wAll l).length ((wAll l).map bv):=by
  obtain ⟨g,rfl,hg1,hg2,hcs⟩:=bytes_at hrow hpos
  have hlt:=hr.lt
  have hfl:=hr.foot_lt
  have s1:=hbl.size
  have s2:=hb2.size
  have hG1:=hG.below hn hbl
  have hG2:=hG1.below (by omega) hb2
  rw [foot_L0] at hfl ⊢
  have hgot:∀ w', (∀ k,k<w.heap.size→w'.heap[k]? = w.heap[k]?)→Got w' v l fp:=fun w' h=>hg.keep fun k hk=>h k (hfp k hk)
  refine ⟨g,rfl,hg1,hr.keep fun k hk=>hb2.block k (by rcases hk with rfl | hk;exact hlt;exact (hr.foot_lt k hk).2),hG2,by omega,hg2,by omega,by simp;omega,hcs,hgot _ fun k hk=>(hb2.block k (by omega)).trans (hbl.block k hk),fun k hk=>⟨by have:=hfp k hk;omega,by have:=hfp k hk;omega,by have:=hfp k hk;simp;omega⟩,fun w3 ho=>⟨⟨ho.os.trans (hb2.os.trans hbl.os),ho.tape.trans (hb2.tape.trans hbl.tape),ho.output.trans (hb2.output.trans hbl.output),by have:=ho.size;omega,fun k hk => ?_⟩,?_⟩⟩
  · rw [ho.block k (by omega) (by omega) (by simp;omega),hb2.block k (by omega)]
    exact hbl.block k hk
  · refine ownsRow_base (owned_keep (r:=⟨5,1,_,_,_⟩) hrow fun k hk => ?_) (by omega)
    have q:=World.ownsRow.lt hrow k hk
    exact ho.block k q.2 (by omega) (by simp;omega)
set_option maxHeartbeats 1000000 in
set_option maxRecDepth 100000 in
theorem write_yes (hg:Got w v l fp) (hfp:∀ k ∈ fp,k<w.heap.size) (d1:1≤d) (d2:d≤64) (a1:0≤a) (a2:a≤32) (t1:8≤t) (t2:t≤1024) (hs:SmE l) (hD:(wAll l).length≤7000000) (hpos:0<(wAll l).length) (hG:Gl w) (hn:6<w.heap.size)
    (h0:(Mk.feedAll (Mk.make_ d a t nm) (wAll l)).ended=0) (h1:(Mk.close (Mk.feedAll (Mk.make_ d a t nm) (wAll l))).2=0) (h2:wT (Mk.feedAll (Mk.make_ d a t nm) (wAll l))=l) :
    Calls Tryz.prog 26 #[.agg #[.int .i64 d,.int .i64 a,.int .i64 t,.bool nm],v] w fun e w' => ∃ xa xc,e = .returned (.tuple #[.slice xa (wAll l).length xc,.int .i64 0])∧w'.ownsRow w.heap.size 5 1 (.slice xa (wAll l).length xc) (wAll l).length ((wAll l).map bv)∧Below w.heap.size w w' := by
  have HN:=hide (fun W=>new_any d a t nm d1 d2 a1 a2 t1 t2 W)
  have HP:=hide (And.intro hg (And.intro hfp (And.intro hG (And.intro hs (And.intro h0 (And.intro h1 h2))))))
  obtain ⟨va,vc,rfl⟩:=hg.slice
  have e0:((0:Int) != 0)=false:=rfl
  clear hg hfp hG hs h0 h1 h2
  go_enter Tryz.func26,Tryz.ntmps26
  go_wp2_with fail
  refine (unhide HN _).mono ?_
  rintro e w1 ⟨b,rfl,hb0,hbl0,hr⟩
  have hb:w.heap.size<b:=by simp at hb0;omega
  have hbl:Below w.heap.size w w1:=Below.trans ((Below.refl _ _).alloc (Nat.le_refl _) _) (hbl0.mono (by simp))
  clear hb0 hbl0
  have hg1:Got w1 (.slice va l.length vc) l fp:=(unhide HP).1.keep fun k hk=>hbl.block k ((unhide HP).2.1 k hk)
  have HT:=hide (wtext_all hg1 (unhide HP).2.2.2.1 (by omega))
  have HR:=hide (And.intro hbl hr)
  clear hg1 hbl hr HN
  go_wp2_with fail
  refine (unhide HT).mono ?_
  rintro e w2 ⟨xa,xc,rfl,hrow,hb2⟩
  obtain ⟨g,rfl,p1,p2,p3,p4,p5,p6,p7,p8,p9,p10,p11⟩:=write_pre (unhide HP).1 (unhide HP).2.1 (unhide HP).2.2.1 hn hb (unhide HR).1 (unhide HR).2 hrow hb2 hpos
  have HGV:=hide (gives_yes (c:=xc) p2 a2 hD p3 p4 p5 p6 p7 p8 p9 p10 (unhide HP).2.2.2.2.1 (unhide HP).2.2.2.2.2.1 (unhide HP).2.2.2.2.2.2)
  have HFIN:=hide p11
  clear hrow hb2 p1 p2 p3 p4 p5 p6 p7 p8 p9 p10 p11 HT HR HP
  go_wp2_with fail
  refine (unhide HGV).mono ?_
  rintro e w3 ⟨rfl,ho⟩
  have HF:=hide (unhide HFIN w3 ho)
  clear ho HGV HFIN
  go_wp2
  go_ret2
  exact ⟨some ⟨g,0,none⟩,xc,rfl,(unhide HF).2,(unhide HF).1⟩
end
theorem row_keep {w w' : World} {base:Nat} {e:TypeId} {size:Nat} {v:Value} {n:Nat} {xs:List Value} (h:w.ownsRow base e size v n xs) (hk:∀ k,k<w.heap.size→w'.heap[k]? = w.heap[k]?):w'.ownsRow base e size v n xs:=by
  refine ⟨h.1,?_⟩
  rcases h.2 with h | ⟨g,cap,cur,h1,h2,h3,h4⟩
  · exact .inl h
  · exact .inr ⟨g,cap,cur,h1,h2,(hk g (Array.getElem?_eq_some_iff.1 h3).1).trans h3,h4⟩
set_option maxHeartbeats 4000000 in
set_option maxRecDepth 100000 in
theorem Canon_false (a b c:Int) (ha:I64 a) (hb:I64 b) (hc:I64 c) (text:Bs) (cuts:List Int) (ca:Option Addr) (cc:Nat) (hT:text.length≤1048576) (hC:cuts.length≤1120000) (w:World)
    (hcut:∀ j (hj:j<cuts.length), ∃ cg co,ca=some ⟨cg,co,none⟩∧cg<w.heap.size∧w.cell? ⟨cg,co + j,none⟩=some (.int .i64 cuts[j])) (hi64:∀ c ∈ cuts,I64 c) (hG:Gl w) (hs:6<w.heap.size) :
    Calls Tryz.prog 9 #[.int .i64 a,.int .i64 b,.int .i64 c,.bool false,.string ⟨text.toArray⟩,.slice ca cuts.length cc] w fun e w' => e = .returned (.bool true)∧Below w.heap.size w w' := by
  have HO:=hide (fun w=>options_any a b c false ha hb hc w)
  have b1:=pk_bd a 64 (by decide)
  have b2:=pk_bd b 33 (by decide)
  have b3:=pk_bd c 1017 (by decide)
  obtain ⟨d,hd⟩:∃ d,d=1 + pk a 64:=⟨_,rfl⟩
  obtain ⟨q,hq⟩:∃ q,q=pk b 33:=⟨_,rfl⟩
  obtain ⟨t,ht⟩:∃ t,t=8 + pk c 1017:=⟨_,rfl⟩
  rw [← hd, ← hq, ← ht] at HO
  have d1:1≤d:=by omega
  have d2:d≤64:=by omega
  have a1:0≤q:=by omega
  have a2:q≤32:=by omega
  have t1:8≤t:=by omega
  have t2:t≤1024:=by omega
  have hDl:=compl_1120000 (d:=d) (a:=q) (t:=t) false d1 d2 t1 t2 a2 text hT
  have hoff:=compl_off (d:=d) (a:=q) (t:=t) false d1 t1 a1 a2 text
  have hE:=canD_off d1 t1 a1 a2 _ hDl hoff.1 hoff.2
  have HCP:=hide (fun w hG hs=>completed_any d q t false d1 d2 a1 a2 t1 t2 text hT w hG hs)
  generalize compl (Mk.make_ d q t false) text=D at *
  generalize wT (Mk.feedAll (Mk.make_ d q t false) D)=E at *
  have HX:=hide (fun w hG hs=>run_any d q t false d1 d2 a1 a2 t1 t2 D [] none 0 hDl (by decide) w (fun j hj=>by cases hj) (fun c hc=>by cases hc) hG hs)
  have hev:∀ x:Bs,wT (Mk.feedAll (Mk.make_ d q t false) x)=E→join [] (out (Mk.feedAll (Mk.make_ d q t false) x).list (Mk.feedAll (Mk.make_ d q t false) x).text)=E:=fun x hx=>(evs_wT (by rw [hx];exact hE.ad)).trans hx
  have q1:=runL_eq d q t false D []
  rw [q1.1,q1.2.1,q1.2.2.1,q1.2.2.2,hev D hE.wd,hE.ed,hE.cd] at HX
  have HY:=hide (fun W hb=>run_any7 d q t false d1 d2 a1 a2 t1 t2 (wAll E) cuts ca cc (by have:=hE.le;omega) (by omega) W (fun j hj=>by
    obtain ⟨cg,co,g1,g2,g3⟩:=hcut j hj
    have hb:Below w.heap.size w W:=hb
    exact ⟨cg,co,g1,by have:=hb.size;omega,by rw [← g3];simp only [World.cell?];rw [hb.block cg g2]⟩) hi64 (hG.below hs hb) (by have:=(show Below w.heap.size w W from hb).size;omega))
  have q2:=runL_eq d q t false (wAll E) cuts
  rw [q2.1,q2.2.1,q2.2.2.1,q2.2.2.2,hev _ hE.ev,hE.en,hE.cl] at HY
  have HW:=hide (fun (W:World) (v:Value) (fp:List Nat) (hg:Got W v E fp) (hfp:∀ k ∈ fp,k<W.heap.size) (hG:Gl W) (hn:6<W.heap.size)=>write_yes (d:=d) (a:=q) (t:=t) (nm:=false) hg hfp d1 d2 a1 a2 t1 t2 hE.sm (by have:=hE.le;omega) hE.po hG hn hE.en hE.cl hE.ev)
  have h2E:=hE.two
  generalize (Mk.feedAll (Mk.make_ d q t false) D).at_=atx at *
  generalize (Mk.feedAll (Mk.make_ d q t false) (wAll E)).at_=aty at *
  generalize (runL (Mk.make_ d q t false) [] 0 D [])=R1 at *
  generalize (runL (Mk.make_ d q t false) [] 0 (wAll E) cuts)=R2 at *
  generalize wAll E=T at *
  have HG:=hide hG
  clear b1 b2 b3 hd hq ht hcut hG hi64 hE hoff ha hb hc hev q1 q2 d1 d2 a1 a2 t1 t2
  go_enter Tryz.func9,Tryz.ntmps9
  go_wp2_with fail
  refine (unhide HO _).mono ?_
  rintro e w1 ⟨rfl,hb1⟩
  go_wp2_with fail
  obtain ⟨W1,hW1⟩:∃ W1,W1=w1.alloc (.cells #[.int .i64 d,.int .i64 q,.int .i64 t,.bool false] 25):=⟨_,rfl⟩
  rw [← hW1]
  have hbW1:Below w.heap.size w W1:=by rw [hW1];exact hb1.alloc hb1.size _
  have hxW1:W1.heap[w1.heap.size]? = some (.cells #[.int .i64 d,.int .i64 q,.int .i64 t,.bool false] 25 (0,0)):=by rw [hW1];exact heap_alloc_new w1 _
  have hs1:=hbW1.size
  refine (unhide HCP W1 ((unhide HG).below hs hbW1) (by omega)).mono ?_
  rintro e w2 ⟨rfl,hb2⟩
  have hlW1:w1.heap.size<W1.heap.size:=(Array.getElem?_eq_some_iff.1 hxW1).1
  have hx2:=(hb2.block w1.heap.size hlW1).trans hxW1
  have hb02:=hbW1.trans (hb2.mono hs1)
  have hc2:∀ j,w2.cell? ⟨w1.heap.size,j,none⟩=[.int .i64 d,.int .i64 q,.int .i64 t,.bool false][j]? := fun j=>by simp [World.cell?,hx2]
  have hf2:∀ j,w2.frozen? ⟨w1.heap.size,j,none⟩=false:=fun j=>by simp [World.frozen?,hx2]
  have hl2:w1.heap.size<w2.heap.size:=(Array.getElem?_eq_some_iff.1 hx2).1
  have hs2:=hb02.size
  have HX2:=hide hx2
  have HB2:=hide hb02
  clear hW1 hb1 hb2 hbW1 hxW1 hx2 hb02 HCP HO
  go_wp2_with fail
  refine (unhide HX w2 ((unhide HG).below hs (unhide HB2)) (by omega)).mono ?_
  rintro e w3 ⟨v3,fp3,p3,rfl,hg3,hf3,hb3,hp3⟩
  obtain ⟨x3,c3,rfl⟩:=hg3.slice
  have hst3:=lay_out w3 (.slice x3 E.length c3) 0 0 atx p3 ⟨_,_,_,rfl⟩
  have hb03:=(unhide HB2).trans (hb3.mono hs2)
  have hx3:=(hb3.block w1.heap.size hl2).trans (unhide HX2)
  obtain ⟨W3,hW3⟩:∃ W3,W3=w3.alloc (.cells (outCells (.slice x3 E.length c3) 0 0 atx p3) 38 (0,0)):=⟨_,rfl⟩
  rw [← hW3] at hst3
  have hs03:=hb03.size
  have hl3:w1.heap.size<w3.heap.size:=(Array.getElem?_eq_some_iff.1 hx3).1
  have hbW3:Below w.heap.size w W3:=by rw [hW3];exact hb03.alloc (by omega) _
  have hxW3:W3.heap[w3.heap.size]? = some (.cells (outCells (.slice x3 E.length c3) 0 0 atx p3) 38 (0,0)):=by rw [hW3];exact heap_alloc_new w3 _
  have hoW3:W3.heap[w1.heap.size]? = some (.cells #[.int .i64 d,.int .i64 q,.int .i64 t,.bool false] 25 (0,0)):=by rw [hW3];exact (Below.heap_alloc _ _ _ hl3).trans hx3
  have hgW3:Got W3 (.slice x3 E.length c3) E fp3:=hg3.keep fun k hk=>by rw [hW3];exact Below.heap_alloc _ _ _ (hf3 k hk).2
  have hfW3:∀ k ∈ fp3,k<W3.heap.size:=fun k hk=>by have:=(hf3 k hk).2;rw [hW3];simp;omega
  have hlW3:w3.heap.size<W3.heap.size:=(Array.getElem?_eq_some_iff.1 hxW3).1
  have hcW3:∀ j,W3.cell? ⟨w3.heap.size,j,none⟩=[.slice x3 E.length c3,.int .i64 0,.int .i64 0,.int .i64 atx,.int .i64 p3.ln,.int .i64 p3.co,.slice p3.oa p3.on p3.oc][j]? := fun j=>by simp [World.cell?,hxW3,outCells]
  have hoc3:∀ j,W3.cell? ⟨w1.heap.size,j,none⟩=[.int .i64 d,.int .i64 q,.int .i64 t,.bool false][j]? := fun j=>by simp [World.cell?,hoW3]
  have HFN:=hide (fun w=>fine_yes (.slice x3 E.length c3) atx p3 ⟨_,_,_,rfl⟩ w)
  have HKW:=hide (And.intro hbW3 (And.intro hxW3 (And.intro hoW3 (And.intro hgW3 hfW3))))
  clear hW3 hg3 hf3 hb3 hp3 hb03 hbW3 hxW3 hgW3 hfW3 hoW3 hx3 HX HX2 HB2 hc2 hf2 hl2 hlW1 hs1
  go_wp2_with fail
  refine (unhide HFN _).mono ?_
  rintro e w4 ⟨rfl,hb4⟩
  have hK:=unhide HKW
  have hl14:w1.heap.size<W3.heap.size:=by omega
  have hx4:=(hb4.block _ hlW3).trans hK.2.1
  have ho4:=(hb4.block _ hl14).trans hK.2.2.1
  have hc4:∀ j,w4.cell? ⟨w3.heap.size,j,none⟩=[.slice x3 E.length c3,.int .i64 0,.int .i64 0,.int .i64 atx,.int .i64 p3.ln,.int .i64 p3.co,.slice p3.oa p3.on p3.oc][j]? := fun j=>by simp [World.cell?,hx4,outCells]
  have hoc4:∀ j,w4.cell? ⟨w1.heap.size,j,none⟩=[.int .i64 d,.int .i64 q,.int .i64 t,.bool false][j]? := fun j=>by simp [World.cell?,ho4]
  have hl4:w3.heap.size<w4.heap.size:=(Array.getElem?_eq_some_iff.1 hx4).1
  have hg4:Got w4 (.slice x3 E.length c3) E fp3:=hK.2.2.2.1.keep fun k hk=>hb4.block k (hK.2.2.2.2 k hk)
  have hs4:=hb4.size
  have hf4:∀ k ∈ fp3,k<w4.heap.size:=fun k hk=>by have:=hK.2.2.2.2 k hk;omega
  have hb04:=hK.1.trans (hb4.mono hK.1.size)
  have hs04:=hb04.size
  have HK4:=hide (And.intro hb04 (And.intro hx4 (And.intro ho4 (And.intro hg4 hf4))))
  clear hK hb4 hx4 ho4 hg4 hf4 hb04 HKW HFN hcW3 hoc3 hst3
  go_wp2_with fail
  refine (unhide HW w4 _ fp3 (unhide HK4).2.2.2.1 (unhide HK4).2.2.2.2 ((unhide HG).below hs (unhide HK4).1) (by omega)).mono ?_
  rintro e w5 ⟨xa,xc,rfl,hrow,hb5⟩
  have hK:=unhide HK4
  have hb05:=hK.1.trans (hb5.mono hs04)
  have hcv:=conv_row hrow
  have hx5:=(hb5.block _ hl4).trans hK.2.1
  have ho5:=(hb5.block w1.heap.size (by omega)).trans hK.2.2.1
  have hc5:∀ j,w5.cell? ⟨w3.heap.size,j,none⟩=[.slice x3 E.length c3,.int .i64 0,.int .i64 0,.int .i64 atx,.int .i64 p3.ln,.int .i64 p3.co,.slice p3.oa p3.on p3.oc][j]? := fun j=>by simp [World.cell?,hx5,outCells]
  have hoc5:∀ j,w5.cell? ⟨w1.heap.size,j,none⟩=[.int .i64 d,.int .i64 q,.int .i64 t,.bool false][j]? := fun j=>by simp [World.cell?,ho5]
  have hl5:w3.heap.size<w5.heap.size:=(Array.getElem?_eq_some_iff.1 hx5).1
  have hg5:Got w5 (.slice x3 E.length c3) E fp3:=hK.2.2.2.1.keep fun k hk=>hb5.block k (hK.2.2.2.2 k hk)
  have hs5:=hb5.size
  have hf5:∀ k ∈ fp3,k<w5.heap.size:=fun k hk=>by have:=hK.2.2.2.2 k hk;omega
  have HR5:=hide (unhide HY w5 hb05)
  have HROW:=hide hrow
  have HK5:=hide (And.intro hb05 (And.intro hx5 (And.intro ho5 (And.intro hg5 hf5))))
  clear hK hb5 hx5 ho5 hg5 hf5 hb05 HK4 hc4 hoc4 hrow HY
  go_wp2_with fail
  refine (unhide HR5).mono ?_
  rintro e w6 ⟨v6,fp6,p6,rfl,hg6,hf6,hb6,hp6⟩
  obtain ⟨x6,c6,rfl⟩:=hg6.slice
  have hst6:=lay_out w6 (.slice x6 E.length c6) 0 0 aty p6 ⟨_,_,_,rfl⟩
  have hK:=unhide HK5
  have hb06:=hK.1.trans (hb6.mono hK.1.size)
  have hx6:=(hb6.block _ hl5).trans hK.2.1
  have ho6:=(hb6.block w1.heap.size (by omega)).trans hK.2.2.1
  have hl6:w3.heap.size<w6.heap.size:=(Array.getElem?_eq_some_iff.1 hx6).1
  have hs6:=hb6.size
  have hs06:=hb06.size
  obtain ⟨W6,hW6⟩:∃ W6,W6=w6.alloc (.cells (outCells (.slice x6 E.length c6) 0 0 aty p6) 38 (0,0)):=⟨_,rfl⟩
  rw [← hW6] at hst6
  have hbA:Below w6.heap.size w6 W6:=by rw [hW6];exact (Below.refl _ _).alloc (Nat.le_refl _) _
  have hbW6:Below w.heap.size w W6:=hb06.trans (hbA.mono hs06)
  have hyW6:W6.heap[w6.heap.size]? = some (.cells (outCells (.slice x6 E.length c6) 0 0 aty p6) 38 (0,0)):=by rw [hW6];exact heap_alloc_new w6 _
  have hxW6:=(hbA.block w3.heap.size hl6).trans hx6
  have hoW6:=(hbA.block w1.heap.size (by omega)).trans ho6
  have hgx6:Got W6 (.slice x3 E.length c3) E fp3:=(hK.2.2.2.1.keep fun k hk=>hb6.block k (hK.2.2.2.2 k hk)).keep fun k hk=>hbA.block k (by have:=hK.2.2.2.2 k hk;omega)
  have hgy6:Got W6 (.slice x6 E.length c6) E fp6:=hg6.keep fun k hk=>hbA.block k (hf6 k hk).2
  have hsA:=hbA.size
  have hfy6:∀ k ∈ fp6,k<W6.heap.size:=fun k hk=>by have:=(hf6 k hk).2;omega
  have hlW6:w6.heap.size<W6.heap.size:=(Array.getElem?_eq_some_iff.1 hyW6).1
  have HROW6:=hide (row_keep (unhide HROW) fun k hk=>(hbA.block k (by omega)).trans (hb6.block k hk))
  have hcx:∀ j,W6.cell? ⟨w3.heap.size,j,none⟩=[.slice x3 E.length c3,.int .i64 0,.int .i64 0,.int .i64 atx,.int .i64 p3.ln,.int .i64 p3.co,.slice p3.oa p3.on p3.oc][j]? := fun j=>by simp [World.cell?,hxW6,outCells]
  have hcy:∀ j,W6.cell? ⟨w6.heap.size,j,none⟩=[.slice x6 E.length c6,.int .i64 0,.int .i64 0,.int .i64 aty,.int .i64 p6.ln,.int .i64 p6.co,.slice p6.oa p6.on p6.oc][j]? := fun j=>by simp [World.cell?,hyW6,outCells]
  have hco:∀ j,W6.cell? ⟨w1.heap.size,j,none⟩=[.int .i64 d,.int .i64 q,.int .i64 t,.bool false][j]? := fun j=>by simp [World.cell?,hoW6]
  have HSE:=hide (sameEvents_eq hgx6 hgy6)
  have HFN:=hide (fun w=>fine_yes (.slice x6 E.length c6) aty p6 ⟨_,_,_,rfl⟩ w)
  have HK6:=hide (And.intro hbW6 (And.intro hxW6 (And.intro hyW6 (And.intro hoW6 (And.intro hgy6 hfy6)))))
  clear hK hW6 hg6 hf6 hb6 hp6 hb06 hbA hbW6 hyW6 hxW6 hoW6 hgx6 hgy6 hfy6 hx6 ho6 HK5 HR5 hc5 hoc5 hcv
  go_wp2_with fail
  refine (unhide HSE).mono ?_
  rintro e w7 ⟨rfl,m,rfl⟩
  clear HSE
  have hK:=unhide HK6
  have hcy7:∀ j,(W6.drewN m).cell? ⟨w6.heap.size,j,none⟩=[.slice x6 E.length c6,.int .i64 0,.int .i64 0,.int .i64 aty,.int .i64 p6.ln,.int .i64 p6.co,.slice p6.oa p6.on p6.oc][j]? := fun j=>by simp only [World.cell?,heap_drewN];exact hcy j
  clear hK hcx hcy hco
  go_wp2_with fail
  refine (unhide HFN _).mono ?_
  rintro e w8 ⟨rfl,hb8⟩
  rw [heap_drewN] at hb8
  have hK:=unhide HK6
  have hk8:∀ k,k<W6.heap.size→w8.heap[k]? = W6.heap[k]? := fun k hk=>by rw [hb8.block k hk,heap_drewN]
  have hs8:W6.heap.size≤w8.heap.size:=by have:=hb8.size;rwa [heap_drewN] at this
  have hb08:Below w.heap.size w w8:=(hK.1.trans ⟨rfl,rfl,rfl,Nat.le_of_eq (by rw [heap_drewN]),fun _ _=>by rw [heap_drewN]⟩:Below w.heap.size w (W6.drewN m)).trans (hb8.mono (by have:=hK.1.size;omega))
  have hx8:=(hk8 w3.heap.size (by omega)).trans hK.2.1
  have hy8:=(hk8 w6.heap.size hlW6).trans hK.2.2.1
  have ho8:=(hk8 w1.heap.size (by omega)).trans hK.2.2.2.1
  have hg8:=hK.2.2.2.2.1.keep fun k hk=>hk8 k (hK.2.2.2.2.2 k hk)
  have hf8:∀ k ∈ fp6,k<w8.heap.size:=fun k hk=>by have:=hK.2.2.2.2.2 k hk;omega
  have hcy8:∀ j,w8.cell? ⟨w6.heap.size,j,none⟩=[.slice x6 E.length c6,.int .i64 0,.int .i64 0,.int .i64 aty,.int .i64 p6.ln,.int .i64 p6.co,.slice p6.oa p6.on p6.oc][j]? := fun j=>by simp [World.cell?,hy8,outCells]
  have hco8:∀ j,w8.cell? ⟨w1.heap.size,j,none⟩=[.int .i64 d,.int .i64 q,.int .i64 t,.bool false][j]? := fun j=>by simp [World.cell?,ho8]
  have HROW8:=hide (row_keep (unhide HROW6) fun k hk=>hk8 k hk)
  have hs08:=hb08.size
  have HW8:=hide (unhide HW w8 _ fp6 hg8 hf8 ((unhide HG).below hs hb08) (by omega))
  have HK8:=hide (And.intro hb08 hx8)
  clear hK hk8 hb08 hx8 hy8 ho8 hg8 hf8 hcy7 HROW6 HK6 HFN HW hb8
  go_wp2_with fail
  refine (unhide HW8).mono ?_
  rintro e w9 ⟨ya,yc,rfl,hrow9,hb9⟩
  have hK:=unhide HK8
  have hs9:=hb9.size
  have hx9:=(hb9.block w3.heap.size (by omega)).trans hK.2
  have hcx9:∀ j,w9.cell? ⟨w3.heap.size,j,none⟩=[.slice x3 E.length c3,.int .i64 0,.int .i64 0,.int .i64 atx,.int .i64 p3.ln,.int .i64 p3.co,.slice p3.oa p3.on p3.oc][j]? := fun j=>by simp [World.cell?,hx9,outCells]
  have hcv1:=conv_row hrow9
  have hcv2:=conv_row (row_keep (unhide HROW8) fun k hk=>hb9.block k hk)
  have hb09:=hK.1.trans (hb9.mono hK.1.size)
  have HB9:=hide hb09
  have e0:((0:Int) == 0)=true:=rfl
  have e1:decide ((1:Int)<(E.length:Int))=true:=by simp;omega
  have e2:decide (1<E.length)=true:=by simp;omega
  clear hK hx9 hrow9 hb9 hb09 HROW8 HW8 HK8 hcy8 hco8 HROW
  go_wp2
  go_ret
  exact ⟨rfl,unhide HB9⟩
set_option maxHeartbeats 4000000 in
set_option maxRecDepth 100000 in
theorem Canon_ok (a b c:Int) (ha:I64 a) (hb:I64 b) (hc:I64 c) (text:Bs) (cuts:List Int) (ca:Option Addr) (cc:Nat) (hT:text.length≤1048576) (hC:cuts.length≤1120000) (w:World)
    (hcut:∀ j (hj:j<cuts.length), ∃ cg co,ca=some ⟨cg,co,none⟩∧cg<w.heap.size∧w.cell? ⟨cg,co + j,none⟩=some (.int .i64 cuts[j])) (hi64:∀ c ∈ cuts,I64 c) (hG:Gl w) (hs:6<w.heap.size) (h8:(Mk.feedAll (Mk.make_ (1 + pk a 64) (pk b 33) (8 + pk c 1017) true) (compl (Mk.make_ (1 + pk a 64) (pk b 33) (8 + pk c 1017) true) text)).ended ≠ 8) :
    Calls Tryz.prog 9 #[.int .i64 a,.int .i64 b,.int .i64 c,.bool true,.string ⟨text.toArray⟩,.slice ca cuts.length cc] w fun e w' => e = .returned (.bool true)∧Below w.heap.size w w' := by
  have HO:=hide (fun w=>options_any a b c true ha hb hc w)
  have b1:=pk_bd a 64 (by decide)
  have b2:=pk_bd b 33 (by decide)
  have b3:=pk_bd c 1017 (by decide)
  obtain ⟨d,hd⟩:∃ d,d=1 + pk a 64:=⟨_,rfl⟩
  obtain ⟨q,hq⟩:∃ q,q=pk b 33:=⟨_,rfl⟩
  obtain ⟨t,ht⟩:∃ t,t=8 + pk c 1017:=⟨_,rfl⟩
  rw [← hd, ← hq, ← ht] at HO
  rw [← hd, ← hq, ← ht] at h8
  have d1:1≤d:=by omega
  have d2:d≤64:=by omega
  have a1:0≤q:=by omega
  have a2:q≤32:=by omega
  have t1:8≤t:=by omega
  have t2:t≤1024:=by omega
  have hDl:=compl_1120000 (d:=d) (a:=q) (t:=t) true d1 d2 t1 t2 a2 text hT
  have hoff:=compl_off (d:=d) (a:=q) (t:=t) true d1 t1 a1 a2 text
  have hE:=canD_on d1 t1 a1 a2 _ hDl hoff.1 hoff.2 h8
  have HCP:=hide (fun w hG hs=>completed_any d q t true d1 d2 a1 a2 t1 t2 text hT w hG hs)
  generalize compl (Mk.make_ d q t true) text=D at *
  generalize wT (Mk.feedAll (Mk.make_ d q t true) D)=E at *
  have HX:=hide (fun w hG hs=>run_any d q t true d1 d2 a1 a2 t1 t2 D [] none 0 hDl (by decide) w (fun j hj=>by cases hj) (fun c hc=>by cases hc) hG hs)
  have hev:∀ x:Bs,wT (Mk.feedAll (Mk.make_ d q t true) x)=E→join [] (out (Mk.feedAll (Mk.make_ d q t true) x).list (Mk.feedAll (Mk.make_ d q t true) x).text)=E:=fun x hx=>(evs_wT (by rw [hx];exact hE.ad)).trans hx
  have q1:=runL_eq d q t true D []
  rw [q1.1,q1.2.1,q1.2.2.1,q1.2.2.2,hev D hE.wd,hE.ed,hE.cd] at HX
  have HY:=hide (fun W hb=>run_any7 d q t true d1 d2 a1 a2 t1 t2 (wAll E) cuts ca cc (by have:=hE.le;omega) (by omega) W (fun j hj=>by
    obtain ⟨cg,co,g1,g2,g3⟩:=hcut j hj
    have hb:Below w.heap.size w W:=hb
    exact ⟨cg,co,g1,by have:=hb.size;omega,by rw [← g3];simp only [World.cell?];rw [hb.block cg g2]⟩) hi64 (hG.below hs hb) (by have:=(show Below w.heap.size w W from hb).size;omega))
  have q2:=runL_eq d q t true (wAll E) cuts
  rw [q2.1,q2.2.1,q2.2.2.1,q2.2.2.2,hev _ hE.ev,hE.en,hE.cl] at HY
  have HW:=hide (fun (W:World) (v:Value) (fp:List Nat) (hg:Got W v E fp) (hfp:∀ k ∈ fp,k<W.heap.size) (hG:Gl W) (hn:6<W.heap.size)=>write_yes (d:=d) (a:=q) (t:=t) (nm:=true) hg hfp d1 d2 a1 a2 t1 t2 hE.sm (by have:=hE.le;omega) hE.po hG hn hE.en hE.cl hE.ev)
  have h2E:=hE.two
  generalize (Mk.feedAll (Mk.make_ d q t true) D).at_=atx at *
  generalize (Mk.feedAll (Mk.make_ d q t true) (wAll E)).at_=aty at *
  generalize (runL (Mk.make_ d q t true) [] 0 D [])=R1 at *
  generalize (runL (Mk.make_ d q t true) [] 0 (wAll E) cuts)=R2 at *
  generalize wAll E=T at *
  have HG:=hide hG
  clear b1 b2 b3 hd hq ht hcut hG hi64 hE hoff ha hb hc h8 hev q1 q2 d1 d2 a1 a2 t1 t2
  have e8:((0:Int) == 8)=false:=rfl
  go_enter Tryz.func9,Tryz.ntmps9
  go_wp2_with fail
  refine (unhide HO _).mono ?_
  rintro e w1 ⟨rfl,hb1⟩
  go_wp2_with fail
  obtain ⟨W1,hW1⟩:∃ W1,W1=w1.alloc (.cells #[.int .i64 d,.int .i64 q,.int .i64 t,.bool true] 25):=⟨_,rfl⟩
  rw [← hW1]
  have hbW1:Below w.heap.size w W1:=by rw [hW1];exact hb1.alloc hb1.size _
  have hxW1:W1.heap[w1.heap.size]? = some (.cells #[.int .i64 d,.int .i64 q,.int .i64 t,.bool true] 25 (0,0)):=by rw [hW1];exact heap_alloc_new w1 _
  have hs1:=hbW1.size
  refine (unhide HCP W1 ((unhide HG).below hs hbW1) (by omega)).mono ?_
  rintro e w2 ⟨rfl,hb2⟩
  have hlW1:w1.heap.size<W1.heap.size:=(Array.getElem?_eq_some_iff.1 hxW1).1
  have hx2:=(hb2.block w1.heap.size hlW1).trans hxW1
  have hb02:=hbW1.trans (hb2.mono hs1)
  have hc2:∀ j,w2.cell? ⟨w1.heap.size,j,none⟩=[.int .i64 d,.int .i64 q,.int .i64 t,.bool true][j]? := fun j=>by simp [World.cell?,hx2]
  have hf2:∀ j,w2.frozen? ⟨w1.heap.size,j,none⟩=false:=fun j=>by simp [World.frozen?,hx2]
  have hl2:w1.heap.size<w2.heap.size:=(Array.getElem?_eq_some_iff.1 hx2).1
  have hs2:=hb02.size
  have HX2:=hide hx2
  have HB2:=hide hb02
  clear hW1 hb1 hb2 hbW1 hxW1 hx2 hb02 HCP HO
  go_wp2_with fail
  refine (unhide HX w2 ((unhide HG).below hs (unhide HB2)) (by omega)).mono ?_
  rintro e w3 ⟨v3,fp3,p3,rfl,hg3,hf3,hb3,hp3⟩
  obtain ⟨x3,c3,rfl⟩:=hg3.slice
  have hst3:=lay_out w3 (.slice x3 E.length c3) 0 0 atx p3 ⟨_,_,_,rfl⟩
  have hb03:=(unhide HB2).trans (hb3.mono hs2)
  have hx3:=(hb3.block w1.heap.size hl2).trans (unhide HX2)
  obtain ⟨W3,hW3⟩:∃ W3,W3=w3.alloc (.cells (outCells (.slice x3 E.length c3) 0 0 atx p3) 38 (0,0)):=⟨_,rfl⟩
  rw [← hW3] at hst3
  have hs03:=hb03.size
  have hl3:w1.heap.size<w3.heap.size:=(Array.getElem?_eq_some_iff.1 hx3).1
  have hbW3:Below w.heap.size w W3:=by rw [hW3];exact hb03.alloc (by omega) _
  have hxW3:W3.heap[w3.heap.size]? = some (.cells (outCells (.slice x3 E.length c3) 0 0 atx p3) 38 (0,0)):=by rw [hW3];exact heap_alloc_new w3 _
  have hoW3:W3.heap[w1.heap.size]? = some (.cells #[.int .i64 d,.int .i64 q,.int .i64 t,.bool true] 25 (0,0)):=by rw [hW3];exact (Below.heap_alloc _ _ _ hl3).trans hx3
  have hgW3:Got W3 (.slice x3 E.length c3) E fp3:=hg3.keep fun k hk=>by rw [hW3];exact Below.heap_alloc _ _ _ (hf3 k hk).2
  have hfW3:∀ k ∈ fp3,k<W3.heap.size:=fun k hk=>by have:=(hf3 k hk).2;rw [hW3];simp;omega
  have hlW3:w3.heap.size<W3.heap.size:=(Array.getElem?_eq_some_iff.1 hxW3).1
  have hcW3:∀ j,W3.cell? ⟨w3.heap.size,j,none⟩=[.slice x3 E.length c3,.int .i64 0,.int .i64 0,.int .i64 atx,.int .i64 p3.ln,.int .i64 p3.co,.slice p3.oa p3.on p3.oc][j]? := fun j=>by simp [World.cell?,hxW3,outCells]
  have hoc3:∀ j,W3.cell? ⟨w1.heap.size,j,none⟩=[.int .i64 d,.int .i64 q,.int .i64 t,.bool true][j]? := fun j=>by simp [World.cell?,hoW3]
  have HFN:=hide (fun w=>fine_yes (.slice x3 E.length c3) atx p3 ⟨_,_,_,rfl⟩ w)
  have HKW:=hide (And.intro hbW3 (And.intro hxW3 (And.intro hoW3 (And.intro hgW3 hfW3))))
  clear hW3 hg3 hf3 hb3 hp3 hb03 hbW3 hxW3 hgW3 hfW3 hoW3 hx3 HX HX2 HB2 hc2 hf2 hl2 hlW1 hs1
  go_wp2_with fail
  refine (unhide HFN _).mono ?_
  rintro e w4 ⟨rfl,hb4⟩
  have hK:=unhide HKW
  have hl14:w1.heap.size<W3.heap.size:=by omega
  have hx4:=(hb4.block _ hlW3).trans hK.2.1
  have ho4:=(hb4.block _ hl14).trans hK.2.2.1
  have hc4:∀ j,w4.cell? ⟨w3.heap.size,j,none⟩=[.slice x3 E.length c3,.int .i64 0,.int .i64 0,.int .i64 atx,.int .i64 p3.ln,.int .i64 p3.co,.slice p3.oa p3.on p3.oc][j]? := fun j=>by simp [World.cell?,hx4,outCells]
  have hoc4:∀ j,w4.cell? ⟨w1.heap.size,j,none⟩=[.int .i64 d,.int .i64 q,.int .i64 t,.bool true][j]? := fun j=>by simp [World.cell?,ho4]
  have hl4:w3.heap.size<w4.heap.size:=(Array.getElem?_eq_some_iff.1 hx4).1
  have hg4:Got w4 (.slice x3 E.length c3) E fp3:=hK.2.2.2.1.keep fun k hk=>hb4.block k (hK.2.2.2.2 k hk)
  have hs4:=hb4.size
  have hf4:∀ k ∈ fp3,k<w4.heap.size:=fun k hk=>by have:=hK.2.2.2.2 k hk;omega
  have hb04:=hK.1.trans (hb4.mono hK.1.size)
  have hs04:=hb04.size
  have HK4:=hide (And.intro hb04 (And.intro hx4 (And.intro ho4 (And.intro hg4 hf4))))
  clear hK hb4 hx4 ho4 hg4 hf4 hb04 HKW HFN hcW3 hoc3 hst3
  go_wp2_with fail
  refine (unhide HW w4 _ fp3 (unhide HK4).2.2.2.1 (unhide HK4).2.2.2.2 ((unhide HG).below hs (unhide HK4).1) (by omega)).mono ?_
  rintro e w5 ⟨xa,xc,rfl,hrow,hb5⟩
  have hK:=unhide HK4
  have hb05:=hK.1.trans (hb5.mono hs04)
  have hcv:=conv_row hrow
  have hx5:=(hb5.block _ hl4).trans hK.2.1
  have ho5:=(hb5.block w1.heap.size (by omega)).trans hK.2.2.1
  have hc5:∀ j,w5.cell? ⟨w3.heap.size,j,none⟩=[.slice x3 E.length c3,.int .i64 0,.int .i64 0,.int .i64 atx,.int .i64 p3.ln,.int .i64 p3.co,.slice p3.oa p3.on p3.oc][j]? := fun j=>by simp [World.cell?,hx5,outCells]
  have hoc5:∀ j,w5.cell? ⟨w1.heap.size,j,none⟩=[.int .i64 d,.int .i64 q,.int .i64 t,.bool true][j]? := fun j=>by simp [World.cell?,ho5]
  have hl5:w3.heap.size<w5.heap.size:=(Array.getElem?_eq_some_iff.1 hx5).1
  have hg5:Got w5 (.slice x3 E.length c3) E fp3:=hK.2.2.2.1.keep fun k hk=>hb5.block k (hK.2.2.2.2 k hk)
  have hs5:=hb5.size
  have hf5:∀ k ∈ fp3,k<w5.heap.size:=fun k hk=>by have:=hK.2.2.2.2 k hk;omega
  have HR5:=hide (unhide HY w5 hb05)
  have HROW:=hide hrow
  have HK5:=hide (And.intro hb05 (And.intro hx5 (And.intro ho5 (And.intro hg5 hf5))))
  clear hK hb5 hx5 ho5 hg5 hf5 hb05 HK4 hc4 hoc4 hrow HY
  go_wp2_with fail
  refine (unhide HR5).mono ?_
  rintro e w6 ⟨v6,fp6,p6,rfl,hg6,hf6,hb6,hp6⟩
  obtain ⟨x6,c6,rfl⟩:=hg6.slice
  have hst6:=lay_out w6 (.slice x6 E.length c6) 0 0 aty p6 ⟨_,_,_,rfl⟩
  have hK:=unhide HK5
  have hb06:=hK.1.trans (hb6.mono hK.1.size)
  have hx6:=(hb6.block _ hl5).trans hK.2.1
  have ho6:=(hb6.block w1.heap.size (by omega)).trans hK.2.2.1
  have hl6:w3.heap.size<w6.heap.size:=(Array.getElem?_eq_some_iff.1 hx6).1
  have hs6:=hb6.size
  have hs06:=hb06.size
  obtain ⟨W6,hW6⟩:∃ W6,W6=w6.alloc (.cells (outCells (.slice x6 E.length c6) 0 0 aty p6) 38 (0,0)):=⟨_,rfl⟩
  rw [← hW6] at hst6
  have hbA:Below w6.heap.size w6 W6:=by rw [hW6];exact (Below.refl _ _).alloc (Nat.le_refl _) _
  have hbW6:Below w.heap.size w W6:=hb06.trans (hbA.mono hs06)
  have hyW6:W6.heap[w6.heap.size]? = some (.cells (outCells (.slice x6 E.length c6) 0 0 aty p6) 38 (0,0)):=by rw [hW6];exact heap_alloc_new w6 _
  have hxW6:=(hbA.block w3.heap.size hl6).trans hx6
  have hoW6:=(hbA.block w1.heap.size (by omega)).trans ho6
  have hgx6:Got W6 (.slice x3 E.length c3) E fp3:=(hK.2.2.2.1.keep fun k hk=>hb6.block k (hK.2.2.2.2 k hk)).keep fun k hk=>hbA.block k (by have:=hK.2.2.2.2 k hk;omega)
  have hgy6:Got W6 (.slice x6 E.length c6) E fp6:=hg6.keep fun k hk=>hbA.block k (hf6 k hk).2
  have hsA:=hbA.size
  have hfy6:∀ k ∈ fp6,k<W6.heap.size:=fun k hk=>by have:=(hf6 k hk).2;omega
  have hlW6:w6.heap.size<W6.heap.size:=(Array.getElem?_eq_some_iff.1 hyW6).1
  have HROW6:=hide (row_keep (unhide HROW) fun k hk=>(hbA.block k (by omega)).trans (hb6.block k hk))
  have hcx:∀ j,W6.cell? ⟨w3.heap.size,j,none⟩=[.slice x3 E.length c3,.int .i64 0,.int .i64 0,.int .i64 atx,.int .i64 p3.ln,.int .i64 p3.co,.slice p3.oa p3.on p3.oc][j]? := fun j=>by simp [World.cell?,hxW6,outCells]
  have hcy:∀ j,W6.cell? ⟨w6.heap.size,j,none⟩=[.slice x6 E.length c6,.int .i64 0,.int .i64 0,.int .i64 aty,.int .i64 p6.ln,.int .i64 p6.co,.slice p6.oa p6.on p6.oc][j]? := fun j=>by simp [World.cell?,hyW6,outCells]
  have hco:∀ j,W6.cell? ⟨w1.heap.size,j,none⟩=[.int .i64 d,.int .i64 q,.int .i64 t,.bool true][j]? := fun j=>by simp [World.cell?,hoW6]
  have HSE:=hide (sameEvents_eq hgx6 hgy6)
  have HFN:=hide (fun w=>fine_yes (.slice x6 E.length c6) aty p6 ⟨_,_,_,rfl⟩ w)
  have HK6:=hide (And.intro hbW6 (And.intro hxW6 (And.intro hyW6 (And.intro hoW6 (And.intro hgy6 hfy6)))))
  clear hK hW6 hg6 hf6 hb6 hp6 hb06 hbA hbW6 hyW6 hxW6 hoW6 hgx6 hgy6 hfy6 hx6 ho6 HK5 HR5 hc5 hoc5 hcv
  go_wp2_with fail
  refine (unhide HSE).mono ?_
  rintro e w7 ⟨rfl,m,rfl⟩
  clear HSE
  have hK:=unhide HK6
  have hcy7:∀ j,(W6.drewN m).cell? ⟨w6.heap.size,j,none⟩=[.slice x6 E.length c6,.int .i64 0,.int .i64 0,.int .i64 aty,.int .i64 p6.ln,.int .i64 p6.co,.slice p6.oa p6.on p6.oc][j]? := fun j=>by simp only [World.cell?,heap_drewN];exact hcy j
  clear hK hcx hcy hco
  go_wp2_with fail
  refine (unhide HFN _).mono ?_
  rintro e w8 ⟨rfl,hb8⟩
  rw [heap_drewN] at hb8
  have hK:=unhide HK6
  have hk8:∀ k,k<W6.heap.size→w8.heap[k]? = W6.heap[k]? := fun k hk=>by rw [hb8.block k hk,heap_drewN]
  have hs8:W6.heap.size≤w8.heap.size:=by have:=hb8.size;rwa [heap_drewN] at this
  have hb08:Below w.heap.size w w8:=(hK.1.trans ⟨rfl,rfl,rfl,Nat.le_of_eq (by rw [heap_drewN]),fun _ _=>by rw [heap_drewN]⟩:Below w.heap.size w (W6.drewN m)).trans (hb8.mono (by have:=hK.1.size;omega))
  have hx8:=(hk8 w3.heap.size (by omega)).trans hK.2.1
  have hy8:=(hk8 w6.heap.size hlW6).trans hK.2.2.1
  have ho8:=(hk8 w1.heap.size (by omega)).trans hK.2.2.2.1
  have hg8:=hK.2.2.2.2.1.keep fun k hk=>hk8 k (hK.2.2.2.2.2 k hk)
  have hf8:∀ k ∈ fp6,k<w8.heap.size:=fun k hk=>by have:=hK.2.2.2.2.2 k hk;omega
  have hcy8:∀ j,w8.cell? ⟨w6.heap.size,j,none⟩=[.slice x6 E.length c6,.int .i64 0,.int .i64 0,.int .i64 aty,.int .i64 p6.ln,.int .i64 p6.co,.slice p6.oa p6.on p6.oc][j]? := fun j=>by simp [World.cell?,hy8,outCells]
  have hco8:∀ j,w8.cell? ⟨w1.heap.size,j,none⟩=[.int .i64 d,.int .i64 q,.int .i64 t,.bool true][j]? := fun j=>by simp [World.cell?,ho8]
  have HROW8:=hide (row_keep (unhide HROW6) fun k hk=>hk8 k hk)
  have hs08:=hb08.size
  have HW8:=hide (unhide HW w8 _ fp6 hg8 hf8 ((unhide HG).below hs hb08) (by omega))
  have HK8:=hide (And.intro hb08 hx8)
  clear hK hk8 hb08 hx8 hy8 ho8 hg8 hf8 hcy7 HROW6 HK6 HFN HW hb8
  go_wp2_with fail
  refine (unhide HW8).mono ?_
  rintro e w9 ⟨ya,yc,rfl,hrow9,hb9⟩
  have hK:=unhide HK8
  have hs9:=hb9.size
  have hx9:=(hb9.block w3.heap.size (by omega)).trans hK.2
  have hcx9:∀ j,w9.cell? ⟨w3.heap.size,j,none⟩=[.slice x3 E.length c3,.int .i64 0,.int .i64 0,.int .i64 atx,.int .i64 p3.ln,.int .i64 p3.co,.slice p3.oa p3.on p3.oc][j]? := fun j=>by simp [World.cell?,hx9,outCells]
  have hcv1:=conv_row hrow9
  have hcv2:=conv_row (row_keep (unhide HROW8) fun k hk=>hb9.block k hk)
  have hb09:=hK.1.trans (hb9.mono hK.1.size)
  have HB9:=hide hb09
  have e0:((0:Int) == 0)=true:=rfl
  have e1:decide ((1:Int)<(E.length:Int))=true:=by simp;omega
  have e2:decide (1<E.length)=true:=by simp;omega
  clear hK hx9 hrow9 hb9 hb09 HROW8 HW8 HK8 hcy8 hco8 HROW
  go_wp2
  go_ret
  exact ⟨rfl,unhide HB9⟩
end Go.Proofs.YtmgfijllcdadgabGreatDoor
