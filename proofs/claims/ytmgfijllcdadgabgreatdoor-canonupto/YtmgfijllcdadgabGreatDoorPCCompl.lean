/- Compl, Ways, Nest7, SpaA, SpaB, SpaC, Blt4, Cn6, WcA, WcB, WcC, NstA, NstB, NstC, WcD, SkA, SkB, SkC, SkD, SkP, SkE, SkF, SkG, SkH, NstD, SkI, SkJ -/
import Derived.Test.YtmgfijllcdadgabGreatDoorPCRestE
import Derived.Test.YtmgfijllcdadgabGreatDoorPCWay8
import Derived.Test.YtmgfijllcdadgabGreatDoorPCSplit
import Derived.Laws.CopyOwn
import Derived.Laws.Tables
import Derived.Test.YtmgfijllcdadgabGreatDoorPCNest5
import Derived.Test.YtmgfijllcdadgabGreatDoorPCWrong
import Derived.Test.YtmgfijllcdadgabGreatDoorPCSpc5
import Derived.Test.YtmgfijllcdadgabGreatDoorPCCn5
import Derived.Test.YtmgfijllcdadgabGreatDoorPM28
import Derived.Lib.AppendStr
import Derived.Test.YtmgfijllcdadgabGreatDoorPM03
import Derived.Test.YtmgfijllcdadgabGreatDoorPM26
import Derived.Test.YtmgfijllcdadgabGreatDoorPM25
import Derived.Test.YtmgfijllcdadgabGreatDoorPM11
import Derived.Test.YtmgfijllcdadgabGreatDoorPM04
import Derived.Test.YtmgfijllcdadgabGreatDoorPM05
import Derived.Test.YtmgfijllcdadgabGreatDoorPM24
import Derived.Test.YtmgfijllcdadgabGreatDoorPM14
import Derived.Test.YtmgfijllcdadgabGreatDoorPM10
import Derived.Deep.DeepCutAuto
import Derived.Test.YtmgfijllcdadgabGreatDoorPM27
set_option linter.unusedVariables false
set_option linter.unusedSimpArgs false
namespace Go.Proofs.YtmgfijllcdadgabGreatDoor
open Go.RowKit
open Mk (St Bs Ev Att)
theorem W.take {s:St} (h:W s):W (Mk.take s):=by
  unfold Mk.take
  rw [endText_core s]
  exact { h with }
theorem opts_feedAll (d a t:Int) (n:Bool) (l:Bs):(Mk.feedAll (Mk.make_ d a t n) l).od=d∧(Mk.feedAll (Mk.make_ d a t n) l).ot=t∧(Mk.feedAll (Mk.make_ d a t n) l).on=n:=
  ⟨od_feedAll l _,ot_feedAll l _,on_feedAll l _⟩
set_option maxHeartbeats 4000000 in
set_option maxRecDepth 100000 in
theorem completed_any (d a t:Int) (nm:Bool) (d1:1≤d) (d2:d≤64) (a1:0≤a) (a2:a≤32) (t1:8≤t) (t2:t≤1024) (text:Bs) (hT:text.length≤1048576) (w:World) (hG:Gl w) (hs:6<w.heap.size) :
    Calls Tryz.prog 14 #[.agg #[.int .i64 d,.int .i64 a,.int .i64 t,.bool nm],.string ⟨text.toArray⟩] w fun e w' => e = .returned (.tuple #[.string ⟨(compl (Mk.make_ d a t nm) text).toArray⟩,.bool true])∧Below w.heap.size w w' := by
  have HX:=hide (fun w hG hs=>run_any d a t nm d1 d2 a1 a2 t1 t2 text [] none 0 (by omega) (by decide) w (fun j hj=>by cases hj) (fun c hc=>by cases hc) hG hs)
  have q1:=runL_eq d a t nm text []
  rw [q1.1,q1.2.1,q1.2.2.1,q1.2.2.2] at HX
  have HN:=hide (fun w=>new_any d a t nm d1 d2 a1 a2 t1 t2 w)
  have HINV:=hide (inv_make d a t nm a2)
  have htold:=feedAll_told text (Mk.make_ d a t nm) rfl
  have hat0:(Mk.make_ d a t nm).at_=0:=rfl
  rw [hat0] at htold
  have hTok:=upTo_ok (s:=Mk.make_ d a t nm) rfl rfl text
  have hTl:=upTo_len (Mk.make_ d a t nm) text
  have hWT:=W_text d a t nm d1 t1 a2 text
  have hod:=opts_feedAll d a t nm (upTo (Mk.make_ d a t nm) text)
  have hTe:(Mk.feedAll (Mk.make_ d a t nm) text).ended=0∧upTo (Mk.make_ d a t nm) text=text∨(Mk.feedAll (Mk.make_ d a t nm) text).ended ≠ 0∧upTo (Mk.make_ d a t nm) text=text.take ((Mk.feedAll (Mk.make_ d a t nm) text).at_ - 1).toNat:=by
    unfold upTo
    by_cases h:(Mk.feedAll (Mk.make_ d a t nm) text).ended=0
    · exact .inl ⟨h,by rw [if_pos h]⟩
    · exact .inr ⟨h,by rw [if_neg h]⟩
  have hcp:compl (Mk.make_ d a t nm) text=upTo (Mk.make_ d a t nm) text ++ Mk.rest (Mk.feedAll (Mk.make_ d a t nm) (upTo (Mk.make_ d a t nm) text)):=rfl
  have hfd:(Mk.feed (Mk.make_ d a t nm) (upTo (Mk.make_ d a t nm) text))=(Mk.take (Mk.feedAll (Mk.make_ d a t nm) (upTo (Mk.make_ d a t nm) text)),(Mk.endText (Mk.feedAll (Mk.make_ d a t nm) (upTo (Mk.make_ d a t nm) text))).list,0):=by
    unfold Mk.feed
    rw [if_pos (show (Mk.make_ d a t nm).ended=0 from rfl),hTok]
  have hsh:=rest_short hWT (by rw [hod.1];exact d2) (by rw [hod.2.1];exact t2)
  clear q1
  generalize join [] (out (Mk.feedAll (Mk.make_ d a t nm) text).list (Mk.feedAll (Mk.make_ d a t nm) text).text)=evs at *
  generalize (Mk.close (Mk.feedAll (Mk.make_ d a t nm) text)).2=en at *
  generalize (Mk.feedAll (Mk.make_ d a t nm) text).ended=err at *
  generalize (Mk.feedAll (Mk.make_ d a t nm) text).at_=at_ at *
  generalize compl (Mk.make_ d a t nm) text=D at *
  generalize upTo (Mk.make_ d a t nm) text=T at *
  have HFEED:=hide (fun (wx:World) (b:Nat) (h:RdL wx b (Mk.make_ d a t nm) (L0 b)) hG (hb:6 + 1<b) (g c:Nat) h1 h2 h3 h4=>Feed_any h (unhide HINV) T (by omega) hG hb (by simp [Mk.make_]) (by simp [Mk.make_]) g c h1 h2 h3 h4)
  have HBD:=hide (Inv.bd (inv_feed (unhide HINV) T) (by omega))
  rw [hfd] at HFEED HBD
  generalize Mk.feedAll (Mk.make_ d a t nm) T=S at *
  have hSe:(Mk.take S).ended=0:=by
    have hq:(Mk.take S).ended=S.ended:=by
      unfold Mk.take
      rw [endText_core S]
    rw [hq];exact hTok
  have hrt:=rest_take S
  have hWt:=W.take hWT
  have hod1:(Mk.take S).od=d∧(Mk.take S).ot=t:=by unfold Mk.take;rw [endText_core S];exact ⟨hod.1,hod.2.1⟩
  have HREST:=hide (fun (wx:World) (b:Nat) (L:Lay) (h:RdL wx b (Mk.take S) L) hG hs=>pRest_any h hSe hWt (unhide HBD) (by rw [hod1.1];exact d2) (by rw [hod1.2];exact t2) hG hs)
  rw [hrt] at HREST
  have HD:=hide hcp
  have hrl:=hsh.1
  have hDl:D.length≤1120000:=by rw [hcp];simp;omega
  generalize Mk.rest S=RS at *
  generalize (Mk.endText S).list=EL at *
  have HG:=hide hG
  clear hG d1 d2 a1 a2 t1 t2 hTok hWT hod hcp hfd hsh hSe hrt hWt hod1 HBD hat0
  go_enter Tryz.func14,Tryz.ntmps14
  go_wp2_with fail
  have hb0:=(Below.refl w.heap.size w).alloc (Nat.le_refl _) (.cells #[.int .i64 d,.int .i64 a,.int .i64 t,.bool nm] 25 (0,0))
  refine (unhide HX _ ((unhide HG).below hs hb0) (by simp;omega)).mono ?_
  rintro e w1 ⟨v1,fp1,u1,rfl,hg1,hf1,hb1, -⟩
  obtain ⟨x1,c1,rfl⟩:=hg1.slice
  have hst:=lay_out w1 (.slice x1 evs.length c1) err en at_ u1 ⟨_,_,_,rfl⟩
  have hx1:w1.heap[w.heap.size]? = some (.cells #[.int .i64 d,.int .i64 a,.int .i64 t,.bool nm] 25 (0,0)):=by
    rw [hb1.block _ (by simp)]
    exact heap_alloc_new w _
  have hsz1:w.heap.size<w1.heap.size:=(Array.getElem?_eq_some_iff.1 hx1).1
  have hc1:∀ o j,(w1.alloc o).cell? ⟨w.heap.size,j,none⟩=[.int .i64 d,.int .i64 a,.int .i64 t,.bool nm][j]? := fun o j=>by simp only [World.cell?];rw [Below.heap_alloc _ _ _ (by omega),hx1];simp
  have hbw1:Below w.heap.size w w1:=hb0.trans (hb1.mono (by simp))
  clear hg1 hf1 hb1 hb0 HX
  go_wp2_with fail
  have hb2:=hbw1.alloc (by omega) (.cells (outCells (.slice x1 evs.length c1) err en at_ u1) 38 (0,0))
  refine (unhide HN _).mono ?_
  rintro e w2 ⟨b,rfl,hb,hb3,hrd⟩
  simp at hb
  have hy2:w2.heap[w1.heap.size]? = some (.cells (outCells (.slice x1 evs.length c1) err en at_ u1) 38 (0,0)):=by
    rw [hb3.block _ (by simp)]
    exact heap_alloc_new w1 _
  have hd2:∀ j,w2.cell? ⟨w1.heap.size,j,none⟩=[.slice x1 evs.length c1,.int .i64 err,.int .i64 en,.int .i64 at_,.int .i64 u1.ln,.int .i64 u1.co,.slice u1.oa u1.on u1.oc][j]? := fun j=>by simp [World.cell?,hy2,outCells]
  have hbw2:Below w.heap.size w w2:=hb2.trans (hb3.mono (by simp;omega))
  have hsb:=hrd.lt
  have hs2:=hbw2.size
  obtain ⟨W1,c,hconv,hbW,hW1s,hcells⟩:=conv_bytes w2 T
  have hrdW:=rd_below hrd hbW
  have hbwW:Below w.heap.size w W1:=hbw2.trans (hbW.mono (by omega))
  have HF:=hide (unhide HFEED W1 b hrdW ((unhide HG).below hs hbwW) (by omega) w2.heap.size c (by omega) (by omega) (by rw [foot_L0];simp;omega) hcells)
  have HBW:=hide hbwW
  have hbs:=hbwW.size
  clear hst hc1 hx1 hy2 hb2 hb3 hcells hbW hrdW hbwW hrd HN HFEED hbw1
  have hl0:(0:Int)≤at_:=by rcases htold with h | h <;> omega
  rcases hTe with ⟨he0,hTt⟩ | ⟨hne,hTt⟩
  · subst he0
    subst hTt
    go_wp2_with fail
    refine (unhide HF).mono ?_
    rintro e w4 ⟨v4,fp4,L4,rfl,hg4,⟨va,vn,vc,rfl⟩,hM,hf4⟩
    have hbw4:Below w.heap.size w w4:=(unhide HBW).trans ⟨hM.fr.os,hM.fr.tape,hM.fr.output,hM.fr.size,fun k hk=>hM.fr.block k (by omega) (by omega) (by rw [foot_L0];simp;omega)⟩
    have hs4:=hbw4.size
    have HRE:=hide (unhide HREST w4 b L4 hM.rd ((unhide HG).below hs hbw4) (by omega))
    clear hg4 hf4 hM HF hconv HREST hd2
    go_wp2_with fail
    refine (unhide HRE).mono ?_
    rintro e w5 ⟨a5,c5,rfl,hR5⟩
    have hcv:=conv_row hR5.row
    have happ:(⟨T.toArray⟩:ByteArray) ++ (⟨RS.toArray⟩:ByteArray)=⟨D.toArray⟩:=by rw [unhide HD];apply ByteArray.ext;simp
    have hfin:Below w.heap.size w w5:=hbw4.trans (hR5.bel.mono hs4)
    have HFI:=hide hfin
    clear hR5 hfin HRE
    go_wp2
    go_ret2
    exact ⟨rfl,unhide HFI⟩
  · have e1:(err != 0)=true:=by simpa using hne
    have hat:1≤at_∧at_≤text.length:=by rcases htold with h | h;exact absurd h.1 hne;omega
    obtain ⟨n,hn⟩:∃ n:Nat,at_=(n:Int) + 1:=⟨(at_ - 1).toNat,by omega⟩
    have hn2:(at_ - 1).toNat=n:=by omega
    rw [hn2] at hTt
    have hxt:(ByteArray.extract ⟨text.toArray⟩ 0 n)=⟨T.toArray⟩:=by rw [ext_take,hTt]
    have hnl:n≤text.length:=by omega
    subst hn
    have e2:decide ((n:Int) + 1<1)=false:=by simp;omega
    have e3:decide ((text.length:Int)<(n:Int) + 1)=false:=by simp;omega
    have e4:¬ ((n:Int)<0):=by omega
    have e5:(n:Int)≤(text.length:Int):=by omega
    have e6:(n:Int) + 1 - 1=(n:Int):=by omega
    clear hTt htold
    go_wp2_with fail
    refine (unhide HF).mono ?_
    rintro e w4 ⟨v4,fp4,L4,rfl,hg4,⟨va,vn,vc,rfl⟩,hM,hf4⟩
    have hbw4:Below w.heap.size w w4:=(unhide HBW).trans ⟨hM.fr.os,hM.fr.tape,hM.fr.output,hM.fr.size,fun k hk=>hM.fr.block k (by omega) (by omega) (by rw [foot_L0];simp;omega)⟩
    have hs4:=hbw4.size
    have HRE:=hide (unhide HREST w4 b L4 hM.rd ((unhide HG).below hs hbw4) (by omega))
    clear hg4 hf4 hM HF hconv HREST hd2
    go_wp2_with fail
    refine (unhide HRE).mono ?_
    rintro e w5 ⟨a5,c5,rfl,hR5⟩
    have hcv:=conv_row hR5.row
    have happ:(⟨T.toArray⟩:ByteArray) ++ (⟨RS.toArray⟩:ByteArray)=⟨D.toArray⟩:=by rw [unhide HD];apply ByteArray.ext;simp
    have hfin:Below w.heap.size w w5:=hbw4.trans (hR5.bel.mono hs4)
    have HFI:=hide hfin
    clear hR5 hfin HRE
    go_wp2
    go_ret2
    exact ⟨rfl,unhide HFI⟩
theorem compl_doc (d a t:Int) (d1:1≤d) (t1:8≤t) (a2:a≤32) (text:Bs) :
    (Mk.feedAll (Mk.make_ d a t false) (compl (Mk.make_ d a t false) text)).ended=0∧(Mk.close (Mk.feedAll (Mk.make_ d a t false) (compl (Mk.make_ d a t false) text))).2=0∧(Mk.feedAll (Mk.make_ d a t false) (compl (Mk.make_ d a t false) text)).opn=[]
    ∧ (Mk.feedAll (Mk.make_ d a t false) (compl (Mk.make_ d a t false) text)).at_=(compl (Mk.make_ d a t false) text).length:=by
  have hW:=W_text d a t false d1 t1 a2 text
  have hok:=upTo_ok (s:=Mk.make_ d a t false) rfl rfl text
  have h:=rest_completes _ _ hW (opts_feedAll d a t false _).2.2 hok (Nat.le_refl _)
  have e:Mk.feedAll (Mk.make_ d a t false) (compl (Mk.make_ d a t false) text)=Mk.feedAll (Mk.feedAll (Mk.make_ d a t false) (upTo (Mk.make_ d a t false) text)) (Mk.rest (Mk.feedAll (Mk.make_ d a t false) (upTo (Mk.make_ d a t false) text))):=feedAll_app _ _ _
  rw [← e] at h
  refine ⟨h.1,?_,h.2.2,?_⟩
  · unfold Mk.close
    rw [if_pos h.1,if_pos h.2.1]
  · rcases feedAll_told (compl (Mk.make_ d a t false) text) (Mk.make_ d a t false) rfl with ⟨_,g⟩ | ⟨g,_⟩
    · rw [g];simp [Mk.make_]
    · exact absurd h.1 g
theorem join_adj:∀ (l all:List Ev) (p:Bool),Adj p l→(∀ x,all.getLast? = some x→p=decide (x.kind=3))→join all l=all ++ l
  | [],all,p,_,_=>by simp [join]
  | e :: r,all,p,h,hp=>by
    have hj:joinOne all e=all ++ [e]:=by
      unfold joinOne
      split
      · rename_i x hx
        rw [if_neg]
        intro g
        exact h.1 ⟨g.2,by rw [hp x hx];exact decide_eq_true g.1⟩
      · rename_i hx
        rw [List.getLast?_eq_none_iff] at hx
        rw [hx];rfl
    show join (joinOne all e) r=_
    rw [hj,join_adj r (all ++ [e]) _ h.2 (fun x hx=>by rw [List.getLast?_concat] at hx;cases hx;rfl)]
    simp
theorem evs_wT {s:St} (h:Adj false (wT s)):evsOf s=wT s:=by
  unfold evsOf
  have e:out s.list s.text=wT s:=rfl
  rw [e,join_adj _ [] false h (fun x hx=>by cases hx)]
  rfl
theorem wGo_plain {d a t:Int} {o o1:List Bs} {ov ov1 pt:Bool} {l:List Ev} (h:GoodL d a t o ov pt l o1 ov1):wGo [] l=l.flatMap wEv:=by
  induction h with
  | nil o ov pt=>rfl
  | @cons o o1 o2 ov ov1 ov2 pt e l he r ih =>
    rw [List.flatMap_cons, ← ih]
    cases he with
    | start n ats h1 h2 h3 h4 h5 h6=>rfl
    | fin o' n h1 h2=>rfl
    | txt val h1 h2 h3 h4=>rfl
    | comm val h1=>rfl
    | pi n val h1 h2 h3=>rfl
def SmX (K:Nat) (x:Ev):Prop:=x.name.length≤K∧x.val.length≤K∧x.attrs.length≤K∧∀ y ∈ x.attrs,y.name.length≤K∧y.val.length≤K
def totA (l:List Ev):Nat:=(l.map fun x=>x.attrs.length).sum
def SmB (K:Nat) (b:List (Bs × Bs)):Prop := ∀ y ∈ b,y.1.length≤K∧y.2.length≤K
theorem declared_len (n:Bs):(Mk.declared n).length≤n.length:=by
  unfold Mk.declared Mk.localOf
  (repeat' split) <;> simp
theorem decls_small {K:Nat} {ats:List Att} (h:∀ y ∈ ats,y.name.length≤K∧y.val.length≤K):SmB K (decls ats)∧(decls ats).length≤ats.length:=by
  refine ⟨fun y hy => ?_,by unfold decls;rw [List.length_map];exact List.length_filter_le _ _⟩
  unfold decls at hy
  obtain ⟨x,hx,rfl⟩:=List.mem_map.1 hy
  have:=h x (List.mem_filter.1 hx).1
  exact ⟨Nat.le_trans (declared_len _) this.1,this.2⟩
theorem kOne_small {K:Nat} {c c' : Sc} {e:Ev} {m:List Ev} (h:kOne c e=some (c', m)) (he:SmX K e) (hb:SmB K c.bnd):(∀ x ∈ m,SmX K x)∧SmB K c'.bnd∧m.length + c'.bnd.length≤c.bnd.length + 1 + 2 * e.attrs.length:=by
  unfold kOne at h
  split at h
  · cases hs:kStart c e.name e.attrs with
    | none=>rw [hs] at h;cases h
    | some p =>
      obtain ⟨c2,l⟩:=p
      rw [hs] at h
      cases h
      unfold kStart at hs
      split at hs
      · cases hs
      · split at hs
        · cases hs
        · rename_i hdg
          split at hs
          · cases hs
          · cases hr:Mk.resolveGo (Mk.declareGo e.attrs c.bnd 0).1 e.attrs [] with
            | none=>rw [hr] at hs;cases hs
            | some l2 =>
              rw [hr] at hs
              cases hs
              obtain ⟨d1,d2⟩:=declareGo_ok e.attrs c.bnd 0 (by simpa using hdg)
              have htag:Sc.tag ⟨(Mk.declareGo e.attrs c.bnd 0).1,c.cnt ++ [(Mk.declareGo e.attrs c.bnd 0).2.1]⟩=decls e.attrs:=by
                rw [d1,d2,Nat.zero_add];exact tag_new c _
              have hrk:=resolveGo_ok _ e.attrs [] l hr
              obtain ⟨q1,q2⟩:=decls_small he.2.2.2
              have hll:l.length≤e.attrs.length:=by
                have:=congrArg List.length hrk
                simp only [List.length_map,List.map_nil,List.nil_append] at this
                rw [this];exact List.length_filter_le _ _
              refine ⟨fun x hx => ?_,?_,?_⟩
              · unfold kTold at hx
                rw [htag] at hx
                rcases List.mem_append.1 hx with hx | hx
                · obtain ⟨y,hy,rfl⟩:=List.mem_map.1 hx
                  have:=q1 y hy
                  exact ⟨this.1,this.2,Nat.zero_le _,fun z hz=>by cases hz⟩
                · rw [List.mem_singleton.1 hx]
                  refine ⟨he.1,Nat.zero_le _,Nat.le_trans hll he.2.2.1,fun y hy => ?_⟩
                  have hm:(y.name,y.val) ∈ l.map (fun y=>(y.name,y.val)):=List.mem_map_of_mem hy
                  rw [hrk] at hm
                  simp only [List.map_nil,List.nil_append] at hm
                  obtain ⟨z,hz,hzy⟩:=List.mem_map.1 hm
                  have hz2:=he.2.2.2 z (List.mem_filter.1 hz).1
                  injection hzy with h1 h2
                  rw [← h1, ← h2]
                  exact hz2
              · show SmB K (Mk.declareGo e.attrs c.bnd 0).1
                rw [d1]
                intro y hy
                rcases List.mem_append.1 hy with hy | hy
                · exact hb y hy
                · exact q1 y hy
              · show (kTold _ _ _).length + (Mk.declareGo e.attrs c.bnd 0).1.length≤_
                unfold kTold
                rw [htag,d1]
                simp [kBinds]
                omega
  · split at h
    · split at h
      · cases h
      · cases h
        have hf:c.fst≤c.bnd.length:=by
          unfold Sc.fst
          split
          · exact Nat.le_refl _
          · split <;> omega
        refine ⟨fun x hx => ?_,fun y hy=>hb y (List.mem_of_mem_take hy),?_⟩
        · unfold kEnd at hx
          rcases List.mem_cons.1 hx with rfl | hx
          · exact ⟨he.1,Nat.zero_le _,Nat.zero_le _,fun z hz=>by cases hz⟩
          · obtain ⟨y,hy,rfl⟩:=List.mem_map.1 hx
            have:=hb y (List.mem_of_mem_drop (List.mem_reverse.1 hy))
            exact ⟨this.1,Nat.zero_le _,Nat.zero_le _,fun z hz=>by cases hz⟩
        · show (kEnd c e.name).length + (c.bnd.take c.fst).length≤_
          unfold kEnd kUnbinds Sc.tag
          simp
          omega
    · split at h
      · split at h
        · cases h
        · cases h
          exact ⟨fun x hx=>by rw [List.mem_singleton.1 hx];exact he,hb,by simp;omega⟩
      · cases h
        exact ⟨fun x hx=>by rw [List.mem_singleton.1 hx];exact he,hb,by simp;omega⟩
theorem kRes_small {K:Nat}:∀ (l:List Ev) {c c' : Sc} {acc m:List Ev},kRes c acc l=(c', m,true)→(∀ x ∈ l,SmX K x)→SmB K c.bnd→(∀ x ∈ acc,SmX K x)→(∀ x ∈ m,SmX K x)∧m.length + c'.bnd.length≤acc.length + c.bnd.length + l.length + 2 * totA l
  | [],c,c', acc,m,h,_,_,ha=>by cases h;exact ⟨ha,by simp⟩
  | e :: r,c,c', acc,m,h,hl,hb,ha=>by
    have h:(match kOne c e with | none=>(c,acc,false) | some (c', m)=>kRes c' (acc ++ m) r)=(c', m,true):=h
    cases hk:kOne c e with
    | none=>rw [hk] at h;cases h
    | some p =>
      obtain ⟨c1,m1⟩:=p
      rw [hk] at h
      obtain ⟨q1,q2,q3⟩:=kOne_small hk (hl e (by simp)) hb
      obtain ⟨r1,r2⟩:=kRes_small r h (fun x hx=>hl x (List.mem_cons_of_mem _ hx)) q2 (fun x hx=>by rcases List.mem_append.1 hx with hx | hx;exact ha x hx;exact q1 x hx)
      refine ⟨r1,?_⟩
      have e1:totA (e :: r)=e.attrs.length + totA r:=by simp [totA]
      rw [List.length_append] at r2
      rw [e1,List.length_cons]
      omega
theorem close_doc {s:St} (h0:s.ended=0) (hs:s.state=0) (ho:s.over=true):(Mk.close s).2=0:=by
  unfold Mk.close Mk.isDocument
  rw [if_pos h0,hs,ho]
  rfl
theorem refT_z (b:UInt8):(refT b).length≤5:=by
  unfold refT
  split
  · decide
  · split
    · decide
    · split
      · decide
      · split <;> decide
theorem refV_z (b:UInt8):(refV b).length≤6:=by
  unfold refV
  split
  · decide
  · split
    · decide
    · split
      · decide
      · have:=refT_z b;omega
theorem either_z (b:UInt8) (r:Bs) (h:r.length≤6):(either b r).length≤6:=by
  unfold either
  split
  · show 1≤6;decide
  · exact h
theorem wText_z (v:Bs):(wText v).length≤6 * v.length:=flat_len _ (fun b=>either_z b _ (by have:=refT_z b;omega)) v
theorem wVal_z (v:Bs):(wVal v).length≤6 * v.length:=flat_len _ (fun b=>either_z b _ (refV_z b)) v
theorem wAtts_z:∀ l:List Att,(l.flatMap fun a=>wAttr a.name a.val).length≤zAs l
  | []=>by simp
  | a :: r=>by
    have h1:=wAtts_z r
    have h2:=wVal_z a.val
    have h3:(wAttr a.name a.val).length=a.name.length + (wVal a.val).length + 4:=by unfold wAttr;simp;omega
    have h4:zAs (a :: r)=zA a + zAs r:=by simp [zAs]
    have h5:zA a=a.name.length + 6 * a.val.length + 4:=rfl
    rw [List.flatMap_cons,List.length_append,h3,h4,h5]
    omega
theorem wEv_z (e:Ev):(wEv e).length≤zE e:=by
  unfold wEv zE
  split
  · have:=wAtts_z e.attrs
    unfold wStart
    simp only [List.flatMap_nil,List.append_nil,List.length_append,List.length_cons,List.length_nil]
    omega
  · unfold wOther
    split
    · simp
    · split
      · exact wText_z e.val
      · split
        · simp
        · split
          · split
            · simp;omega
            · simp;omega
          · simp
theorem wl_z:∀ l:List Ev,(l.flatMap wEv).length≤zL l
  | []=>by simp
  | e :: r=>by
    have h1:=wl_z r
    have h2:=wEv_z e
    have h3:zL (e :: r)=zE e + zL r:=by simp [zL]
    rw [List.flatMap_cons,List.length_append,h3]
    omega
theorem zE_norm (e:Ev):zE (normE e)=zE e:=by
  unfold normE
  split
  · rename_i h
    unfold zE
    dsimp only
    rw [if_pos h,if_pos h]
    have:zAs (normA e.attrs)=zAs e.attrs:=((normA_perm e.attrs).map zA).sum_nat
    rw [this]
  · rfl
theorem zL_norm:∀ l:List Ev,zL (l.map normE)=zL l
  | []=>rfl
  | e :: r=>by
    have h1:=zL_norm r
    have h3:∀ (x:Ev) (y:List Ev),zL (x :: y)=zE x + zL y:=fun x y=>by simp [zL]
    rw [List.map_cons,h3,h3,zE_norm,h1]
structure Can (d a t:Int) (nm:Bool) (n:Nat) (E:List Ev):Prop where
  en:(Mk.feedAll (Mk.make_ d a t nm) (wAll E)).ended=0
  cl:(Mk.close (Mk.feedAll (Mk.make_ d a t nm) (wAll E))).2=0
  ev:wT (Mk.feedAll (Mk.make_ d a t nm) (wAll E))=E
  ad:Adj false E
  le:(wAll E).length≤6 * n
  po:0<(wAll E).length
theorem can_pos {d a t:Int} {nm:Bool} {x:Bs} (h:(Mk.feedAll (Mk.make_ d a t nm) x).ended=0) (hc:(Mk.close (Mk.feedAll (Mk.make_ d a t nm) x)).2=0):0<x.length:=by
  cases x with
  | nil =>
    have e:(Mk.close (Mk.feedAll (Mk.make_ d a t nm) [])).2=9:=rfl
    rw [e] at hc;cases hc
  | cons y r=>simp
section
variable {d a t:Int}
theorem doc_facts (d1:1≤d) (t1:8≤t) (a1:0≤a) (a2:a≤32) (D:Bs) (he:(Mk.feedAll (Mk.make_ d a t false) D).ended=0) (hc:(Mk.close (Mk.feedAll (Mk.make_ d a t false) D)).2=0) :
    GoodL d a t [] false false (wT (Mk.feedAll (Mk.make_ d a t false) D)) [] true∧zL (wT (Mk.feedAll (Mk.make_ d a t false) D))≤6 * D.length:=by
  have hw:=w_make d a t false d1 t1 a2
  have hv:=v_make d a t t1 a1
  have hg:=told_good d1 t1 a1 a2 D he
  have hz:=z_feedAll D hw hv rfl he
  have hz2:=wT_z (Mk.feedAll (Mk.make_ d a t false) D)
  have h0:Zs (Mk.make_ d a t false)=0:=rfl
  have hd:Mk.isDocument (Mk.feedAll (Mk.make_ d a t false) D)=true:=by
    unfold Mk.close at hc
    rw [if_pos he] at hc
    cases h:Mk.isDocument (Mk.feedAll (Mk.make_ d a t false) D)
    · rw [h] at hc
      have hc:(9:Int)=0:=hc
      cases hc
    · rfl
  unfold Mk.isDocument at hd
  have hd:(Mk.feedAll (Mk.make_ d a t false) D).over=true∧(Mk.feedAll (Mk.make_ d a t false) D).state=0:=by simpa using hd
  rw [hd.1,(w_feedAll D hw he).o0 hd.2] at hg
  exact ⟨hg,by omega⟩
theorem can_off (d1:1≤d) (t1:8≤t) (a1:0≤a) (a2:a≤32) (D:Bs) (he:(Mk.feedAll (Mk.make_ d a t false) D).ended=0) (hc:(Mk.close (Mk.feedAll (Mk.make_ d a t false) D)).2=0) :
    Can d a t false D.length (wT (Mk.feedAll (Mk.make_ d a t false) D)):=by
  obtain ⟨hg,hz⟩:=doc_facts d1 t1 a1 a2 D he hc
  obtain ⟨hw,hv,h1,H1⟩:=tl_feedAll D (w_make d a t false d1 t1 a2) (v_make d a t t1 a1) (tl_make d a t d1 t1 a1) rfl he
  have hadj:=wT_adj rfl H1
  have hl:=wl_z (wT (Mk.feedAll (Mk.make_ d a t false) D))
  generalize hE:wT (Mk.feedAll (Mk.make_ d a t false) D)=E at hg hz hadj hl ⊢
  have e:wAll E=E.flatMap wEv:=wGo_plain hg
  obtain ⟨w1,w2,w3,w4,w5⟩:=write_read hg
  rw [← e] at w1 w2 w3 w4 w5 hl
  have hcl:=close_doc w1 w5 w4
  exact ⟨w1,hcl,w2,hadj,by omega,can_pos w1 hcl⟩
theorem can_on (d1:1≤d) (t1:8≤t) (a1:0≤a) (a2:a≤32) (D:Bs) (he:(Mk.feedAll (Mk.make_ d a t false) D).ended=0) (hc:(Mk.close (Mk.feedAll (Mk.make_ d a t false) D)).2=0) (h8:(Mk.feedAll (Mk.make_ d a t true) D).ended ≠ 8) :
    Can d a t true D.length (wT (Mk.feedAll (Mk.make_ d a t true) D)):=by
  obtain ⟨hg,hz⟩:=doc_facts d1 t1 a1 a2 D he hc
  obtain ⟨_,_,_,c,hk,_,hadj⟩:=spaces_ok d a t d1 t1 a1 a2 D h8
  obtain ⟨e,q,_⟩:=write_names d1 t1 a1 a2 hg hk
  obtain ⟨q1,q2,q3⟩:=q rfl
  have hl:=wl_z ((wT (Mk.feedAll (Mk.make_ d a t false) D)).map normE)
  rw [← e,zL_norm] at hl
  exact ⟨q1,q3,q2,hadj,by omega,can_pos q1 q3⟩
end
theorem strC (l:Bs):Lib.strCells ⟨l.toArray⟩=l.map bv:=by unfold Lib.strCells bv;simp
theorem str_at {P:Program} {w w' : World} {base:Nat} {t u ty e:TypeId} {i:TypeInfo} (ht:P.underlying t=some (.slice e)) (hu:P.underlying u=some .string) (hi:P.info? e=some i) (hz:i.zero=some (.int .u8 0)) (hsize:i.size=1) (hby:i.bytes=1)
    {v v' : Value} {n:Nat} {xs:List Value} (hown:w.ownsRow base e 1 v n xs) (s:ByteArray) (h63:n + s.size≤maxLen) (hbytes:n + s.size≤140737488355328)
    (hr:(Builtin.append_ #[t,u] ty #[v,.string s]).run P w = .ok v' w') (hnil:v' = .slice none 0 0 ↔ v = .slice none 0 0∧s.size=0):v'.ownBlock=v.ownBlock∨v'.ownBlock=some w.heap.size:=by
  have hsmall:n + s.size≤9223372036854775807:=by simp only [maxLen] at h63;omega
  have hxl:xs.length=n:=by simpa using hown.1
  have hrow:=hown
  rcases hown.2 with ⟨rfl,rfl⟩ | ⟨g,cap,cur,rfl,hbg,hg,hnc,hcm,hcs,htake⟩
  · by_cases hm:s.size=0
    · rw [hnil.2 ⟨rfl,hm⟩];exact .inl rfl
    · have h2:=run_append_nil_string (P:=P) w t u ty e i (.int .u8 0) ht hu hi hz s (by omega) (by omega) (by rw [hby];omega)
      rw [hr] at h2
      injection h2 with h3 _
      rw [h3];exact .inr rfl
  · by_cases hroom:n + s.size≤cap
    · have hcs' : cur.size=cap:=by simpa using hcs
      have h2:=Lib.run_append_room_string (P:=P) w t u ty e i ht hu hi hsize g n cap cur hg s hroom (by omega)
      rw [hr] at h2
      injection h2 with h3 _
      rw [h3];exact .inl rfl
    · have holds:∀ j u,xs[j]? = some u→w.cell? ((⟨g,0,none⟩:Addr).add j)=some u:=hrow.cells (g:=g) rfl
      have h2:=Lib.run_append_grow_string (P:=P) w t u ty e i (.int .u8 0) ht hu hi hz ⟨g,0,none⟩ n cap xs (by rw [hsize];simpa using hxl) holds s (by omega) (by omega) (by rw [hby];exact growslice_fits (by omega) (by omega))
      rw [hr] at h2
      injection h2 with h3 _
      rw [h3];exact .inr rfl
theorem wpList_append_str {P:Program} {w:World} {ops:Array Oper} {rest:List Oper} {o:Oper} {a:Act} {Q:Exit→Act→World→Prop} (hgd:o.guard=none) (sl x:Operand) (t u:TypeId)
    (ho:o.op = .call { callee:=.builtin .append,args:=#[sl,x],argTypes:=#[t,u] })
    (base:Nat) (e:TypeId) (i:TypeInfo) (ht:P.underlying t=some (.slice e)) (hu:P.underlying u=some .string) (hi:P.info? e=some i) (hz:i.zero=some (.int .u8 0))
    (hsize:i.size=1) (hby:i.bytes=1)
    (v:Value) (n:Nat) (xs:List Value) (hs:a.eval sl=v) (hown:w.ownsRow base e 1 v n xs) (s:ByteArray) (hx:a.eval x = .string s)
    (h63:n + s.size≤maxLen) (hbytes:n + s.size≤140737488355328) (hbase:base≤w.heap.size)
    (h:∀ v' w', w'.ownsRow base e 1 v' (n + s.size) (xs ++ Lib.strCells s)→w.grownBy w' v.ownBlock→(v'.ownBlock=v.ownBlock∨v'.ownBlock=some w.heap.size)→wpList P ops Q rest (a.put o.dst v') w'):wpList P ops Q (o :: rest) a w:=by
  refine wpList_plain hgd fun K hK => ?_
  obtain ⟨v', w', hr,h2,h3,h4⟩:=Lib.run_append_own_string (P:=P) w base t u o.type e i ht hu hi hz hsize hby v n xs hown s h63 hbytes hbase
  have h5:=str_at ht hu hi hz hsize hby hown s h63 hbytes hr h4
  unfold Oper.wp execOp
  simp only [ho,resolve,invoke,builtin,Sem.run_bind,Sem.run_pure,Result.andThen_ok,List.map_toArray,List.map_cons,List.map_nil,hs,hx,hr]
  exact hK _ _ (h v' w' h2 h3 h5)
structure WT (w:World) (b:Nat) (t:Bs) (a:Option Addr) (c:Nat):Prop where
  blk:w.heap[b]? = some (.cells #[.slice a t.length c] 124 (0,0))
  row:w.ownsRow (b + 1) 5 1 (.slice a t.length c) t.length (t.map bv)
def WTx (w:World) (b:Nat) (t:Bs) (f:List Nat):Prop := ∃ a c,WT w b t a c∧f=(Value.slice a t.length c).ownBlock.toList
section
variable {w w' : World} {b:Nat} {t:Bs} {a:Option Addr} {c:Nat} {f:List Nat}
theorem WT.lt (h:WT w b t a c):b<w.heap.size:=(Array.getElem?_eq_some_iff.1 h.blk).1
theorem WT.cell (h:WT w b t a c):w.cell? ⟨b,0,none⟩=some (.slice a t.length c):=by simp [World.cell?,h.blk]
theorem WT.keep (h:WT w b t a c) (hb:Below w.heap.size w w'):WT w' b t a c:=
  ⟨(hb.block b h.lt).trans h.blk,owned_keep (r:=⟨5,1,_,_,_⟩) h.row fun k hv=>hb.block k (World.ownsRow.lt h.row k hv).2⟩
theorem wtx_lt (h:WTx w b t f):b<w.heap.size∧∀ k ∈ f,b<k∧k<w.heap.size:=by
  obtain ⟨wa,wc,hW,rfl⟩:=h
  refine ⟨hW.lt,fun k hk => ?_⟩
  have h1:(Value.slice wa t.length wc).ownBlock=some k:=by simpa using hk
  have h2:=World.ownsRow.lt hW.row k h1
  omega
theorem wtx_keep (h:WTx w b t f) (hb:Below w.heap.size w w'):WTx w' b t f:=by
  obtain ⟨wa,wc,hW,rfl⟩:=h
  exact ⟨wa,wc,hW.keep hb,rfl⟩
theorem wtx_alloc (h:WTx w b t f) (o:Obj):WTx (w.alloc o) b t f∧Fr w (w.alloc o) b f f:=⟨wtx_keep h ((Below.refl _ _).alloc (Nat.le_refl _) _),Fr.alloc _ _ _ _⟩
theorem WT.grow (h:WT w b t a c) {m:Bs} {v:Value} (ho:w'.ownsRow (b + 1) 5 1 v (t.length + m.length) (t.map bv ++ m.map bv)) (hg:w.grownBy w' (Value.slice a t.length c).ownBlock) (hat:v.ownBlock=(Value.slice a t.length c).ownBlock∨v.ownBlock=some w.heap.size) :
    (∃ f', WTx (w'.setCell ⟨b,0,none⟩ v) b (t ++ m) f' ∧ Fr w (w'.setCell ⟨b,0,none⟩ v) b (Value.slice a t.length c).ownBlock.toList f')∧w'.cell? ⟨b,0,none⟩=some (.slice a t.length c)∧w'.frozen? ⟨b,0,none⟩=false∧b<w'.heap.size:=by
  have hne:some b ≠ (Value.slice a t.length c).ownBlock:=fun e=>by
    have:=(World.ownsRow.lt h.row b e.symm).1
    omega
  have hblk:w'.heap[b]? = some (.cells #[.slice a t.length c] 124 (0,0)):=(hg.block b h.lt hne).trans h.blk
  have hlt:b<w'.heap.size:=(Array.getElem?_eq_some_iff.1 hblk).1
  obtain ⟨a', c', hv⟩:=slice_form ho
  subst hv
  refine ⟨⟨(Value.slice a' (t.length + m.length) c').ownBlock.toList,⟨a', c', ⟨?_,?_⟩,by simp⟩,?_⟩,by simp [World.cell?,hblk],by simp [World.frozen?,hblk],hlt⟩
  · simp [World.setCell,Array.getElem?_modify,hblk]
  · have:(w'.setCell ⟨b,0,none⟩ (.slice a' (t.length + m.length) c')).ownsRow (b + 1) 5 1 (.slice a' (t.length + m.length) c') (t.length + m.length) (t.map bv ++ m.map bv):=owned_keep (r:=⟨5,1,_,_,_⟩) ho fun k hk=>Below.heap_setCell _ _ _ _ (by
      have:=(World.ownsRow.lt ho k hk).1
      show k ≠ b
      omega)
    simpa using this
  · refine ⟨hg.os,hg.tape,hg.output,by simpa using hg.size,fun k hk hkb hkf => ?_,fun k hk => ?_⟩
    · rw [Below.heap_setCell _ _ _ _ (show k ≠ b from hkb)]
      refine hg.block k hk fun e=>hkf ?_
      rw [← e];simp
    · have hk:(Value.slice a' (t.length + m.length) c').ownBlock=some k:=by simpa using hk
      rcases hat with q | q
      · left;rw [← q,hk];simp
      · right;rw [hk] at q;cases q;exact Nat.le_refl _
end
set_option maxRecDepth 100000 in
theorem wput_any {w:World} {b:Nat} {t:Bs} {f:List Nat} (h:WTx w b t f) (s:Bs) (hl:t.length + s.length≤1000000000) :
    Calls Tryz.prog 81 #[.pointer (some ⟨b,0,none⟩),.string ⟨s.toArray⟩] w fun e w' => e = .returned (.tuple #[])∧∃ f', WTx w' b (t ++ s) f' ∧ Fr w w' b f f' := by
  obtain ⟨a,c,h,rfl⟩:=h
  have hc:=h.cell
  have hlt:=h.lt
  obtain ⟨i0,hi,hz0,hz1,hz2⟩:=info_parts infoU8
  have HO:=hide h
  clear h
  go_enter Tryz.func81,Tryz.ntmps81
  go_wp2_with (at_builtin;refine wpList_append_str rfl _ _ _ _ rfl (b + 1) 5 i0 Tryz.underlying54 Tryz.underlying9 hi hz0 hz1 hz2 (.slice a t.length c) t.length (t.map bv) rfl (unhide HO).row ⟨s.toArray⟩ rfl (by show t.length + s.length≤_;unfold maxLen;omega) (by show t.length + s.length≤_;omega) (by omega) ?_;intro v3 w3 ho3 hg3 hat3;rw [strC] at ho3;obtain ⟨a3,c3,rfl⟩:=slice_form ho3;obtain ⟨hw,hc3,hf3,hl3⟩:=(unhide HO).grow (m:=s) ho3 hg3 hat3;have HF:=hide hw;clear hw ho3 hg3 hat3)
  go_end0
  exact ⟨rfl,unhide HF⟩
theorem refT_any (x:UInt8) (w:World):Calls Tryz.prog 106 #[.int .u8 (x.toNat:Int)] w fun e w' => e = .returned (.string ⟨(refT x).toArray⟩)∧w' = w:=by
  have hx:∀ k:UInt8,x=k ↔ (x.toNat:Int)=(k.toNat:Int):=fun k=>⟨fun e=>by rw [e],fun e=>UInt8.toNat_inj.1 (by omega)⟩
  obtain ⟨FIN,hF⟩:∃ F,F=refT x:=⟨_,rfl⟩
  rw [← hF]
  by_cases c1:(x.toNat:Int)=60
  · have e1:((x.toNat:Int) == 60)=true:=by simpa using c1
    have:FIN=[38,108,116,59]:=by rw [hF,(hx 60).2 c1];rfl
    subst this
    clear hF
    go_enter Tryz.func106,Tryz.ntmps106
    go_wp2
    go_ret
    exact ⟨rfl,rfl⟩
  by_cases c2:(x.toNat:Int)=62
  · have e1:((x.toNat:Int) == 60)=false:=by simpa using c1
    have e2:((x.toNat:Int) == 62)=true:=by simpa using c2
    have:FIN=[38,103,116,59]:=by rw [hF,(hx 62).2 c2];rfl
    subst this
    clear hF
    go_enter Tryz.func106,Tryz.ntmps106
    go_wp2
    go_ret
    exact ⟨rfl,rfl⟩
  by_cases c3:(x.toNat:Int)=38
  · have e1:((x.toNat:Int) == 60)=false:=by simpa using c1
    have e2:((x.toNat:Int) == 62)=false:=by simpa using c2
    have e3:((x.toNat:Int) == 38)=true:=by simpa using c3
    have:FIN=[38,97,109,112,59]:=by rw [hF,(hx 38).2 c3];rfl
    subst this
    clear hF
    go_enter Tryz.func106,Tryz.ntmps106
    go_wp2
    go_ret
    exact ⟨rfl,rfl⟩
  by_cases c4:(x.toNat:Int)=13
  · have e1:((x.toNat:Int) == 60)=false:=by simpa using c1
    have e2:((x.toNat:Int) == 62)=false:=by simpa using c2
    have e3:((x.toNat:Int) == 38)=false:=by simpa using c3
    have e4:((x.toNat:Int) == 13)=true:=by simpa using c4
    have:FIN=[38,35,49,51,59]:=by rw [hF,(hx 13).2 c4];rfl
    subst this
    clear hF
    go_enter Tryz.func106,Tryz.ntmps106
    go_wp2
    go_ret
    exact ⟨rfl,rfl⟩
  · have e1:((x.toNat:Int) == 60)=false:=by simpa using c1
    have e2:((x.toNat:Int) == 62)=false:=by simpa using c2
    have e3:((x.toNat:Int) == 38)=false:=by simpa using c3
    have e4:((x.toNat:Int) == 13)=false:=by simpa using c4
    have:FIN=[]:=by
      rw [hF]
      unfold refT
      rw [if_neg (fun k=>c1 ((hx 60).1 k)),if_neg (fun k=>c2 ((hx 62).1 k)),if_neg (fun k=>c3 ((hx 38).1 k)),if_neg (fun k=>c4 ((hx 13).1 k))]
    subst this
    clear hF
    go_enter Tryz.func106,Tryz.ntmps106
    go_wp2
    go_ret
    exact ⟨rfl,rfl⟩
theorem refV_any (x:UInt8) (w:World):Calls Tryz.prog 135 #[.int .u8 (x.toNat:Int)] w fun e w' => e = .returned (.string ⟨(refV x).toArray⟩)∧w' = w:=by
  have hx:∀ k:UInt8,x=k ↔ (x.toNat:Int)=(k.toNat:Int):=fun k=>⟨fun e=>by rw [e],fun e=>UInt8.toNat_inj.1 (by omega)⟩
  obtain ⟨FIN,hF⟩:∃ F,F=refV x:=⟨_,rfl⟩
  rw [← hF]
  by_cases c1:(x.toNat:Int)=34
  · have e1:((x.toNat:Int) == 34)=true:=by simpa using c1
    have:FIN=[38,113,117,111,116,59]:=by rw [hF,(hx 34).2 c1];rfl
    subst this
    clear hF
    go_enter Tryz.func135,Tryz.ntmps135
    go_wp2
    go_ret
    exact ⟨rfl,rfl⟩
  by_cases c2:(x.toNat:Int)=9
  · have e1:((x.toNat:Int) == 34)=false:=by simpa using c1
    have e2:((x.toNat:Int) == 9)=true:=by simpa using c2
    have:FIN=[38,35,57,59]:=by rw [hF,(hx 9).2 c2];rfl
    subst this
    clear hF
    go_enter Tryz.func135,Tryz.ntmps135
    go_wp2
    go_ret
    exact ⟨rfl,rfl⟩
  by_cases c3:(x.toNat:Int)=10
  · have e1:((x.toNat:Int) == 34)=false:=by simpa using c1
    have e2:((x.toNat:Int) == 9)=false:=by simpa using c2
    have e3:((x.toNat:Int) == 10)=true:=by simpa using c3
    have:FIN=[38,35,49,48,59]:=by rw [hF,(hx 10).2 c3];rfl
    subst this
    clear hF
    go_enter Tryz.func135,Tryz.ntmps135
    go_wp2
    go_ret
    exact ⟨rfl,rfl⟩
  · have e1:((x.toNat:Int) == 34)=false:=by simpa using c1
    have e2:((x.toNat:Int) == 9)=false:=by simpa using c2
    have e3:((x.toNat:Int) == 10)=false:=by simpa using c3
    have:FIN=refT x:=by
      rw [hF]
      unfold refV
      rw [if_neg (fun k=>c1 ((hx 34).1 k)),if_neg (fun k=>c2 ((hx 9).1 k)),if_neg (fun k=>c3 ((hx 10).1 k))]
    subst this
    clear hF
    go_enter Tryz.func135,Tryz.ntmps135
    go_wp2_with fail
    refine (refT_any x _).mono ?_
    rintro e w1 ⟨rfl,rfl⟩
    go_wp2
    go_ret
    exact ⟨rfl,rfl⟩
set_option maxRecDepth 100000 in
theorem weither_any {w:World} {b:Nat} {t:Bs} {f:List Nat} (h:WTx w b t f) (x:UInt8) (r:Bs) (hl:t.length + r.length + 1≤1000000000) :
    Calls Tryz.prog 107 #[.pointer (some ⟨b,0,none⟩),.int .u8 (x.toNat:Int),.string ⟨r.toArray⟩] w fun e w' => e = .returned (.tuple #[])∧∃ f', WTx w' b (t ++ either x r) f' ∧ Fr w w' b f f' := by
  cases r with
  | cons y r =>
    have e0:((y :: r) == ([]:Bs))=false:=rfl
    have HP:=hide (wput_any h (y :: r) (by omega))
    have hE:either x (y :: r)=y :: r:=by unfold either;rw [if_neg (by simp)]
    rw [hE]
    generalize (y :: r)=z at *
    clear hE h
    go_enter Tryz.func107,Tryz.ntmps107
    go_wp2_with fail
    refine (unhide HP).mono ?_
    rintro e w1 ⟨rfl,h1⟩
    have HF:=hide h1
    clear h1
    go_wp2
    go_end0
    exact ⟨rfl,unhide HF⟩
  | nil =>
    obtain ⟨a,c,h,rfl⟩:=h
    obtain ⟨i0,hi,hz0,hz1,hz2⟩:=info_parts infoU8
    have hc:=h.cell
    have hlt:=h.lt
    have hA:=h.keep ((Below.refl w.heap.size w).alloc (Nat.le_refl _) (.cells #[.int .u8 (x.toNat:Int)] 5))
    have HA:=hide hA
    have HB:=hide (show (w.alloc (.cells #[.int .u8 (x.toNat:Int)] 5)).heap[w.heap.size]? = _ from heap_alloc_new w _)
    have hE:either x []=[x]:=rfl
    rw [hE]
    clear h hA hE
    go_enter Tryz.func107,Tryz.ntmps107
    go_wp2_with (at_builtin;refine wpList_append_lies _ rfl _ _ 54 rfl (b + 1) 5 i0 _ 1 1 Tryz.underlying54 hi hz0 hz1 hz2 rfl (by decide) (.slice a t.length c) t.length (t.map bv) (by simp [Act.eval]) (unhide HA).row ⟨w.heap.size,0,none⟩ 1 1 [.int .u8 (x.toNat:Int)] (by simp [Act.eval]) rfl (World.news_of_block (unhide HB)) (by intro u hu;simp at hu;subst hu;rfl) (by decide) (by unfold maxLen;omega) (by omega) (by simp;omega) (w.heap.size + 1) (by simp) ?_;intro g3 cap3 w3 ho3 hg3 hat3 hlt3;obtain ⟨hw,hc3,hf3,hl3⟩:=(unhide HA).grow (m:=[x]) ho3 hg3 (by rcases hat3 with q | q;exact .inl q.symm;exact .inr (by rw [q];simp [Value.ownBlock]));have HF:=hide hw;clear hw ho3 hg3 hat3)
    refine bodyPost_ret (results_none rfl _ _ _) rfl ?_
    obtain ⟨f', q1,q2⟩:=unhide HF
    exact ⟨rfl,f', q1,(Fr.alloc _ _ _ _).trans q2⟩
theorem wText_take (s:Bs) (i:Nat) (y:UInt8) (hy:s[i]? = some y):wText (s.take (i + 1))=wText (s.take i) ++ either y (refT y):=by
  rw [List.take_add_one,hy,wText_app]
  congr 1
  unfold wText
  simp
theorem wVal_take (s:Bs) (i:Nat) (y:UInt8) (hy:s[i]? = some y):wVal (s.take (i + 1))=wVal (s.take i) ++ either y (refV y):=by
  rw [List.take_add_one,hy,wVal_app]
  congr 1
  unfold wVal
  simp
theorem ref_small (y:UInt8):(refT y).length≤6∧(refV y).length≤6:=by
  unfold refV refT
  constructor <;> (repeat' split) <;> simp
theorem wT_small:∀ (s:Bs),(wText s).length≤6 * s.length∧(wVal s).length≤6 * s.length
  | []=>⟨Nat.le_refl _,Nat.le_refl _⟩
  | x :: r=>by
    have e:wText (x :: r)=either x (refT x) ++ wText r:=rfl
    have e2:wVal (x :: r)=either x (refV x) ++ wVal r:=rfl
    have h:=wT_small r
    have h1:=ref_small x
    have k:∀ z:Bs,z.length≤6→(either x z).length≤6:=fun z hz=>by
      unfold either
      split
      · simp
      · exact hz
    rw [e,e2,List.length_append,List.length_append,List.length_cons]
    have:=k _ h1.1
    have:=k _ h1.2
    omega
set_option maxHeartbeats 1000000 in
theorem wtext_any {w:World} {b:Nat} {t:Bs} {f:List Nat} (h:WTx w b t f) (s:Bs) (hl:t.length + 6 * s.length + 10≤1000000000) :
    Calls Tryz.prog 84 #[.pointer (some ⟨b,0,none⟩),.string ⟨s.toArray⟩] w fun e w' => e = .returned (.tuple #[])∧∃ f', WTx w' b (t ++ wText s) f' ∧ Fr w w' b f f' := by
  have H0:=hide h
  have HT:=hide (wText_take s)
  clear h
  go_enter Tryz.func84,Tryz.ntmps84
  go_wp2_with fail
  go_loopg [4] s.length (fun g s4 wx=>∃ i:Nat,i≤s.length∧g=s.length - i∧s4 = .int .i64 (i:Int)∧Hid (∃ f', WTx wx b (t ++ wText (s.take i)) f' ∧ Fr w wx b f f'))
  case atStart=>exact ⟨0,by omega,rfl,rfl,⟨f,by show WTx w b (t ++ wText []) f;simpa [wText] using unhide H0,Fr.refl _ _ _⟩⟩
  case round =>
    obtain ⟨i,hi,rfl,rfl,f1,HF⟩:=hrel
    clear H0
    by_cases h3:i<s.length
    · have e1:decide ((i:Int)<(s.length:Int))=true:=by simp;omega
      have hk1:(i:Int)<(s.length:Int):=by omega
      obtain ⟨y,hy⟩:∃ y,s[i]? = some y:=⟨s[i],by simp [h3]⟩
      have hsa:∀ h,(ByteArray.mk s.toArray)[i]'h=y:=fun h=>(List.getElem?_eq_some_iff.1 hy).2
      have HE:=hide (weither_any HF.1 y (refT y) (by have h5:=(wT_small (s.take i)).1;have:=(ref_small y).1;rw [List.length_take] at h5;rw [List.length_append];omega))
      rw [List.append_assoc, ← unhide HT i y hy] at HE
      clear hy HT
      go_wp2_with fail
      refine (refT_any y _).mono ?_
      rintro e w1 ⟨rfl,rfl⟩
      go_wp2_with fail
      refine (unhide HE).mono ?_
      rintro e w2 ⟨rfl,f2,g1,g2⟩
      have HN:=hide (And.intro g1 (HF.2.trans g2))
      clear g1 g2 HE HF
      go_wp2
      go_roundg (s.length - (i + 1))
      case measure=>omega
      case rel=>exact ⟨i + 1,by omega,rfl,by simp,f2,unhide HN⟩
    · have e1:decide ((i:Int)<(s.length:Int))=false:=by simp;omega
      have hil:i=s.length:=by omega
      have HN:Hid (∃ f', WTx wr b (t ++ wText s) f' ∧ Fr w wr b f f'):=by
        have:=HF
        rw [hil,List.take_length] at this
        exact ⟨f1,this⟩
      clear HF HT
      go_wp2
      go_end0
      exact ⟨rfl,unhide HN⟩
set_option maxHeartbeats 1000000 in
theorem wvalue_any {w:World} {b:Nat} {t:Bs} {f:List Nat} (h:WTx w b t f) (s:Bs) (hl:t.length + 6 * s.length + 10≤1000000000) :
    Calls Tryz.prog 105 #[.pointer (some ⟨b,0,none⟩),.string ⟨s.toArray⟩] w fun e w' => e = .returned (.tuple #[])∧∃ f', WTx w' b (t ++ wVal s) f' ∧ Fr w w' b f f' := by
  have H0:=hide h
  have HT:=hide (wVal_take s)
  clear h
  go_enter Tryz.func105,Tryz.ntmps105
  go_wp2_with fail
  go_loopg [4] s.length (fun g s4 wx=>∃ i:Nat,i≤s.length∧g=s.length - i∧s4 = .int .i64 (i:Int)∧Hid (∃ f', WTx wx b (t ++ wVal (s.take i)) f' ∧ Fr w wx b f f'))
  case atStart=>exact ⟨0,by omega,rfl,rfl,⟨f,by show WTx w b (t ++ wVal []) f;simpa [wVal] using unhide H0,Fr.refl _ _ _⟩⟩
  case round =>
    obtain ⟨i,hi,rfl,rfl,f1,HF⟩:=hrel
    clear H0
    by_cases h3:i<s.length
    · have e1:decide ((i:Int)<(s.length:Int))=true:=by simp;omega
      have hk1:(i:Int)<(s.length:Int):=by omega
      obtain ⟨y,hy⟩:∃ y,s[i]? = some y:=⟨s[i],by simp [h3]⟩
      have hsa:∀ h,(ByteArray.mk s.toArray)[i]'h=y:=fun h=>(List.getElem?_eq_some_iff.1 hy).2
      have HE:=hide (weither_any HF.1 y (refV y) (by have h5:=(wT_small (s.take i)).2;have:=(ref_small y).2;rw [List.length_take] at h5;rw [List.length_append];omega))
      rw [List.append_assoc, ← unhide HT i y hy] at HE
      clear hy HT
      go_wp2_with fail
      refine (refV_any y _).mono ?_
      rintro e w1 ⟨rfl,rfl⟩
      go_wp2_with fail
      refine (unhide HE).mono ?_
      rintro e w2 ⟨rfl,f2,g1,g2⟩
      have HN:=hide (And.intro g1 (HF.2.trans g2))
      clear g1 g2 HE HF
      go_wp2
      go_roundg (s.length - (i + 1))
      case measure=>omega
      case rel=>exact ⟨i + 1,by omega,rfl,by simp,f2,unhide HN⟩
    · have e1:decide ((i:Int)<(s.length:Int))=false:=by simp;omega
      have hil:i=s.length:=by omega
      have HN:Hid (∃ f', WTx wr b (t ++ wVal s) f' ∧ Fr w wr b f f'):=by
        have:=HF
        rw [hil,List.take_length] at this
        exact ⟨f1,this⟩
      clear HF HT
      go_wp2
      go_end0
      exact ⟨rfl,unhide HN⟩
theorem wattr_any {w:World} {b:Nat} {t:Bs} {f:List Nat} (h:WTx w b t f) (n v:Bs) (hl:t.length + n.length + 6 * v.length + 20≤1000000000) :
    Calls Tryz.prog 83 #[.pointer (some ⟨b,0,none⟩),.string ⟨n.toArray⟩,.string ⟨v.toArray⟩] w fun e w' => e = .returned (.tuple #[])∧∃ f', WTx w' b (t ++ wAttr n v) f' ∧ Fr w w' b f f' := by
  have H1:=hide (wput_any h (32 :: (n ++ [61,34])) (by simp;omega))
  clear h
  go_enter Tryz.func83,Tryz.ntmps83
  go_wp2_with fail
  refine (unhide H1).mono ?_
  rintro e w1 ⟨rfl,f1,h1,b1⟩
  have H2:=hide (wvalue_any h1 v (by simp;omega))
  have HB1:=hide b1
  clear h1 b1 H1
  go_wp2_with fail
  refine (unhide H2).mono ?_
  rintro e w2 ⟨rfl,f2,h2,b2⟩
  have H3:=hide (wput_any h2 [34] (by have:=(wT_small v).2;simp;omega))
  have HB2:=hide ((unhide HB1).trans b2)
  clear h2 b2 H2 HB1
  go_wp2_with fail
  refine (unhide H3).mono ?_
  rintro e w3 ⟨rfl,f3,h3,b3⟩
  have HF:Hid (WTx w3 b (t ++ wAttr n v) f3∧Fr w w3 b f f3):=by
    refine ⟨?_,(unhide HB2).trans b3⟩
    have e:t ++ 32 :: (n ++ [61,34]) ++ wVal v ++ [34]=t ++ wAttr n v:=by unfold wAttr;simp
    rw [← e]
    exact h3
  clear h3 b3 H3 HB2
  go_wp2
  go_end0
  exact ⟨rfl,f3,unhide HF⟩
theorem decl_any (p:Bs) (hl:p.length≤1000000000) (w:World):Calls Tryz.prog 82 #[.string ⟨p.toArray⟩] w fun e w' => e = .returned (.string ⟨(declN p).toArray⟩)∧w' = w:=by
  cases p with
  | nil =>
    have e0:(([]:Bs) == [])=true:=rfl
    show Calls _ _ _ _ fun e w' => e = .returned (.string ⟨#[120,109,108,110,115]⟩)∧w' = w
    go_enter Tryz.func82,Tryz.ntmps82
    go_wp2
    go_ret
    exact ⟨rfl,rfl⟩
  | cons y r =>
    have e0:((y :: r) == ([]:Bs))=false:=rfl
    have hE:declN (y :: r)=120 :: 109 :: 108 :: 110 :: 115 :: 58 :: (y :: r):=by unfold declN;rw [if_neg (by simp)];rfl
    rw [hE]
    generalize (y :: r)=z at *
    have hz:¬ 9223372036854775807<6 + z.length:=by omega
    clear hE
    go_enter Tryz.func82,Tryz.ntmps82
    go_wp2
    refine bodyPost_ret (results_tmp rfl _ _ _) rfl ⟨?_,rfl⟩
    show Ending.returned (.string (_ ++ _))=_
    congr 2
structure Bq (w:World) (E b:Nat) (f:List Nat) (o:Obj):Prop where
  blk:w.heap[E]? = some o
  nb:E ≠ b
  nf:E ∉ f
theorem Bq.fr {w w1:World} {E b:Nat} {f f1:List Nat} {o:Obj} (h:Bq w E b f o) (hf:Fr w w1 b f f1):Bq w1 E b f1 o:=by
  have hlt:=(Array.getElem?_eq_some_iff.1 h.blk).1
  refine ⟨(hf.block E hlt h.nb h.nf).trans h.blk,h.nb,fun hm => ?_⟩
  rcases hf.foot E hm with q | q
  · exact h.nf q
  · omega
theorem Bq.cell {w:World} {E b:Nat} {f:List Nat} {cs:Array Value} {ty:TypeId} (h:Bq w E b f (.cells cs ty (0,0))) (j:Nat):w.cell? ⟨E,j,none⟩=cs[j]? := by simp [World.cell?,h.blk]
theorem bq_new {w:World} {b:Nat} {t:Bs} {f:List Nat} (h:WTx w b t f) (o:Obj):Bq (w.alloc o) w.heap.size b f o:=by
  have hl:=wtx_lt h
  exact ⟨heap_alloc_new w o,by omega,fun hm=>by have:=(hl.2 _ hm).2;omega⟩
def pi5 (n x:Bs):Bs:=[60,63] ++ n ++ (if x=[] then [] else 32 :: x) ++ [63,62]
set_option maxRecDepth 100000 in
theorem wpi_any {w:World} {b:Nat} {t:Bs} {f:List Nat} (h:WTx w b t f) (k:Int) (n s x:Bs) (v:Value) (hl:t.length + n.length + x.length + 20≤1000000000) :
    Calls Tryz.prog 85 #[.pointer (some ⟨b,0,none⟩),.agg #[.int .i64 k,.string ⟨n.toArray⟩,.string ⟨s.toArray⟩,.string ⟨x.toArray⟩,v]] w fun r w' => r = .returned (.tuple #[])∧∃ f', WTx w' b (t ++ pi5 n x) f' ∧ Fr w w' b f f' := by
  obtain ⟨hA,hbA⟩:=wtx_alloc h (.cells #[.int .i64 k,.string ⟨n.toArray⟩,.string ⟨s.toArray⟩,.string ⟨x.toArray⟩,v] 53)
  have hlt:=(wtx_lt h).1
  have hk:=bq_new h (.cells #[.int .i64 k,.string ⟨n.toArray⟩,.string ⟨s.toArray⟩,.string ⟨x.toArray⟩,v] 53)
  have H1:=hide (wput_any hA (60 :: 63 :: n) (by simp;omega))
  have HBA:=hide (And.intro hbA hk)
  clear hA hbA h hk
  cases x with
  | nil =>
    have e0:(([]:Bs) == [])=true:=rfl
    have e1:(([]:Bs) != [])=false:=rfl
    go_enter Tryz.func85,Tryz.ntmps85
    go_wp2_with fail
    refine (unhide H1).mono ?_
    rintro e w1 ⟨rfl,f1,h1,b1⟩
    have hk1:=(unhide HBA).2.fr b1
    have c3:=hk1.cell 3
    have H2:=hide (wput_any h1 [63,62] (by simp at hl ⊢;omega))
    have HF1:=hide ((unhide HBA).1.trans b1)
    clear h1 b1 hk1 H1 HBA
    go_wp2_with fail
    refine (unhide H2).mono ?_
    rintro e w2 ⟨rfl,f2,h2,b2⟩
    have HF:Hid (WTx w2 b (t ++ pi5 n []) f2∧Fr w w2 b f f2):=⟨by have e:t ++ pi5 n []=t ++ (60 :: 63 :: n) ++ [63,62]:=(by simp [pi5]);rw [e];exact h2,(unhide HF1).trans b2⟩
    clear h2 b2 H2 HF1
    go_wp2
    go_end0
    exact ⟨rfl,f2,unhide HF⟩
  | cons y x =>
    have e0:((y :: x) == ([]:Bs))=false:=rfl
    have e1:((y :: x) != ([]:Bs))=true:=rfl
    have hE:pi5 n (y :: x)=[60,63] ++ n ++ (32 :: (y :: x)) ++ [63,62]:=by unfold pi5;rw [if_neg (by simp)]
    rw [hE]
    clear hE
    generalize (y :: x)=z at *
    go_enter Tryz.func85,Tryz.ntmps85
    go_wp2_with fail
    refine (unhide H1).mono ?_
    rintro e w1 ⟨rfl,f1,h1,b1⟩
    have hk1:=(unhide HBA).2.fr b1
    have c3:=hk1.cell 3
    have H2:=hide (wput_any h1 (32 :: z) (by simp;omega))
    have HF1:=hide ((unhide HBA).1.trans b1)
    clear h1 b1 hk1 H1 HBA
    go_wp2_with fail
    refine (unhide H2).mono ?_
    rintro e w2 ⟨rfl,f2,h2,b2⟩
    have H3:=hide (wput_any h2 [63,62] (by simp;omega))
    have HF2:=hide ((unhide HF1).trans b2)
    clear h2 b2 H2 HF1
    go_wp2_with fail
    refine (unhide H3).mono ?_
    rintro e w3 ⟨rfl,f3,h3,b3⟩
    have HF:Hid (WTx w3 b (t ++ ([60,63] ++ n ++ 32 :: z ++ [63,62])) f3∧Fr w w3 b f f3):=⟨by have e:t ++ ([60,63] ++ n ++ 32 :: z ++ [63,62])=t ++ (60 :: 63 :: n) ++ (32 :: z) ++ [63,62]:=(by simp);rw [e];exact h3,(unhide HF2).trans b3⟩
    clear h3 b3 H3 HF2
    go_wp2
    go_end0
    exact ⟨rfl,f3,unhide HF⟩
theorem wother_any {w:World} {b:Nat} {t:Bs} {f:List Nat} (h:WTx w b t f) (e:Ev) (v:Value) (hl:t.length + e.name.length + 6 * e.val.length + 30≤1000000000) :
    Calls Tryz.prog 70 #[.pointer (some ⟨b,0,none⟩),.agg #[.int .i64 e.kind,.string ⟨e.name.toArray⟩,.string ⟨e.space.toArray⟩,.string ⟨e.val.toArray⟩,v]] w fun r w' => r = .returned (.tuple #[])∧∃ f', WTx w' b (t ++ wOther e) f' ∧ Fr w w' b f f' := by
  obtain ⟨k,n,s,x,ats⟩:=e
  dsimp only at hl ⊢
  obtain ⟨hA,hbA⟩:=wtx_alloc h (.cells #[.int .i64 k,.string ⟨n.toArray⟩,.string ⟨s.toArray⟩,.string ⟨x.toArray⟩,v] 53)
  have hlt:=(wtx_lt h).1
  have HBA:=hide hbA
  have HA:=hide hA
  clear hA hbA h
  by_cases k2:k=2
  · subst k2
    have e1:((2:Int) == 2)=true:=rfl
    have H1:=hide (wput_any (unhide HA) (60 :: 47 :: (n ++ [62])) (by simp;omega))
    have hE:wOther ⟨2,n,s,x,ats⟩=60 :: 47 :: (n ++ [62]):=by unfold wOther;simp
    rw [hE]
    clear hE HA
    go_enter Tryz.func70,Tryz.ntmps70
    go_wp2_with fail
    refine (unhide H1).mono ?_
    rintro e w1 ⟨rfl,f1,h1,b1⟩
    have HF:=hide (And.intro h1 ((unhide HBA).trans b1))
    clear h1 b1 H1 HBA
    go_wp2
    go_end0
    exact ⟨rfl,f1,unhide HF⟩
  by_cases k3:k=3
  · subst k3
    have H1:=hide (wtext_any (unhide HA) x (by omega))
    have hE:wOther ⟨3,n,s,x,ats⟩=wText x:=by unfold wOther;simp
    rw [hE]
    clear hE HA
    go_enter Tryz.func70,Tryz.ntmps70
    go_wp2_with fail
    refine (unhide H1).mono ?_
    rintro e w1 ⟨rfl,f1,h1,b1⟩
    have HF:=hide (And.intro h1 ((unhide HBA).trans b1))
    clear h1 b1 H1 HBA
    go_wp2
    go_end0
    exact ⟨rfl,f1,unhide HF⟩
  by_cases k4:k=4
  · subst k4
    have H1:=hide (wput_any (unhide HA) (60 :: 33 :: 45 :: 45 :: (x ++ [45,45,62])) (by simp;omega))
    have hE:wOther ⟨4,n,s,x,ats⟩=60 :: 33 :: 45 :: 45 :: (x ++ [45,45,62]):=by unfold wOther;simp
    rw [hE]
    clear hE HA
    go_enter Tryz.func70,Tryz.ntmps70
    go_wp2_with fail
    refine (unhide H1).mono ?_
    rintro e w1 ⟨rfl,f1,h1,b1⟩
    have HF:=hide (And.intro h1 ((unhide HBA).trans b1))
    clear h1 b1 H1 HBA
    go_wp2
    go_end0
    exact ⟨rfl,f1,unhide HF⟩
  by_cases k5:k=5
  · subst k5
    have H1:=hide (wpi_any (unhide HA) 5 n s x v (by omega))
    have hE:wOther ⟨5,n,s,x,ats⟩=pi5 n x:=by unfold wOther pi5;simp
    rw [hE]
    clear hE HA
    go_enter Tryz.func70,Tryz.ntmps70
    go_wp2_with fail
    refine (unhide H1).mono ?_
    rintro e w1 ⟨rfl,f1,h1,b1⟩
    have HF:=hide (And.intro h1 ((unhide HBA).trans b1))
    clear h1 b1 H1 HBA
    go_wp2
    go_end0
    exact ⟨rfl,f1,unhide HF⟩
  · have e2:(k == 2)=false:=by simpa using k2
    have e3:(k == 3)=false:=by simpa using k3
    have e4:(k == 4)=false:=by simpa using k4
    have e5:(k == 5)=false:=by simpa using k5
    have hE:wOther ⟨k,n,s,x,ats⟩=[]:=by unfold wOther;simp [k2,k3,k4,k5]
    rw [hE]
    clear hE
    go_enter Tryz.func70,Tryz.ntmps70
    go_wp2
    go_end0
    exact ⟨rfl,f,by rw [List.append_nil];exact unhide HA,unhide HBA⟩
def AtsAt (w:World) (aa:Option Addr) (l:List Att):Prop:=
  ∀ k (hk:k<l.length), ∃ g,aa=some ⟨g,0,none⟩∧g<w.heap.size∧w.cell? ⟨g,k * 3,none⟩=some (.string ⟨l[k].name.toArray⟩)∧w.cell? ⟨g,k * 3 + 2,none⟩=some (.string ⟨l[k].val.toArray⟩)
theorem AtsAt.of {w:World} {l:List Att} {a:Option Addr} {c:Nat} (h:w.ownsRow 0 112 3 (.slice a l.length c) l.length (atsRow l)):AtsAt w a l:=fun k hk=>by
  obtain ⟨g,h1,h2,h3⟩:=spElem (m:=3) (l:=l) atCells (fun _=>rfl) (by decide) h k hk
  exact ⟨g,h1,h2,h3 0 (by decide),h3 2 (by decide)⟩
def BsAt (w:World) (ba:Option Addr) (l:List Ev):Prop:=
  ∀ k (hk:k<l.length), ∃ g o,ba=some ⟨g,o,none⟩∧g<w.heap.size∧w.cell? ⟨g,o + k * 5 + 1,none⟩=some (.string ⟨l[k].name.toArray⟩)∧w.cell? ⟨g,o + k * 5 + 3,none⟩=some (.string ⟨l[k].val.toArray⟩)
theorem flat_take {α:Type} (f:α→Bs) (l:List α) (i:Nat) (hi:i<l.length):(l.take (i + 1)).flatMap f=(l.take i).flatMap f ++ f l[i]:=by
  rw [List.take_add_one,List.flatMap_append]
  simp [List.getElem?_eq_getElem hi]
theorem flat_le {α:Type} (f:α→Bs) (l:List α) (i:Nat):((l.take i).flatMap f).length≤(l.flatMap f).length:=by
  conv=>rhs;rw [← List.take_append_drop i l,List.flatMap_append,List.length_append]
  omega
def wBs (l:List Ev):Bs:=l.flatMap fun x=>wAttr (declN x.name) x.val
def wAs (l:List Att):Bs:=l.flatMap fun x=>wAttr x.name x.val
theorem declN_len (p:Bs):(declN p).length≤p.length + 6:=by
  unfold declN
  split
  · simp [Mk.wXmlns]
  · simp [Mk.wXmlns]
set_option maxHeartbeats 2000000 in
set_option maxRecDepth 100000 in
theorem wstart_any {w0 w:World} {t:Bs} {f:List Nat} (h:WTx w w0.heap.size t f) (hW:Below w0.heap.size w0 w) (e:Ev) (aa ba:Option Addr) (ac bc:Nat) (bs:List Ev) (hA:AtsAt w0 aa e.attrs) (hB:BsAt w0 ba bs)
    (hn:e.name.length≤7000000) (hna:∀ y ∈ e.attrs,y.name.length≤7000000∧y.val.length≤7000000) (hnb:∀ y ∈ bs,y.name.length≤7000000∧y.val.length≤7000000) (hal:e.attrs.length≤7000000) (hbl:bs.length≤20000000)
    (hl:t.length + (wStart e bs).length≤900000000) :
    Calls Tryz.prog 69 #[.pointer (some ⟨w0.heap.size,0,none⟩),.agg #[.int .i64 e.kind,.string ⟨e.name.toArray⟩,.string ⟨e.space.toArray⟩,.string ⟨e.val.toArray⟩,.slice aa e.attrs.length ac],.slice ba bs.length bc] w fun r w' => r = .returned (.tuple #[])∧∃ f', WTx w' w0.heap.size (t ++ wStart e bs) f' ∧ Fr w w' w0.heap.size f f' := by
  obtain ⟨k,n,s,x,ats⟩:=e
  dsimp only at hA hn hna hal hl ⊢
  have hE:wStart ⟨k,n,s,x,ats⟩ bs=60 :: n ++ wBs bs ++ wAs ats ++ [62]:=rfl
  rw [hE] at hl ⊢
  simp only [List.length_append,List.length_cons,List.length_nil] at hl
  clear hE
  obtain ⟨hA1,hbA⟩:=wtx_alloc h (.cells #[.int .i64 k,.string ⟨n.toArray⟩,.string ⟨s.toArray⟩,.string ⟨x.toArray⟩,.slice aa ats.length ac] 53)
  have hlt:=(wtx_lt h).1
  have hk:=bq_new h (.cells #[.int .i64 k,.string ⟨n.toArray⟩,.string ⟨s.toArray⟩,.string ⟨x.toArray⟩,.slice aa ats.length ac] 53)
  have H1:=hide (wput_any hA1 (60 :: n) (by simp;omega))
  have HK:=hide (And.intro hbA hk)
  have HB0:=hide hW
  have HAT:=hide hA
  have HBS:=hide hB
  have HNA:=hide hna
  have HNB:=hide hnb
  have HFR:Hid (∀ w' f', Fr w w' w0.heap.size f f' → Below w0.heap.size w0 w'):=fun w' f' hf=>(unhide HB0).trans ⟨hf.os,hf.tape,hf.output,hf.size,fun k hk=>hf.block k (by omega) (by omega) fun hm=>by have:=((wtx_lt h).2 k hm).1;omega⟩
  clear hA1 hbA hk hW hA hB hna hnb h HB0
  go_enter Tryz.func69,Tryz.ntmps69
  go_wp2_with fail
  refine (unhide H1).mono ?_
  rintro e w1 ⟨rfl,f1,h1,b1⟩
  have HP:Hid (WTx w1 w0.heap.size (t ++ (60 :: n) ++ wBs (bs.take 0)) f1∧Fr w w1 w0.heap.size f f1∧Bq w1 w.heap.size w0.heap.size f1 (.cells #[.int .i64 k,.string ⟨n.toArray⟩,.string ⟨s.toArray⟩,.string ⟨x.toArray⟩,.slice aa ats.length ac] 53 (0,0))):=⟨by show WTx w1 w0.heap.size (t ++ (60 :: n) ++ []) f1;rw [List.append_nil];exact h1,(unhide HK).1.trans b1,(unhide HK).2.fr b1⟩
  clear h1 b1 H1 HK
  go_wp2_with fail
  go_loopg [6] bs.length (fun g s6 wx=>∃ (i:Nat) (f' : List Nat),i≤bs.length∧g=bs.length - i∧s6 = .int .i64 (i:Int)∧Hid (WTx wx w0.heap.size (t ++ (60 :: n) ++ wBs (bs.take i)) f' ∧ Fr w wx w0.heap.size f f' ∧ Bq wx w.heap.size w0.heap.size f' (.cells #[.int .i64 k,.string ⟨n.toArray⟩,.string ⟨s.toArray⟩,.string ⟨x.toArray⟩,.slice aa ats.length ac] 53 (0,0))))
  case atStart=>exact ⟨0,f1,by omega,rfl,rfl,unhide HP⟩
  case round =>
    obtain ⟨i,f2,hi,rfl,rfl,HQ⟩:=hrel
    clear HP
    by_cases h3:i<bs.length
    · have e1:decide ((i:Int)<(bs.length:Int))=true:=by simp;omega
      have hk1:(i:Int)<(bs.length:Int):=by omega
      obtain ⟨g,o,hba,hgl,c1,c3⟩:=unhide HBS i h3
      subst hba
      have hbel:=unhide HFR _ _ (unhide HQ).2.1
      have hcw:∀ j,wr.cell? ⟨g,j,none⟩=w0.cell? ⟨g,j,none⟩:=fun j=>by simp only [World.cell?];rw [hbel.block _ hgl]
      have hgl2:g<wr.heap.size:=by have:=hbel.size;omega
      rw [← hcw] at c1 c3
      have HD:=hide (decl_any bs[i].name (by have:=(unhide HNB bs[i] (List.getElem_mem h3)).1;omega))
      have hfl:=flat_take (fun x:Ev=>wAttr (declN x.name) x.val) bs i h3
      have hle:=flat_le (fun x:Ev=>wAttr (declN x.name) x.val) bs i
      have HW:=hide (wattr_any (unhide HQ).1 (declN bs[i].name) bs[i].val (by
        have q:=unhide HNB bs[i] (List.getElem_mem h3)
        have q1:=declN_len bs[i].name
        have hle:(wBs (bs.take i)).length≤(wBs bs).length:=hle
        rw [List.length_append,List.length_append,List.length_cons]
        omega))
      have hfl:wBs (bs.take (i + 1))=wBs (bs.take i) ++ wAttr (declN bs[i].name) bs[i].val:=hfl
      rw [List.append_assoc, ← hfl] at HW
      clear hfl hle hcw hbel
      generalize bs[i]=y at *
      go_wp2_with fail
      refine (unhide HD _).mono ?_
      rintro e w2 ⟨rfl,rfl⟩
      go_wp2_with fail
      refine (unhide HW).mono ?_
      rintro e w3 ⟨rfl,f3,h3', b3⟩
      have HN:=hide (And.intro h3' (And.intro ((unhide HQ).2.1.trans b3) ((unhide HQ).2.2.fr b3)))
      clear h3' b3 HW HQ HD c1 c3
      go_wp2
      go_roundg (bs.length - (i + 1))
      case measure=>omega
      case rel=>exact ⟨i + 1,f3,by omega,rfl,by simp,unhide HN⟩
    · have e1:decide ((i:Int)<(bs.length:Int))=false:=by simp;omega
      have hil:i=bs.length:=by omega
      subst hil
      have HP2:Hid (WTx wr w0.heap.size (t ++ (60 :: n) ++ wBs bs ++ wAs (ats.take 0)) f2∧Fr w wr w0.heap.size f f2∧Bq wr w.heap.size w0.heap.size f2 (.cells #[.int .i64 k,.string ⟨n.toArray⟩,.string ⟨s.toArray⟩,.string ⟨x.toArray⟩,.slice aa ats.length ac] 53 (0,0))):=by
        have q:=unhide HQ
        rw [List.take_length] at q
        exact ⟨by show WTx wr w0.heap.size (t ++ (60 :: n) ++ wBs bs ++ []) f2;rw [List.append_nil];exact q.1,q.2⟩
      have c4:=(unhide HP2).2.2.cell 4
      clear HQ HBS HNB
      go_wp2_with fail
      go_loopg [8] ats.length (fun g s8 wx=>∃ (j:Nat) (f' : List Nat),j≤ats.length∧g=ats.length - j∧s8 = .int .i64 (j:Int)∧Hid (WTx wx w0.heap.size (t ++ (60 :: n) ++ wBs bs ++ wAs (ats.take j)) f' ∧ Fr w wx w0.heap.size f f' ∧ Bq wx w.heap.size w0.heap.size f' (.cells #[.int .i64 k,.string ⟨n.toArray⟩,.string ⟨s.toArray⟩,.string ⟨x.toArray⟩,.slice aa ats.length ac] 53 (0,0))))
      case atStart=>exact ⟨0,f2,by omega,rfl,rfl,unhide HP2⟩
      case round =>
        obtain ⟨j,f3,hj,rfl,rfl,HQ⟩:=hrel
        clear HP2 c4
        have c4:=(unhide HQ).2.2.cell 4
        have hlx:w.heap.size<wr.heap.size:=(Array.getElem?_eq_some_iff.1 (unhide HQ).2.2.blk).1
        by_cases h4:j<ats.length
        · have e2:decide ((j:Int)<(ats.length:Int))=true:=by simp;omega
          have hk2:(j:Int)<(ats.length:Int):=by omega
          obtain ⟨g,haa,hgl,c0,c2⟩:=unhide HAT j h4
          subst haa
          have hbel:=unhide HFR _ _ (unhide HQ).2.1
          have hcw:∀ q,wr.cell? ⟨g,q,none⟩=w0.cell? ⟨g,q,none⟩:=fun q=>by simp only [World.cell?];rw [hbel.block _ hgl]
          have hgl2:g<wr.heap.size:=by have:=hbel.size;omega
          rw [← hcw] at c0 c2
          have hfl:=flat_take (fun x:Att=>wAttr x.name x.val) ats j h4
          have hle:=flat_le (fun x:Att=>wAttr x.name x.val) ats j
          have hq1:WTx wr.drew w0.heap.size (t ++ (60 :: n) ++ wBs bs ++ wAs (ats.take j)) f3:=wtx_keep (unhide HQ).1 ⟨rfl,rfl,rfl,Nat.le_refl _,fun _ _=>rfl⟩
          have HW:=hide (wattr_any hq1 ats[j].name ats[j].val (by
            have q:=unhide HNA ats[j] (List.getElem_mem h4)
            have hle:(wAs (ats.take j)).length≤(wAs ats).length:=hle
            rw [List.length_append,List.length_append,List.length_append,List.length_cons]
            omega))
          have hfl:wAs (ats.take (j + 1))=wAs (ats.take j) ++ wAttr ats[j].name ats[j].val:=hfl
          rw [List.append_assoc, ← hfl] at HW
          clear hfl hle hcw hbel
          generalize ats[j]=y at *
          clear hq1
          go_wp2_with fail
          go_region_with (go_at_call 83;refine (unhide HW).mono ?_;rintro e w3 ⟨rfl,f4,h3', b3⟩;have b3' : Fr wr w3 w0.heap.size f3 f4:=⟨b3.os,b3.tape,b3.output,b3.size,b3.block,b3.foot⟩;have HN:=hide (And.intro h3' (And.intro ((unhide HQ).2.1.trans b3') ((unhide HQ).2.2.fr b3')));clear h3' b3 b3' HW HQ c0 c2 c4)
          all_goals
            go_wp2
            go_roundg (ats.length - (j + 1))
            case measure=>omega
            case rel=>exact ⟨j + 1,f4,by omega,rfl,by simp,unhide HN⟩
        · have e2:decide ((j:Int)<(ats.length:Int))=false:=by simp;omega
          have hjl:j=ats.length:=by omega
          have H5:=hide (wput_any (unhide HQ).1 [62] (by
            have hle:(wAs (ats.take j)).length≤(wAs ats).length:=flat_le (fun x:Att=>wAttr x.name x.val) ats j
            simp only [List.length_append,List.length_cons,List.length_nil]
            omega))
          go_wp2_with fail
          refine (unhide H5).mono ?_
          rintro e w4 ⟨rfl,f5,h5,b5⟩
          have HF:Hid (WTx w4 w0.heap.size (t ++ (60 :: n ++ wBs bs ++ wAs ats ++ [62])) f5∧Fr w w4 w0.heap.size f f5):=by
            refine ⟨?_,(unhide HQ).2.1.trans b5⟩
            rw [hjl,List.take_length] at h5
            have e:t ++ (60 :: n ++ wBs bs ++ wAs ats ++ [62])=t ++ (60 :: n) ++ wBs bs ++ wAs ats ++ [62]:=by simp
            rw [e];exact h5
          clear h5 b5 H5 HQ c4
          go_wp2
          go_end0
          exact ⟨rfl,f5,unhide HF⟩
def hv (l:Bs):Value:=.tuple #[.string ⟨(if Mk.isQualified l then Mk.prefixOf l else []).toArray⟩,.string ⟨(if Mk.isQualified l then Mk.localOf l else []).toArray⟩,.bool (Mk.isQualified l)]
section
variable {n0:Nat} {w w' : World} {b:Nat} {ty:TypeId} {cs:List Value} {rs rs' rs0:List Row}
end
structure SLay where
  pa:Option Addr
  pc:Nat
  va:Option Addr
  vc:Nat
  ma:Option Addr
  mc:Nat
section
variable {n0:Nat} {w w' : World} {b:Nat} {ps vs:List Bs} {ms:List Nat} {L:SLay}
end
section
variable {n0:Nat} {w w' : World} {b:Nat} {ps vs:List Bs} {ms:List Nat} {L:SLay}
end
section
variable {n0:Nat} {w wx w1 w2:World} {b:Nat} {f0:List Nat} {bs bs' : List (Bs × Bs)} {ms ms' : List Nat} {L L' : SLay} {es:List (Ev × Value)} {ov:Value}
end
section
variable {n0:Nat} {w w' : World} {b:Nat} {ps vs:List Bs} {ms:List Nat} {L:SLay}
end
theorem Got.cap {w:World} {a:Option Addr} {c:Nat} {l:List Ev} {fp:List Nat} (hg:Got w (.slice a l.length c) l fp):l.length≤c:=by
  obtain ⟨es,hl,ho,ha,_,_⟩:=hg.ex
  rcases ho.2 with ⟨h1,h2⟩ | ⟨g,cap,cur,h1,_,_,h3,_⟩
  · omega
  · injection h1 with _ _ h4;omega
theorem Got.at2 {w:World} {v:Value} {l:List Ev} {fp:List Nat} (hg:Got w v l fp) (k:Nat) (hk:k<l.length) :
    ∃ g c aa ac,v = .slice (some ⟨g,0,none⟩) l.length c∧g<w.heap.size∧w.cell? ⟨g,k * 5,none⟩=some (.int .i64 l[k].kind)∧w.cell? ⟨g,k * 5 + 1,none⟩=some (.string ⟨l[k].name.toArray⟩)∧w.cell? ⟨g,k * 5 + 2,none⟩=some (.string ⟨l[k].space.toArray⟩)∧w.cell? ⟨g,k * 5 + 3,none⟩=some (.string ⟨l[k].val.toArray⟩)∧w.cell? ⟨g,k * 5 + 4,none⟩=some (.slice aa l[k].attrs.length ac)∧AtsAt w aa l[k].attrs∧(evRow (l[k],.slice aa l[k].attrs.length ac)).owned w 0:=by
  obtain ⟨es,hl,ho,ha,_,_⟩:=hg.ex
  have n1:es.length=l.length:=by rw [← hl];simp
  have k1:k<es.length:=by omega
  obtain ⟨g,d,f1,hlt,q⟩:=elem_cells (l:=es) (fun p=>evCells p.1 p.2) (fun _=>rfl) (by decide) ho n1.symm k k1
  have r1:es[k].1=l[k]:=by simp only [← hl,List.getElem_map]
  have o1:=ha _ (List.getElem_mem k1)
  obtain ⟨aa,ac,h2⟩:=slice_form o1
  have o2:w.ownsRow 0 112 3 es[k].2 es[k].1.attrs.length (atsRow es[k].1.attrs):=o1
  have h2:es[k].2 = .slice aa es[k].1.attrs.length ac:=h2
  rw [h2,r1] at o2
  have q0:=q 0 (by decide)
  have q1:=q 1 (by decide)
  have q2:=q 2 (by decide)
  have q3:=q 3 (by decide)
  have q4:=q 4 (by decide)
  rw [h2,r1] at q0 q1 q2 q3 q4
  exact ⟨g,d,aa,ac,f1,hlt,q0,q1,q2,q3,q4,AtsAt.of o2,o2⟩
section
variable {w wx w1 w2:World} {b:Nat} {bs bs' : List (Bs × Bs)} {ms ms' : List Nat} {L L' : SLay} {acc m:List Ev} {ov mv:Value} {fp fpm:List Nat} {f1:List Nat}
end
end Go.Proofs.YtmgfijllcdadgabGreatDoor
