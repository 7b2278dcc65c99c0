/- TagsC, Tags -/
import Derived.Test.YtmgfijllcdadgabGreatDoorPM14
set_option linter.unusedVariables false
set_option linter.unusedSimpArgs false
namespace Go.Proofs.YtmgfijllcdadgabGreatDoor
open Go.RowKit
open Mk (St Bs Ev Att)
structure Sl (s:St):Prop where
  l:s.list.length + 500≤700000000
  b:s.bnd.length + 40≤290000000
  c:s.cnt.length + 1≤100000000
theorem tellStart_bd {s:St} (h:Bd s) (hl:s.list.length + 200≤700000000):Bd (Mk.tellStart s)∧(Mk.tellStart s).opn=s.opn∧(Mk.tellStart s).name=s.name∧(Mk.tellStart s).list.length≤s.list.length + 66:=by
  have h1:=bindAll_len2 (Mk.ofTag s) s
  have h2:=spTagLen h.cb
  have h3:=add_len2 (Mk.tellBinds s) ⟨1,s.name,Mk.spaceOf s s.name,[],s.attrs⟩
  have e1:(Mk.tellStart s).list=(Mk.add (Mk.tellBinds s) ⟨1,s.name,Mk.spaceOf s s.name,[],s.attrs⟩).list:=rfl
  have e2:(Mk.tellStart s).text=(Mk.add (Mk.tellBinds s) ⟨1,s.name,Mk.spaceOf s s.name,[],s.attrs⟩).text:=rfl
  rw [← e1, ← e2] at h3
  have h4:(Mk.tellBinds s).list.length≤s.list.length + 64:=by show (Mk.bindAll s (Mk.ofTag s)).list.length≤_;omega
  have h5:(Mk.tellBinds s).text.length≤s.text.length:=h1.1
  have e:=tellStart_core s
  have h6:=h.hx
  refine ⟨?_,by rw [e],by rw [e],by omega⟩
  have q1:(Mk.tellStart s).list.length≤700000000:=by omega
  have q2:(Mk.tellStart s).text.length≤100000000:=by omega
  rw [e] at q1 q2 ⊢
  exact { h with hx:=q2,hl:=q1,ha:=(by simp),an:=fun a ha=>by cases ha }
theorem enter_bd {s:St} (h:Bd s) (hs:Sl s) {l:List Att} (he:(Mk.enter s).2=some l):Bd { (Mk.enter s).1 with attrs:=l }∧(Mk.enter s).1.list=s.list∧(Mk.enter s).1.name=s.name∧(Mk.enter s).1.am=false:=by
  obtain ⟨e1,e2⟩:=enter_some he
  obtain ⟨d1,d2⟩:=declare_core s
  have g1:=declareGo_len s.attrs s.bnd 0
  have g2:=resolveGo_nm _ 100000000 s.attrs [] l e2
  have g3:=h.ha
  rw [e1]
  have hb:(Mk.declare s).1.bnd.length≤290000000:=by rw [d1];dsimp only;have:=hs.b;omega
  have hc:(Mk.declare s).1.cnt.length≤100000000:=by
    rcases d2 with d2 | d2
    · rw [d2];exact h.hc
    · rw [d2];have:=hs.c;simp;omega
  have hcb:∀ c ∈ (Mk.declare s).1.cnt,c≤32:=by
    rcases d2 with d2 | d2
    · rw [d2];exact h.cb
    · rw [d2]
      intro c hc
      rcases List.mem_append.1 hc with hc | hc
      · exact h.cb c hc
      · simp at hc;subst hc;omega
  rw [d1] at hb hc hcb ⊢
  dsimp only at hb hc hcb
  refine ⟨{ h with ha:=?_,an:=?_,hb:=hb,hc:=hc,cb:=hcb },rfl,rfl,h.am⟩
  · have:=g2.1;simp at this;show l.length≤32;omega
  · exact g2.2 (fun a ha=>by cases ha) h.an
theorem Enter_none {w:World} {b:Nat} {s:St} {L:Lay} (h:RdL w b s L) (hB:Bd s) (he:(Mk.enter s).2=none) :
    Calls Tryz.prog 171 #[.pointer (some ⟨b,7,none⟩),.string ⟨s.name.toArray⟩,.slice L.aa s.attrs.length L.ac] w fun e w' => e = .returned (.tuple #[.slice none 0 0,.bool false])∧∃ L', Mv w b (foot s L) w' (Mk.enter s).1 L' := by
  refine (Enter_any h hB).mono ?_
  rintro e w' ⟨L', hm, -, -,⟨-,rfl⟩ | ⟨l,a,c,B,h1, -⟩⟩
  · exact ⟨rfl,L', hm⟩
  · rw [he] at h1;cases h1
theorem Enter_some {w:World} {b:Nat} {s:St} {L:Lay} (h:RdL w b s L) (hB:Bd s) (l:List Att) (he:(Mk.enter s).2=some l) (ham:(Mk.enter s).1.am=false) :
    Calls Tryz.prog 171 #[.pointer (some ⟨b,7,none⟩),.string ⟨s.name.toArray⟩,.slice L.aa s.attrs.length L.ac] w fun e w' => ∃ a c,e = .returned (.tuple #[.slice a l.length c,.bool true])∧∃ L', Mv w b (foot s L) w' (Mk.enter s).1 L' ∧ Mv w b (foot s L) (w'.setCell ⟨b,13,none⟩ (.slice a l.length c)) { (Mk.enter s).1 with attrs:=l } { L' with aa:=a,ac:=c }:=by
  refine (Enter_any h hB).mono ?_
  rintro e w' ⟨L', hm, -, -,⟨h1, -⟩ | ⟨l', a,c,B,h1,rfl,hB1,hB2,hB3,hB4⟩⟩
  · rw [he] at h1;cases h1
  · rw [he] at h1
    cases h1
    exact ⟨a,c,rfl,L', hm,hm.setAttrs ham l a c B hB1 hB2 hB3 hB4⟩
set_option maxHeartbeats 2000000 in
set_option maxRecDepth 100000 in
theorem endAttributes_any {w:World} {b:Nat} {s:St} {L:Lay} (h:RdL w b s L) (hB:Bd s) (hl2:Sl s) (x:Int) :
    Calls Tryz.prog 166 #[.pointer (some ⟨b,0,none⟩),.int .u8 x] w (Does w b s L (Mk.endAttributes s x)):=by
  obtain ⟨i0,hi,hz0,hz1,hz2⟩:=info_parts infoStr
  have hc:=h.cell
  have hf:=h.frozen
  have hlt:=h.lt
  have HM:=hide h.start
  cases hon:s.on
  · have hans:Mk.endAttributes s x=(Mk.endStart s x,0):=by unfold Mk.endAttributes;rw [hon];rfl
    rw [hans]
    have HTS:=hide (tellStart_any h hB)
    have hbd:=tellStart_bd hB (by have:=hl2.l;omega)
    unfold cellsOf at hc
    rw [hon] at hc
    clear h hans hB
    cases e1:(x == 47)
    · have hr:Mk.endStart s x=Mk.resume { Mk.tellStart s with opn:=s.opn ++ [s.name],name:=[] }:=by simp [Mk.endStart,e1]
      rw [hr]
      clear hr
      go_enter Tryz.func166,Tryz.ntmps166
      go_wp2_with fail
      refine (unhide HTS).mono ?_
      rintro e w1 ⟨rfl,L1,hm1⟩
      obtain ⟨hb1,ho1,hn1, -⟩:=hbd
      clear HTS HM hc hf
      generalize Mk.tellStart s=s1 at *
      have HO1:=hide ho1
      have HN1:=hide hn1
      clear ho1 hn1
      have hc:=hm1.rd.cell
      have hf:=hm1.rd.frozen
      have hlt1:=hm1.rd.lt
      have ho:=hb1.ho
      have hm2:=(hm1.alloc (.cells #[.string ⟨s1.name.toArray⟩] 9)).drew
      have HO:=hide (hm2.rd.rows.own (opnRow s1 L1) (by simp [rowsOf]))
      have HB:=hide (show (w1.alloc (.cells #[.string ⟨s1.name.toArray⟩] 9)).drew.heap[w1.heap.size]? = _ from heap_alloc_new w1 _)
      have H63:=hide (show s1.opn.length + 1≤maxLen by unfold maxLen;omega)
      have HBB:=hide (show b - 1≤(w1.alloc (.cells #[.string ⟨s1.name.toArray⟩] 9)).drew.heap.size by simp;omega)
      have HM2:=hide hm2
      unfold cellsOf at hc
      clear hm1 hm2 hb1
      go_wp2
      go_region_law (refine step_append_lies _ rfl (.tmp 44) (.tmp 49) 22 rfl (b - 1) 9 i0 _ 1 16 Tryz.underlying22 hi hz0 hz1 hz2 rfl (by decide) (.slice L1.oa s1.opn.length L1.oc) s1.opn.length (s1.opn.map sv) (by simp [Act.eval]) (unhide HO) ⟨w1.heap.size,0,none⟩ 1 1 [.string ⟨s1.name.toArray⟩] (by simp [Act.eval]) rfl (World.news_of_block (unhide HB)) (by intro u hu;simp at hu;subst hu;rfl) (by decide) (unhide H63) (by omega) (unhide HBB) (w1.heap.size + 1) (by simp) ?_;intro g cap w2 hown hgrow hat hlt2;obtain ⟨hr,hfr⟩:=cell_of_blk ((unhide HM2).rd.grown (r:=opnRow s1 L1) hgrow (by simp [rowsOf]));unfold cellsOf at hr)
      all_goals
        have hm3:=((unhide HM2).pushOpen s1.name hown hgrow (by simpa using hat)).store 11 (.string ⟨#[]⟩) { s1 with opn:=s1.opn ++ [s1.name],name:=[] } rfl rfl rfl
        have H3:=hide (resume_any hm3.rd)
        have HM3:=hide hm3
        clear hm3 HM2 hown hgrow
        go_wp2_with (go_at_call 144;refine (unhide H3).mono ?_;rintro e w5 ⟨rfl,hm3⟩;have HM4:=hide hm3;clear hm3)
        go_ret
        rw [← unhide HO1, ← unhide HN1]
        exact ⟨rfl,_,(unhide HM3).call (unhide HM4)⟩
    · have hr:Mk.endStart s x={ s with state:=19 }:=by simp [Mk.endStart,e1]
      rw [hr]
      clear hr HTS
      go_enter Tryz.func166,Tryz.ntmps166
      go_wp2
      go_ret
      exact ⟨rfl,L,(unhide HM).store 4 _ _ rfl rfl rfl⟩
  · have HH:=hide h
    have HBB0:=hide hB
    have HBE:=hide (fun l (he:(Mk.enter s).2=some l)=>enter_bd hB hl2 he)
    have hll:=hl2.l
    cases hen:(Mk.enter s).2 with
    | none =>
      have hans:Mk.endAttributes s x=((Mk.enter s).1,8):=by unfold Mk.endAttributes;rw [hon,hen];rfl
      rw [hans]
      have HE:=hide (fun n=>Enter_none ((unhide HH).drewN n) (unhide HBB0) hen)
      unfold cellsOf at hc
      rw [hon] at hc
      clear h hans hB hen HBE HH HBB0
      go_enter Tryz.func166,Tryz.ntmps166
      go_wp2_with fail
      go_region_with (go_at_call 171;refine (unhide HE _).mono ?_;rintro e w1 ⟨rfl,L1,hm1⟩)
      all_goals
        have HM1:=hide (((unhide HM).drewN _).call hm1)
        clear hm1 HE
        go_wp2
        go_ret
        exact ⟨rfl,L1,unhide HM1⟩
    | some l =>
      have hans:Mk.endAttributes s x=(Mk.endStart { (Mk.enter s).1 with attrs:=l } x,0):=by unfold Mk.endAttributes;rw [hon,hen];rfl
      rw [hans]
      obtain ⟨hbe,hle,hne,hae⟩:=(unhide HBE) l hen
      have HE:=hide (fun n=>Enter_some ((unhide HH).drewN n) (unhide HBB0) l hen hae)
      have hbd:=tellStart_bd hbe (by show (Mk.enter s).1.list.length + 200≤_;rw [hle];omega)
      have HBD:=hide hbe
      unfold cellsOf at hc
      rw [hon] at hc
      clear h hans hB hen HBE hle hne hbe hae HH HBB0
      cases e1:(x == 47)
      · have hr:Mk.endStart { (Mk.enter s).1 with attrs:=l } x=Mk.resume { Mk.tellStart { (Mk.enter s).1 with attrs:=l } with opn:=(Mk.enter s).1.opn ++ [(Mk.enter s).1.name],name:=[] }:=by simp [Mk.endStart,e1]
        rw [hr]
        clear hr
        go_enter Tryz.func166,Tryz.ntmps166
        go_wp2_with fail
        go_region_with (go_at_call 171;refine (unhide HE _).mono ?_;rintro e w1 ⟨a,c,rfl,L1,hm1,hm2⟩)
        all_goals
          have hc1:=hm1.rd.cell
          have hf1:=hm1.rd.frozen
          have hlt1:=hm1.rd.lt
          have HTS:=hide (tellStart_any hm2.rd (unhide HBD))
          have HM2:=hide (((unhide HM).drewN _).call hm2)
          unfold cellsOf at hc1
          clear hm1 hm2 HE hc hf
          go_wp2_with fail
          refine (unhide HTS).mono ?_
          rintro e w3 ⟨rfl,L3,hm3⟩
          have hm3:=(unhide HM2).call hm3
          obtain ⟨hb1,ho1,hn1, -⟩:=hbd
          clear HTS HM hc1 hf1 HM2
          generalize Mk.tellStart { (Mk.enter s).1 with attrs:=l }=s1 at *
          have HO1:=hide (show s1.opn=(Mk.enter s).1.opn from ho1)
          have HN1:=hide (show s1.name=(Mk.enter s).1.name from hn1)
          clear ho1 hn1
          have hc:=hm3.rd.cell
          have hf:=hm3.rd.frozen
          have hlt1:=hm3.rd.lt
          have ho:=hb1.ho
          have hm2:=(hm3.alloc (.cells #[.string ⟨s1.name.toArray⟩] 9)).drew
          have HO:=hide (hm2.rd.rows.own (opnRow s1 L3) (by simp [rowsOf]))
          have HB:=hide (show (w3.alloc (.cells #[.string ⟨s1.name.toArray⟩] 9)).drew.heap[w3.heap.size]? = _ from heap_alloc_new w3 _)
          have H63:=hide (show s1.opn.length + 1≤maxLen by unfold maxLen;omega)
          have HBB:=hide (show b - 1≤(w3.alloc (.cells #[.string ⟨s1.name.toArray⟩] 9)).drew.heap.size by simp;omega)
          have HM2:=hide hm2
          unfold cellsOf at hc
          clear hm3 hm2 hb1
          go_wp2
          go_region_law (refine step_append_lies _ rfl (.tmp 44) (.tmp 49) 22 rfl (b - 1) 9 i0 _ 1 16 Tryz.underlying22 hi hz0 hz1 hz2 rfl (by decide) (.slice L3.oa s1.opn.length L3.oc) s1.opn.length (s1.opn.map sv) (by simp [Act.eval]) (unhide HO) ⟨w3.heap.size,0,none⟩ 1 1 [.string ⟨s1.name.toArray⟩] (by simp [Act.eval]) rfl (World.news_of_block (unhide HB)) (by intro u hu;simp at hu;subst hu;rfl) (by decide) (unhide H63) (by omega) (unhide HBB) (w3.heap.size + 1) (by simp) ?_;intro g cap w2 hown hgrow hat hlt2;obtain ⟨hr,hfr⟩:=cell_of_blk ((unhide HM2).rd.grown (r:=opnRow s1 L3) hgrow (by simp [rowsOf]));unfold cellsOf at hr)
          all_goals
            have hm4:=((unhide HM2).pushOpen s1.name hown hgrow (by simpa using hat)).store 11 (.string ⟨#[]⟩) { s1 with opn:=s1.opn ++ [s1.name],name:=[] } rfl rfl rfl
            have H3:=hide (resume_any hm4.rd)
            have HM3:=hide hm4
            clear hm4 HM2 hown hgrow
            go_wp2_with (go_at_call 144;refine (unhide H3).mono ?_;rintro e w5 ⟨rfl,hm3⟩;have HM4:=hide hm3;clear hm3)
            go_ret
            rw [← unhide HO1, ← unhide HN1]
            exact ⟨rfl,_,(unhide HM3).call (unhide HM4)⟩
      · have hr:Mk.endStart { (Mk.enter s).1 with attrs:=l } x={ (Mk.enter s).1 with attrs:=l,state:=19 }:=by simp [Mk.endStart,e1]
        rw [hr]
        clear hr
        go_enter Tryz.func166,Tryz.ntmps166
        go_wp2_with fail
        go_region_with (go_at_call 171;refine (unhide HE _).mono ?_;rintro e w1 ⟨a,c,rfl,L1,hm1,hm2⟩)
        all_goals
          have hc1:=hm1.rd.cell
          have hf1:=hm1.rd.frozen
          have hlt1:=hm1.rd.lt
          have HM2:=hide (((unhide HM).drewN _).call hm2)
          unfold cellsOf at hc1
          clear hm1 hm2 HE hc hf
          go_wp2
          go_ret
          exact ⟨rfl,_,(unhide HM2).store 4 _ { (Mk.enter s).1 with attrs:=l,state:=19 } rfl rfl rfl⟩
set_option maxHeartbeats 1000000 in
set_option maxRecDepth 100000 in
theorem readStartGap_any {w:World} {b:Nat} {s:St} {L:Lay} (h:RdL w b s L) (hB:Bd s) (hl2:Sl s) (x:Int) :
    Calls Tryz.prog 156 #[.pointer (some ⟨b,0,none⟩),.int .u8 x] w (Does w b s L (Mk.readStartGap s x)):=by
  have hc:=h.cell
  have hf:=h.frozen
  have hlt:=h.lt
  have HM:=hide h
  have HE:=hide (endAttributes_any h hB hl2 x)
  unfold cellsOf at hc
  clear h hB
  cases es:Mk.isSpace x
  · cases e1:(x == 47)
    · cases e2:(x == 62)
      · have hr:Mk.readStartGap s x=(s,3):=by simp [Mk.readStartGap,es,e1,e2]
        rw [hr]
        clear hr HE
        go_enter Tryz.func156,Tryz.ntmps156
        go_wp2_with (go_at_call 113;refine (isSpace_any _ _).mono ?_;rintro e w1 ⟨rfl,rfl⟩)
        go_ret
        exact ⟨rfl,L,(unhide HM).start⟩
      · have hr:Mk.readStartGap s x=Mk.endAttributes s x:=by simp [Mk.readStartGap,es,e1,e2]
        rw [hr]
        clear hr
        generalize Mk.endAttributes s x=z at *
        go_enter Tryz.func156,Tryz.ntmps156
        go_wp2_with (first | (go_at_call 113;refine (isSpace_any _ _).mono ?_;rintro e w1 ⟨rfl,rfl⟩) | (go_at_call 166;refine (unhide HE).mono ?_;rintro e w2 ⟨rfl,L2,hm2⟩;have HX:=hide hm2;clear hm2))
        go_ret
        exact ⟨rfl,L2,unhide HX⟩
    · have hr:Mk.readStartGap s x=Mk.endAttributes s x:=by simp [Mk.readStartGap,es,e1]
      rw [hr]
      clear hr
      generalize Mk.endAttributes s x=z at *
      go_enter Tryz.func156,Tryz.ntmps156
      go_wp2_with (first | (go_at_call 113;refine (isSpace_any _ _).mono ?_;rintro e w1 ⟨rfl,rfl⟩) | (go_at_call 166;refine (unhide HE).mono ?_;rintro e w2 ⟨rfl,L2,hm2⟩;have HX:=hide hm2;clear hm2))
      go_ret
      exact ⟨rfl,L2,unhide HX⟩
  · have hr:Mk.readStartGap s x=({ s with state:=13 },0):=by simp [Mk.readStartGap,es]
    rw [hr]
    clear hr HE
    go_enter Tryz.func156,Tryz.ntmps156
    go_wp2_with (go_at_call 113;refine (isSpace_any _ _).mono ?_;rintro e w1 ⟨rfl,rfl⟩)
    go_ret
    exact ⟨rfl,L,(unhide HM).start.store 4 _ _ rfl rfl rfl⟩
set_option maxHeartbeats 1000000 in
set_option maxRecDepth 100000 in
theorem endValue_any {w:World} {b:Nat} {s:St} {L:Lay} (h:RdL w b s L) (hB:Bd s) :
    Calls Tryz.prog 119 #[.pointer (some ⟨b,0,none⟩)] w fun e w' => e = .returned (.tuple #[])∧∃ L', Mv w b (foot s L) w' (Mk.endValue s) L' := by
  have HT:=hide (takeToken_any h)
  have HM:=hide h
  have HA:=hide hB.am
  have ha:=hB.ha
  obtain ⟨i0,hi,hz0,hz1,hz2⟩:=info_parts infoAt
  clear h hB
  go_enter Tryz.func119,Tryz.ntmps119
  go_wp2_with fail
  refine (unhide HT).mono ?_
  rintro e w1 ⟨rfl,L1,hm1⟩
  have hc:=hm1.rd.cell
  have hf:=hm1.rd.frozen
  have hlt1:=hm1.rd.lt
  have hm2:=(hm1.alloc (.cells #[.string ⟨s.attr.toArray⟩,.string ⟨#[]⟩,.string ⟨s.token.toArray⟩] 112)).drew
  have hrow:=hm2.rd.rows.own (attRow (Mk.dropToken s) L1) (by simp [rowsOf])
  have e1:attRow (Mk.dropToken s) L1=⟨112,3,.slice L1.aa s.attrs.length L1.ac,s.attrs.length,atsRow s.attrs⟩:=by simp [attRow,Mk.dropToken,unhide HA]
  rw [e1] at hrow
  have HO:=hide hrow
  have HB:=hide (show (w1.alloc (.cells #[.string ⟨s.attr.toArray⟩,.string ⟨#[]⟩,.string ⟨s.token.toArray⟩] 112)).drew.heap[w1.heap.size]? = _ from heap_alloc_new w1 _)
  have H63:=hide (show s.attrs.length + 1≤maxLen by unfold maxLen;omega)
  have HBB:=hide (show b - 1≤(w1.alloc (.cells #[.string ⟨s.attr.toArray⟩,.string ⟨#[]⟩,.string ⟨s.token.toArray⟩] 112)).drew.heap.size by simp;omega)
  have HM2:=hide hm2
  have HE1:=hide e1
  unfold cellsOf at hc
  clear hm1 hm2 hrow HT e1
  go_wp2
  go_region_law (refine step_append_lies _ rfl (.tmp 9) (.tmp 16) 51 rfl (b - 1) 112 i0 _ 3 48 Tryz.underlying51 hi hz0 hz1 hz2 rfl (by decide) (.slice L1.aa s.attrs.length L1.ac) s.attrs.length (atsRow s.attrs) (by simp [Act.eval,Mk.dropToken]) (unhide HO) ⟨w1.heap.size,0,none⟩ 1 1 (atCells ⟨s.attr,[],s.token⟩) (by simp [Act.eval]) rfl (World.news_of_block (unhide HB)) (atCells_one _) (by decide) (unhide H63) (by omega) (unhide HBB) (w1.heap.size + 1) (by simp) ?_;intro g cap w2 hown hgrow hat hlt2;obtain ⟨hr,hfr⟩:=cell_of_blk ((unhide HM2).rd.grown (r:=attRow (Mk.dropToken s) L1) (by rw [unhide HE1];exact hgrow) (by simp [rowsOf]));unfold cellsOf at hr)
  all_goals
    have HM3:=hide ((((unhide HM2).pushAttr (⟨s.attr,[],s.token⟩:Att) (unhide HA) hown hgrow (by simpa [Mk.dropToken] using hat)).store 12 (.string ⟨#[]⟩) { Mk.dropToken s with attrs:=s.attrs ++ [(⟨s.attr,[],s.token⟩:Att)],attr:=[] } rfl rfl rfl).store 4 (.int .i64 18) { Mk.dropToken s with attrs:=s.attrs ++ [(⟨s.attr,[],s.token⟩:Att)],attr:=[],state:=18 } rfl rfl rfl)
    clear hown hgrow
    go_wp2
    go_end0
    exact ⟨rfl,_,unhide HM3⟩
end Go.Proofs.YtmgfijllcdadgabGreatDoor
