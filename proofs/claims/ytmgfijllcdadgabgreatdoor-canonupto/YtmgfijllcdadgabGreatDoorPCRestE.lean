/- RestE, RestF, RestG, RestH, Again, Sticky -/
import Derived.Test.YtmgfijllcdadgabGreatDoorPCRestA
import Derived.Test.YtmgfijllcdadgabGreatDoorPCSplit
import Derived.SliceStrings
import Derived.Carry
import Derived.WideKeyArgs
set_option linter.unusedVariables false
set_option linter.unusedSimpArgs false
namespace Go.Proofs.YtmgfijllcdadgabGreatDoor
open Go.RowKit
open Mk (St Bs Ev Att)
theorem isStartTag_any (st:Int) (w:World):Calls Tryz.prog 80 #[.int .i64 st] w fun e w' => e = .returned (.bool (Mk.isStartTag st))∧w' = w:=by
  go_enter Tryz.func80,Tryz.ntmps80
  go_wp2
  all_goals (go_ret;exact ⟨retB (by rw [Bool.eq_iff_iff];unfold Mk.isStartTag;simp <;> try omega),rfl⟩)
theorem isEndTag_any (st:Int) (w:World):Calls Tryz.prog 79 #[.int .i64 st] w fun e w' => e = .returned (.bool (Mk.isEndTag st))∧w' = w:=by
  go_enter Tryz.func79,Tryz.ntmps79
  go_wp2
  all_goals (go_ret;exact ⟨retB (by rw [Bool.eq_iff_iff];unfold Mk.isEndTag;simp <;> try omega),rfl⟩)
set_option maxHeartbeats 1000000 in
theorem restOfStart_any {w:World} {b:Nat} {s:St} {L:Lay} (h:RdL w b s L) (hB:Bd s) (hq:0≤s.quote∧s.quote≤255) :
    Calls Tryz.prog 103 #[.pointer (some ⟨b,0,none⟩)] w fun e w' => e = .returned (.string ⟨(Mk.startRest s).toArray⟩)∧Below w.heap.size w w' := by
  have HA:=hide (restOfAttrName_any h hB.am (Nat.le_trans hB.ha (by decide)) hB.ht)
  have hal:(Mk.attrRest s).length≤1:=by unfold Mk.attrRest;split;exact free_len s 58 65;simp
  have hc:=h.cell
  have hlt:=h.lt
  unfold cellsOf at hc
  clear h hB
  by_cases h14:s.state=14
  · have hr:Mk.startRest s=Mk.attrRest s ++ [61,39,39,47,62]:=by unfold Mk.startRest;rw [if_pos h14]
    rw [hr]
    generalize Mk.attrRest s=z at *
    have happ:(⟨z.toArray⟩:ByteArray) ++ (⟨#[61,39,39,47,62]⟩:ByteArray)=⟨(z ++ [61,39,39,47,62]).toArray⟩:=by apply ByteArray.ext;simp
    generalize hz:z ++ [61,39,39,47,62]=zz at *
    clear hz hr
    rw [h14] at hc
    go_enter Tryz.func103,Tryz.ntmps103
    go_wp2_with (go_at_call 133;refine (unhide HA).mono ?_;rintro e w1 ⟨rfl,hb1⟩)
    go_ret
    exact ⟨rfl,hb1⟩
  · clear HA
    by_cases h15:s.state=15
    · have hr:Mk.startRest s=[61,39,39,47,62]:=by unfold Mk.startRest;rw [if_neg h14,if_pos h15]
      rw [hr]
      rw [h15] at hc
      go_enter Tryz.func103,Tryz.ntmps103
      go_wp2
      go_ret
      exact ⟨rfl,Below.refl _ _⟩
    · by_cases h16:s.state=16
      · have hr:Mk.startRest s=[39,39,47,62]:=by unfold Mk.startRest;rw [if_neg h14,if_neg h15,if_pos h16]
        rw [hr]
        rw [h16] at hc
        go_enter Tryz.func103,Tryz.ntmps103
        go_wp2
        go_ret
        exact ⟨rfl,Below.refl _ _⟩
      · by_cases h17:s.state=17
        · have hr:Mk.startRest s=[Mk.u8 s.quote,47,62]:=by unfold Mk.startRest;rw [if_neg h14,if_neg h15,if_neg h16,if_pos h17]
          rw [hr]
          rw [h17] at hc
          have hcv:=conv_one s.quote hq.1 hq.2 w.heap.size (w.alloc (.cells #[.int .u8 s.quote] 5)) (by simp [go_sem])
          have hbz:Below w.heap.size w (w.alloc (.cells #[.int .u8 s.quote] 5)):=(Below.refl _ _).alloc (Nat.le_refl _) _
          generalize Mk.u8 s.quote=y at *
          have happ:(⟨#[y]⟩:ByteArray) ++ (⟨#[47,62]⟩:ByteArray)=⟨[y,47,62].toArray⟩:=by apply ByteArray.ext;simp
          have HBZ:=hide hbz
          clear hbz hr
          go_enter Tryz.func103,Tryz.ntmps103
          go_wp2
          go_ret
          exact ⟨rfl,unhide HBZ⟩
        · by_cases h19:s.state=19
          · have hr:Mk.startRest s=[62]:=by unfold Mk.startRest;rw [if_neg h14,if_neg h15,if_neg h16,if_neg h17,if_pos h19]
            rw [hr]
            rw [h19] at hc
            go_enter Tryz.func103,Tryz.ntmps103
            go_wp2
            go_ret
            exact ⟨rfl,Below.refl _ _⟩
          · have hr:Mk.startRest s=[47,62]:=by unfold Mk.startRest;rw [if_neg h14,if_neg h15,if_neg h16,if_neg h17,if_neg h19]
            rw [hr]
            have e1:(s.state == 14)=false:=by simpa using h14
            have e2:(s.state == 15)=false:=by simpa using h15
            have e3:(s.state == 16)=false:=by simpa using h16
            have e4:(s.state == 17)=false:=by simpa using h17
            have e5:(s.state == 19)=false:=by simpa using h19
            clear hr
            go_enter Tryz.func103,Tryz.ntmps103
            go_wp2
            go_ret
            exact ⟨rfl,Below.refl _ _⟩
set_option maxHeartbeats 1000000 in
theorem restOfInstruction_any {w:World} {b:Nat} {s:St} {L:Lay} (h:RdL w b s L) (hB:Bd s) :
    Calls Tryz.prog 104 #[.pointer (some ⟨b,0,none⟩)] w fun e w' => e = .returned (.string ⟨(Mk.instrRest s).toArray⟩)∧Below w.heap.size w w' := by
  have HX:=hide (isXML_any (h.rows.own (tokRow s L) (by simp [rowsOf])))
  have hh:=hB.hh
  have HBh:=hide (fun w=>behind_any [63,62] s.held.length (by decide) (by omega) (by omega) w)
  have hc:=h.cell
  have hlt:=h.lt
  have HH:=hide h
  unfold cellsOf at hc
  clear h hB
  have fin:∀ n,Below w.heap.size w (w.drewN n):=fun n=>⟨rfl,rfl,rfl,Nat.le_of_eq (by rw [heap_drewN]),fun _ _=>by rw [heap_drewN]⟩
  by_cases h8:s.state=8
  · rw [h8] at hc
    by_cases h0:s.count=0
    · have hr:Mk.instrRest s=[97,63,62]:=by unfold Mk.instrRest;rw [if_pos ⟨h8,.inl h0⟩]
      rw [hr]
      rw [h0] at hc
      clear hr
      go_enter Tryz.func104,Tryz.ntmps104
      go_wp2
      go_ret
      exact ⟨rfl,Below.refl _ _⟩
    · have e0:(s.count == 0)=false:=by simpa using h0
      cases hx:Mk.isXML s.token
      · have hr:Mk.instrRest s=Mk.behind [63,62] s.held.length:=by
          unfold Mk.instrRest
          rw [if_neg (by rintro ⟨-,g | g⟩;exact h0 g;rw [hx] at g;cases g),if_neg (by omega)]
        rw [hr]
        rw [hx] at HX
        generalize Mk.behind [63,62] s.held.length=z at *
        clear hr
        go_enter Tryz.func104,Tryz.ntmps104
        go_wp2_with first | (go_at_call 134;refine (unhide HX).mono ?_;rintro e w1 ⟨rfl,rfl⟩) | (go_at_call 101;refine (unhide HBh _).mono ?_;rintro e w1 ⟨rfl,rfl⟩)
        go_ret
        exact ⟨rfl,Below.refl _ _⟩
      · have hr:Mk.instrRest s=[97,63,62]:=by unfold Mk.instrRest;rw [if_pos ⟨h8,.inr hx⟩]
        rw [hr]
        rw [hx] at HX
        clear hr
        go_enter Tryz.func104,Tryz.ntmps104
        go_wp2_with (go_at_call 134;refine (unhide HX).mono ?_;rintro e w1 ⟨rfl,rfl⟩)
        go_ret
        exact ⟨rfl,Below.refl _ _⟩
  · by_cases h9:s.state=9
    · have hr:Mk.instrRest s=[62]:=by unfold Mk.instrRest;rw [if_neg (fun g=>h8 g.1),if_pos h9]
      rw [hr]
      rw [h9] at hc
      clear hr
      go_enter Tryz.func104,Tryz.ntmps104
      go_wp2
      go_ret
      exact ⟨rfl,Below.refl _ _⟩
    · have hr:Mk.instrRest s=Mk.behind [63,62] s.held.length:=by unfold Mk.instrRest;rw [if_neg (fun g=>h8 g.1),if_neg h9]
      rw [hr]
      have e1:(s.state == 8)=false:=by simpa using h8
      have e2:(s.state == 9)=false:=by simpa using h9
      generalize Mk.behind [63,62] s.held.length=z at *
      clear hr
      go_enter Tryz.func104,Tryz.ntmps104
      go_wp2_with (go_at_call 101;refine (unhide HBh _).mono ?_;rintro e w1 ⟨rfl,rfl⟩)
      go_ret
      exact ⟨rfl,Below.refl _ _⟩
set_option maxHeartbeats 2000000 in
theorem restOfMark_any {w:World} {b:Nat} {s:St} {L:Lay} (h:RdL w b s L) (hB:Bd s) (hq:0≤s.quote∧s.quote≤255) (hil:(Mk.innermost s).length≤100000000) :
    Calls Tryz.prog 78 #[.pointer (some ⟨b,0,none⟩)] w fun e w' => e = .returned (.string ⟨(Mk.markRest s).toArray⟩)∧Below w.heap.size w w' := by
  have hh:=hB.hh
  have hm0:=hB.m0
  have hm1:=hB.m1
  have HS:=hide (restOfStart_any h hB hq)
  have HN:=hide (restOfInstruction_any h hB)
  have HI:=hide (fun n=>innermost_any (h.drewN n) hB.ho)
  have HB7:=hide (fun w=>behind_any [45,45,62] s.held.length (by decide) (by omega) (by omega) w)
  have HB2:=hide (fun w=>behind_any [93,93,62] s.held.length (by decide) (by omega) (by omega) w)
  have HB6:=hide (fun w=>behind_any Mk.cdata s.matched (by decide) (by omega) (by omega) w)
  have HB20:=hide (fun w=>behind_any (Mk.innermost s) s.matched hil (by omega) (by omega) w)
  have hl6:=behind_len Mk.cdata s.matched
  have hl20:=behind_len (Mk.innermost s) s.matched
  have hc:=h.cell
  have hlt:=h.lt
  unfold cellsOf at hc
  clear h hB
  by_cases h0:s.state=0
  · have hr:Mk.markRest s=[]:=by unfold Mk.markRest;rw [if_pos (by omega)]
    rw [hr]
    rw [h0] at hc
    clear hr
    go_enter Tryz.func78,Tryz.ntmps78
    go_wp2
    go_ret
    exact ⟨rfl,Below.refl _ _⟩
  · have e0:(s.state == 0)=false:=by simpa using h0
    by_cases h1:s.state=1
    · have hr:Mk.markRest s=[]:=by unfold Mk.markRest;rw [if_pos (by omega)]
      rw [hr]
      rw [h1] at hc
      clear hr
      go_enter Tryz.func78,Tryz.ntmps78
      go_wp2
      go_ret
      exact ⟨rfl,Below.refl _ _⟩
    · have e1:(s.state == 1)=false:=by simpa using h1
      by_cases h3:s.state=3
      · have hr:Mk.markRest s=[33,45,45,45,45,62]:=by unfold Mk.markRest;rw [if_neg (by omega),if_pos h3]
        rw [hr]
        rw [h3] at hc
        clear hr
        go_enter Tryz.func78,Tryz.ntmps78
        go_wp2
        go_ret
        exact ⟨rfl,Below.refl _ _⟩
      · have e3:(s.state == 3)=false:=by simpa using h3
        by_cases h4:s.state=4
        · have hr:Mk.markRest s=[45,45,45,45,62]:=by unfold Mk.markRest;rw [if_neg (by omega),if_neg (by omega),if_pos h4]
          rw [hr]
          rw [h4] at hc
          clear hr
          go_enter Tryz.func78,Tryz.ntmps78
          go_wp2
          go_ret
          exact ⟨rfl,Below.refl _ _⟩
        · have e4:(s.state == 4)=false:=by simpa using h4
          by_cases h5:s.state=5
          · have hr:Mk.markRest s=[45,45,45,62]:=by unfold Mk.markRest;rw [if_neg (by omega),if_neg (by omega),if_neg (by omega),if_pos h5]
            rw [hr]
            rw [h5] at hc
            clear hr
            go_enter Tryz.func78,Tryz.ntmps78
            go_wp2
            go_ret
            exact ⟨rfl,Below.refl _ _⟩
          · have e5:(s.state == 5)=false:=by simpa using h5
            by_cases h7:s.state=7
            · have hr:Mk.markRest s=Mk.behind [45,45,62] s.held.length:=by unfold Mk.markRest;rw [if_neg (by omega),if_neg (by omega),if_neg (by omega),if_neg (by omega),if_pos h7]
              rw [hr]
              rw [h7] at hc
              generalize Mk.behind [45,45,62] s.held.length=z at *
              clear hr
              go_enter Tryz.func78,Tryz.ntmps78
              go_wp2_with (go_at_call 101;refine (unhide HB7 _).mono ?_;rintro e w1 ⟨rfl,rfl⟩)
              go_ret
              exact ⟨rfl,Below.refl _ _⟩
            · have e7:(s.state == 7)=false:=by simpa using h7
              by_cases h6:s.state=6
              · have hr:Mk.markRest s=Mk.behind Mk.cdata s.matched ++ [93,93,62]:=by unfold Mk.markRest;rw [if_neg (by omega),if_neg (by omega),if_neg (by omega),if_neg (by omega),if_neg (by omega),if_pos h6]
                rw [hr]
                rw [h6] at hc
                have hcl:Mk.cdata.length=6:=rfl
                generalize Mk.behind Mk.cdata s.matched=z at *
                have happ:(⟨z.toArray⟩:ByteArray) ++ (⟨#[93,93,62]⟩:ByteArray)=⟨(z ++ [93,93,62]).toArray⟩:=by apply ByteArray.ext;simp
                generalize hz:z ++ [93,93,62]=zz at *
                clear hz hr
                have HB6:Hid (∀ w,Calls Tryz.prog 101 #[.string ⟨#[67,68,65,84,65,91]⟩,.int .i64 s.matched] w fun e w' => e = .returned (.string ⟨z.toArray⟩)∧w' = w):=unhide HB6
                go_enter Tryz.func78,Tryz.ntmps78
                go_wp2_with (go_at_call 101;refine (unhide HB6 _).mono ?_;rintro e w1 ⟨rfl,rfl⟩)
                go_ret
                exact ⟨rfl,Below.refl _ _⟩
              · have e6:(s.state == 6)=false:=by simpa using h6
                by_cases h2:s.state=2
                · have hr:Mk.markRest s=Mk.behind [93,93,62] s.held.length:=by unfold Mk.markRest;rw [if_neg (by omega),if_neg (by omega),if_neg (by omega),if_neg (by omega),if_neg (by omega),if_neg (by omega),if_pos h2]
                  rw [hr]
                  rw [h2] at hc
                  generalize Mk.behind [93,93,62] s.held.length=z at *
                  clear hr
                  go_enter Tryz.func78,Tryz.ntmps78
                  go_wp2_with (go_at_call 101;refine (unhide HB2 _).mono ?_;rintro e w1 ⟨rfl,rfl⟩)
                  go_ret
                  exact ⟨rfl,Below.refl _ _⟩
                · have e2:(s.state == 2)=false:=by simpa using h2
                  by_cases h20:s.state=20
                  · have hr:Mk.markRest s=Mk.behind (Mk.innermost s) s.matched ++ [62]:=by unfold Mk.markRest;rw [if_neg (by omega),if_neg (by omega),if_neg (by omega),if_neg (by omega),if_neg (by omega),if_neg (by omega),if_neg (by omega),if_pos h20]
                    rw [hr]
                    rw [h20] at hc
                    generalize Mk.behind (Mk.innermost s) s.matched=z at *
                    generalize Mk.innermost s=im at *
                    have happ:(⟨z.toArray⟩:ByteArray) ++ (⟨#[62]⟩:ByteArray)=⟨(z ++ [62]).toArray⟩:=by apply ByteArray.ext;simp
                    generalize hz:z ++ [62]=zz at *
                    clear hz hr
                    go_enter Tryz.func78,Tryz.ntmps78
                    go_wp2_with fail
                    go_region_with first | (go_at_call 102;refine (unhide HI _).mono ?_;rintro e w1 ⟨rfl,n,rfl⟩) | (go_at_call 101;refine (unhide HB20 _).mono ?_;rintro e w1 ⟨rfl,rfl⟩)
                    all_goals
                      go_wp2
                      go_ret
                      exact ⟨rfl,⟨rfl,rfl,rfl,Nat.le_refl _,fun _ _=>rfl⟩⟩
                  · have e20:(s.state == 20)=false:=by simpa using h20
                    by_cases h21:s.state=21
                    · have hr:Mk.markRest s=[62]:=by unfold Mk.markRest;rw [if_neg (by omega),if_neg (by omega),if_neg (by omega),if_neg (by omega),if_neg (by omega),if_neg (by omega),if_neg (by omega),if_neg (by omega),if_pos h21]
                      rw [hr]
                      rw [h21] at hc
                      clear hr
                      go_enter Tryz.func78,Tryz.ntmps78
                      go_wp2
                      go_ret
                      exact ⟨rfl,Below.refl _ _⟩
                    · have e21:(s.state == 21)=false:=by simpa using h21
                      have hr0:Mk.markRest s=if Mk.isStartTag s.state then Mk.startRest s else Mk.instrRest s:=by unfold Mk.markRest;rw [if_neg (by omega),if_neg (by omega),if_neg (by omega),if_neg (by omega),if_neg (by omega),if_neg (by omega),if_neg (by omega),if_neg (by omega),if_neg (by omega)]
                      rw [hr0]
                      cases e:Mk.isStartTag s.state
                      · have HT:=hide (fun w=>isStartTag_any s.state w)
                        rw [e] at HT
                        simp only [Bool.false_eq_true,if_false]
                        generalize Mk.instrRest s=z at *
                        clear hr0
                        go_enter Tryz.func78,Tryz.ntmps78
                        go_wp2_with first | (go_at_call 80;refine (unhide HT _).mono ?_;rintro e w1 ⟨rfl,rfl⟩) | (go_at_call 104;refine (unhide HN).mono ?_;rintro e w1 ⟨rfl,hb1⟩)
                        go_ret
                        exact ⟨rfl,hb1⟩
                      · have HT:=hide (fun w=>isStartTag_any s.state w)
                        rw [e] at HT
                        simp only [if_true]
                        generalize Mk.startRest s=z at *
                        clear hr0
                        go_enter Tryz.func78,Tryz.ntmps78
                        go_wp2_with first | (go_at_call 80;refine (unhide HT _).mono ?_;rintro e w1 ⟨rfl,rfl⟩) | (go_at_call 103;refine (unhide HS).mono ?_;rintro e w1 ⟨rfl,hb1⟩)
                        go_ret
                        exact ⟨rfl,hb1⟩
theorem strCells_bv (l:Bs):Lib.strCells ⟨l.toArray⟩=l.map bv:=by unfold Lib.strCells bv;simp
structure RwI (w wx:World) (v:Value) (l:Bs):Prop where
  bel:Below w.heap.size w wx
  row:wx.ownsRow w.heap.size 5 1 v l.length (l.map bv)
theorem RwI.below {w wx wy:World} {v:Value} {l:Bs} (h:RwI w wx v l) (hb:Below wx.heap.size wx wy):RwI w wy v l:=
  ⟨h.bel.trans (hb.mono h.bel.size),owned_keep (r:=⟨5,1,v,l.length,l.map bv⟩) h.row fun k hk=>hb.block k (h.row.lt k hk).2⟩
theorem RwI.grow {w wx wy:World} {v v' : Value} {l m:Bs} (h:RwI w wx v l) (ho:wy.ownsRow w.heap.size 5 1 v' (l.length + m.length) (l.map bv ++ m.map bv)) (hg:wx.grownBy wy v.ownBlock):RwI w wy v' (l ++ m):=by
  refine ⟨h.bel.trans ⟨hg.os,hg.tape,hg.output,hg.size,fun k hk=>hg.block k (Nat.lt_of_lt_of_le hk h.bel.size) fun e => ?_⟩,by simpa using ho⟩
  have:=(h.row.lt k e.symm).1
  omega
theorem RwI.slice {w wx:World} {v:Value} {l:Bs} (h:RwI w wx v l):∃ a c,v = .slice a l.length c:=slice_form h.row
theorem opn_at {w:World} {b:Nat} {s:St} {L:Lay} (h:RdL w b s L) (k:Nat) (hk:k<s.opn.length):∃ g,L.oa=some ⟨g,0,none⟩∧g<w.heap.size∧w.cell? ⟨g,k,none⟩=some (.string ⟨(s.opn[k]).toArray⟩):=by
  have hrow:w.ownsRow (b - 1) 9 1 (.slice L.oa s.opn.length L.oc) s.opn.length (s.opn.flatMap fun n=>[sv n]):=by
    have:=h.rows.own (opnRow s L) (by simp [rowsOf])
    have e:(s.opn.flatMap fun n=>[sv n])=s.opn.map sv:=by rw [List.map_eq_flatMap]
    rw [e];exact this
  obtain ⟨g,hg,hgl,hcl⟩:=spElem (m:=1) (l:=s.opn) (fun n=>[sv n]) (fun _=>rfl) (by decide) hrow k hk
  refine ⟨g,hg,hgl,?_⟩
  have:=hcl 0 (by decide)
  simpa [sv] using this
set_option maxHeartbeats 4000000 in
set_option maxRecDepth 100000 in
theorem Rest_any {w:World} {b:Nat} {s:St} {L:Lay} (h:RdL w b s L) (hW:W s) (hB:Bd s) (hq:0≤s.quote∧s.quote≤255) (hil:∀ n ∈ s.opn,n.length≤100000000) (hG:Gl w) (hs:6<w.heap.size) (hrl:(Mk.rest s).length≤1000000000000) :
    Calls Tryz.prog 60 #[.pointer (some ⟨b,0,none⟩)] w fun e w' => ∃ v,e = .returned v∧RwI w w' v (Mk.rest s):=by
  have hpt:s.pl=0∨PtW s.pc s.pl:=by
    by_cases hp:0<s.pl
    · exact .inr (hW.pl hp).2.2.1
    · exact .inl (by have:=hW.p0;omega)
  have hinn:(Mk.innermost s).length≤100000000:=by
    unfold Mk.innermost
    rw [List.getLastD_eq_getLast?]
    cases hl:s.opn.getLast? with
    | none=>simp
    | some n=>exact hil n (List.mem_of_getLast? hl)
  have HP:=hide (fun n=>partRest_any s.pc s.pl hpt (w.drewN n))
  have hc:=h.cell
  have hlt:=h.lt
  obtain ⟨i0,hi,hz0,hz1,hz2⟩:=info_parts infoU8
  have HH:=hide h
  have HG:=hide hG
  have HRM:=hide (fun w' (hb:Below w.heap.size w w')=>restOfMark_any (rd_below h hb) hB hq hinn)
  have HRR:=hide (fun w' (hb:Below w.heap.size w w')=>refRest_any s.rp s.rn s.rc (Nat.le_trans hB.rn (by decide)) hB.r0 hB.r1 w' (hG.below hs hb) (Nat.lt_of_lt_of_le hs hb.size))
  have hcw:∀ w', Below w.heap.size w w' → (∀ i,w'.cell? ⟨b,i,none⟩=(cellsOf s L)[i]?):=fun w' hb=>(rd_below h hb).cell
  have HCW:=hide hcw
  have HOA:=hide (fun w' (hb:Below w.heap.size w w') k hk=>opn_at (rd_below h hb) k hk)
  have HIL:=hide hil
  have hol:=hB.ho
  have hrest:Mk.rest s=Mk.partRest s.pc s.pl ++ Mk.refRest s.rp s.rn s.rc ++ Mk.markRest s ++ Mk.endTags (Mk.leftOpen s) ++ (if s.opn=[]∧s.over=false∧Mk.isStartTag s.state=false then [60,97,47,62] else []):=rfl
  have hlen:(Mk.partRest s.pc s.pl).length + (Mk.refRest s.rp s.rn s.rc).length + (Mk.markRest s).length≤1000000000000:=by
    rw [hrest] at hrl
    simp only [List.length_append] at hrl
    omega
  obtain ⟨FIN,hF⟩:∃ FIN,FIN=Mk.rest s:=⟨_,rfl⟩
  rw [← hF] at hrest hrl ⊢
  obtain ⟨K,hK1,hK2,hK3⟩:∃ K:Nat,K≤s.opn.length∧Mk.leftOpen s=(s.opn.take K).reverse∧((Mk.isEndTag s.state=true∧(s.opn.length:Int) - 1 - 1=(K:Int) - 1)∨(Mk.isEndTag s.state=false∧(s.opn.length:Int) - 1=(K:Int) - 1)):=by
    cases he:Mk.isEndTag s.state
    · exact ⟨s.opn.length,Nat.le_refl _,by unfold Mk.leftOpen;rw [he,List.take_length];rfl,.inr ⟨rfl,rfl⟩⟩
    · have hst:s.state=20∨s.state=21:=by unfold Mk.isEndTag at he;simpa using he
      have hne:=hW.o1 (by omega)
      have hpos:0<s.opn.length:=List.length_pos_iff.2 hne
      exact ⟨s.opn.length - 1,by omega,by unfold Mk.leftOpen;rw [he,List.dropLast_eq_take];rfl,.inl ⟨rfl,by omega⟩⟩
  rw [hK2] at hrest
  have HFN:=hide hrest
  have HST:=hide (fun w=>isStartTag_any s.state w)
  have HET:=hide (fun w=>isEndTag_any s.state w)
  generalize Mk.partRest s.pc s.pl=pr at *
  generalize Mk.refRest s.rp s.rn s.rc=rr at *
  generalize Mk.markRest s=mr at *
  unfold cellsOf at hc
  clear h hG hcw hrest hF hil hinn hpt
  go_enter Tryz.func60,Tryz.ntmps60
  go_wp2_with fail
  refine (unhide HP 0).mono ?_
  rintro e w1 ⟨a1,c1,rfl,hown1,hb1⟩
  have R1:RwI w w1 (.slice a1 pr.length c1) pr:=⟨hb1,hown1⟩
  have hc1:=unhide HCW w1 R1.bel
  unfold cellsOf at hc1
  have HR1:=hide R1
  clear hown1 hb1 hc R1 HP
  go_wp2_with fail
  refine (unhide HRR w1 (unhide HR1).bel).mono ?_
  rintro e w2 ⟨rfl,hb2⟩
  have HR2:=hide ((unhide HR1).below hb2)
  clear hb2 HR1 HRR hc1
  go_wp2_with (at_builtin;refine Lib.wpList_append_own_string _ rfl (.tmp 11) (.tmp 16) 54 9 rfl w.heap.size 5 i0 Tryz.underlying54 Tryz.underlying9 hi hz0 hz1 hz2 (.slice a1 pr.length c1) pr.length (pr.map bv) rfl (unhide HR2).row ⟨rr.toArray⟩ rfl (by show pr.length + rr.length≤_;unfold maxLen;omega) (by show pr.length + rr.length≤_;omega) (unhide HR2).bel.size ?_;intro v3 w3 ho3 hg3 _;rw [strCells_bv] at ho3;have HR3:=hide ((unhide HR2).grow (m:=rr) ho3 hg3);obtain ⟨l2,hl2⟩:∃ l2,pr ++ rr=l2:=⟨_,rfl⟩;rw [hl2] at HR3;obtain ⟨a3,c3,rfl⟩:=(unhide HR3).slice;have hn2:l2.length≤1000000000000 - mr.length:=(by rw [← hl2];simp;omega);have HL2:=hide hl2;clear ho3 hg3 hl2)
  clear HR2
  refine (unhide HRM w3 (unhide HR3).bel).mono ?_
  rintro e w4 ⟨rfl,hb4⟩
  have HR4:=hide ((unhide HR3).below hb4)
  clear hb4 HR3 HRM
  go_wp2_with (at_builtin;refine Lib.wpList_append_own_string _ rfl (.tmp 18) (.tmp 20) 54 9 rfl w.heap.size 5 i0 Tryz.underlying54 Tryz.underlying9 hi hz0 hz1 hz2 (.slice a3 l2.length c3) l2.length (l2.map bv) rfl (unhide HR4).row ⟨mr.toArray⟩ rfl (by show l2.length + mr.length≤_;unfold maxLen;omega) (by show l2.length + mr.length≤_;omega) (unhide HR4).bel.size ?_;intro v5 w5 ho5 hg5 _;rw [strCells_bv] at ho5;have HR5:=hide ((unhide HR4).grow (m:=mr) ho5 hg5);obtain ⟨l3,hl3⟩:∃ l3,l2 ++ mr=l3:=⟨_,rfl⟩;rw [hl3] at HR5;obtain ⟨a5,c5,rfl⟩:=(unhide HR5).slice;have HL3:=hide hl3;clear hl3;have hc5:=unhide HCW w5 (unhide HR5).bel;unfold cellsOf at hc5;clear ho5 hg5)
  clear HR4
  generalize hC:(if s.opn=[]∧s.over=false∧Mk.isStartTag s.state=false then ([60,97,47,62]:Bs) else [])=C at *
  have hCl:C.length≤4:=by rw [← hC];split <;> simp
  have HC:=hide hC
  have HQ0:Hid (RwI w w5 (.slice a5 l3.length c5) l3∧FIN=l3 ++ Mk.endTags (s.opn.take K).reverse ++ C):=⟨unhide HR5,by rw [unhide HFN,unhide HL2,unhide HL3]⟩
  clear hC HR5 HFN HL2 HL3
  refine (unhide HET _).mono ?_
  rintro e w6 ⟨rfl,hw⟩
  obtain rfl:=hw.symm
  clear HET
  rcases hK3 with ⟨he,hk⟩ | ⟨he,hk⟩
  all_goals
    rw [he]
    go_wp2_with fail
    have HKK:=hide hk
    clear hk
    go_loopg [3,5] K (fun g s3 s5 wx=>∃ (wy:World) (a:Option Addr) (c:Nat) (l:Bs) (k:Nat),wy=wx∧g=k∧k≤s.opn.length∧s3 = .slice a l.length c∧s5 = .int .i64 ((k:Int) - 1)∧Hid (RwI w wy (.slice a l.length c) l∧FIN=l ++ Mk.endTags (s.opn.take k).reverse ++ C))
    case atStart=>exact ⟨_,a5,c5,l3,K,rfl,rfl,hK1,rfl,by have:=unhide HKK;first | rfl | (congr 1) | (congr 1;omega),HQ0⟩
    case round =>
      obtain ⟨wy,a,c,l,k,hwy,hgk,hkl,rfl,rfl,HQ⟩:=hrel
      obtain rfl:=hgk.symm
      subst hwy
      clear HQ0
      have hlw:=(unhide HQ).1.bel.size
      have hcy:=unhide HCW wy (unhide HQ).1.bel
      unfold cellsOf at hcy
      by_cases h0:0<k
      · obtain ⟨j,rfl⟩:∃ j,k=j + 1:=⟨k - 1,by omega⟩
        have hj:j<s.opn.length:=by omega
        have hjj:((j + 1:Nat):Int) - 1=(j:Int):=by omega
        rw [hjj]
        obtain ⟨g,hg,hgl,hcell⟩:=unhide HOA wy (unhide HQ).1.bel j hj
        have hnl:=unhide HIL s.opn[j] (List.getElem_mem hj)
        have hfin:=(unhide HQ).2
        rw [spTakeS s.opn j hj,List.reverse_append,List.reverse_singleton,List.singleton_append] at hfin
        generalize s.opn[j]=nm at *
        unfold Mk.endTags at hfin
        have hfl:l.length + nm.length + 3≤1000000000000:=by rw [hfin] at hrl;simp at hrl;omega
        rw [hg] at hcy
        clear hg
        obtain ⟨z1,hz1'⟩:∃ z1:Bs,[60,47] ++ nm=z1:=⟨_,rfl⟩
        obtain ⟨z2,hz2'⟩:∃ z2:Bs,z1 ++ [62]=z2:=⟨_,rfl⟩
        have ha1:(⟨#[60,47]⟩:ByteArray) ++ (⟨nm.toArray⟩:ByteArray)=⟨z1.toArray⟩:=by rw [← hz1'];apply ByteArray.ext;simp
        have ha2:(⟨z1.toArray⟩:ByteArray) ++ (⟨#[62]⟩:ByteArray)=⟨z2.toArray⟩:=by rw [← hz2'];apply ByteArray.ext;simp
        have hzl1:z1.length=nm.length + 2:=by rw [← hz1'];simp <;> omega
        have hzl2:z2.length=nm.length + 3:=by rw [← hz2'];simp <;> omega
        have hfin2:FIN=(l ++ z2) ++ Mk.endTags (s.opn.take j).reverse ++ C:=by rw [hfin, ← hz2', ← hz1'];simp
        have HF2:=hide hfin2
        have e1:decide (0≤(j:Int))=true:=by simp
        have e3:(j:Int)<(s.opn.length:Int):=by omega
        clear hfin hfin2 hz1' hz2'
        go_wp2_with (at_builtin;refine Lib.wpList_append_own_string _ rfl (.tmp 40) (.tmp 49) 54 9 rfl w.heap.size 5 i0 Tryz.underlying54 Tryz.underlying9 hi hz0 hz1 hz2 (.slice a l.length c) l.length (l.map bv) rfl (unhide HQ).1.row ⟨z2.toArray⟩ rfl (by show l.length + z2.length≤_;unfold maxLen;omega) (by show l.length + z2.length≤_;omega) hlw ?_;intro v7 w7 ho7 hg7 _;rw [strCells_bv] at ho7;have HR7:=hide ((unhide HQ).1.grow (m:=z2) ho7 hg7);obtain ⟨l4,hl4⟩:∃ l4,l ++ z2=l4:=⟨_,rfl⟩;rw [hl4] at HR7 HF2;obtain ⟨a7,c7,rfl⟩:=(unhide HR7).slice;clear ho7 hg7 hl4)
        go_roundg j
        case measure=>omega
        case rel=>exact ⟨_,a7,c7,l4,j,rfl,rfl,by omega,rfl,rfl,⟨unhide HR7,unhide HF2⟩⟩
      · obtain rfl:k=0:=by omega
        have hfin:FIN=l ++ C:=by have:=(unhide HQ).2;simpa [Mk.endTags] using this
        have HF2:=hide hfin
        clear hfin
        have e1:decide (0≤((0:Nat):Int) - 1)=false:=by decide
        have e1' : decide ((0:Int) ≤ -1)=false:=by decide
        by_cases hon:s.opn=[]
        · have hol0:s.opn.length=0:=by rw [hon];rfl
          rw [hol0] at hcy
          cases hov:s.over
          · rw [hov] at hcy
            cases hss:Mk.isStartTag s.state
            · rw [hss] at HST
              have hCC:C=[60,97,47,62]:=by rw [← unhide HC,if_pos ⟨hon,hov,hss⟩]
              subst hCC
              have hfl:l.length + 4≤1000000000000:=by rw [unhide HF2] at hrl;simpa using hrl
              go_wp2_with first | (go_at_call 80;refine (unhide HST _).mono ?_;rintro e w8 ⟨rfl,rfl⟩) | (at_builtin;refine Lib.wpList_append_own_string _ rfl (.tmp 72) (.const (.string ⟨#[60,97,47,62]⟩)) 54 9 rfl w.heap.size 5 i0 Tryz.underlying54 Tryz.underlying9 hi hz0 hz1 hz2 (.slice a l.length c) l.length (l.map bv) rfl (unhide HQ).1.row ⟨#[60,97,47,62]⟩ rfl (by show l.length + 4≤_;unfold maxLen;omega) (by show l.length + 4≤_;omega) hlw ?_;intro v7 w7 ho7 hg7 _;rw [strCells_bv [60,97,47,62]] at ho7;have HR7:=hide ((unhide HQ).1.grow (m:=[60,97,47,62]) ho7 hg7);clear ho7 hg7)
              go_ret
              rw [unhide HF2]
              exact ⟨_,rfl,unhide HR7⟩
            · rw [hss] at HST
              have hCC:C=[]:=by rw [← unhide HC,if_neg (by rw [hss];simp)]
              subst hCC
              go_wp2_with (go_at_call 80;refine (unhide HST _).mono ?_;rintro e w8 ⟨rfl,rfl⟩)
              go_ret
              rw [unhide HF2,List.append_nil]
              exact ⟨_,rfl,(unhide HQ).1⟩
          · rw [hov] at hcy
            have hCC:C=[]:=by rw [← unhide HC,if_neg (by rw [hov];simp)]
            subst hCC
            go_wp2
            go_ret
            rw [unhide HF2,List.append_nil]
            exact ⟨_,rfl,(unhide HQ).1⟩
        · have hol1:0<s.opn.length:=List.length_pos_iff.2 hon
          have e2:((s.opn.length:Int) == 0)=false:=by simp;omega
          have hCC:C=[]:=by rw [← unhide HC,if_neg (fun g=>hon g.1)]
          subst hCC
          go_wp2
          go_ret
          rw [unhide HF2,List.append_nil]
          exact ⟨_,rfl,(unhide HQ).1⟩
theorem tagsLen_le {m:Nat}:∀ (l:List Bs),(∀ n ∈ l,n.length≤m)→tagsLen l≤l.length * (m + 3)
  | [],_=>Nat.zero_le _
  | n :: r,h=>by
    have h1:=tagsLen_le r fun x hx=>h x (List.mem_cons_of_mem _ hx)
    have h2:=h n List.mem_cons_self
    simp only [tagsLen,List.length_cons,Nat.add_mul,Nat.one_mul]
    omega
theorem rest_short {s:St} (h:W s) (hd:s.od≤64) (ht:s.ot≤1024):(Mk.rest s).length≤70000∧(∀ n ∈ s.opn,n.length≤1024):=by
  have hn:∀ n ∈ s.opn,n.length≤1024:=fun n hm=>by have:=(h.on1 n hm).2;omega
  have h1:=rest_len h
  have h2:=tagsLen_le s.opn hn
  have h3:=h.dp
  have h4:s.opn.length≤64:=by omega
  have h5:=Nat.mul_le_mul_right (1024 + 3) h4
  exact ⟨by omega,hn⟩
theorem pRest_any {w:World} {b:Nat} {s:St} {L:Lay} (h:RdL w b s L) (e1:s.ended=0) (hW:W s) (hB:Bd s) (hd:s.od≤64) (ht:s.ot≤1024) (hG:Gl w) (hs:6<w.heap.size) :
    Calls Tryz.prog 34 #[.pointer (some ⟨b,0,none⟩)] w fun e w' => ∃ a c,e = .returned (.slice a (Mk.rest s).length c)∧RwI w w' (.slice a (Mk.rest s).length c) (Mk.rest s):=by
  have hsh:=rest_short hW hd ht
  have HR:=hide (Rest_any h hW hB hW.q0 (fun n hm=>Nat.le_trans (hsh.2 n hm) (by decide)) hG hs (by have:=hsh.1;omega))
  have hc:=h.cell
  have hlt:=h.lt
  have e2:(s.ended != 0)=false:=by simpa using e1
  generalize Mk.rest s=z at *
  unfold cellsOf at hc
  clear h e1 hsh
  go_enter Tryz.func34,Tryz.ntmps34
  go_wp2_with fail
  refine (unhide HR).mono ?_
  rintro e w1 ⟨v,rfl,hR⟩
  obtain ⟨a,c,rfl⟩:=hR.slice
  have HX:=hide hR
  clear hR
  go_wp2
  go_ret
  exact ⟨a,c,rfl,unhide HX⟩
open Go.ChangeShapes Go.WideShapes Go.ChangeAt Go.RowKit
end Go.Proofs.YtmgfijllcdadgabGreatDoor
