/- Instr, Content -/
import Derived.Test.YtmgfijllcdadgabGreatDoorPM08
import Derived.Test.YtmgfijllcdadgabGreatDoorPM05
set_option linter.unusedVariables false
set_option linter.unusedSimpArgs false
namespace Go.Proofs.YtmgfijllcdadgabGreatDoor
open Go.RowKit
open Mk (St Bs Ev Att)
theorem isXML_any {w:World} {base:Nat} {a:Option Addr} {c:Nat} {l:Bs} (h:w.ownsRow base 5 1 (.slice a l.length c) l.length (l.map bv)) :
    Calls Tryz.prog 134 #[.slice a l.length c] w fun e w' => e = .returned (.bool (Mk.isXML l))∧w' = w:=by
  by_cases h3:l.length=3
  · match l,h3,h with
    | [x,y,z],_,h =>
      rcases h.2 with ⟨_,hn⟩ | ⟨g,cap,cur,hv,hb,hg,hnc,_,hsz,htake⟩
      · cases hn
      · cases hv
        have hq:∀ j,j<3→w.cell? ⟨g,j,none⟩=some (([x,y,z].map bv).getD j undef):=by
          intro j hj
          rw [cell_of_row w g j cur _ _ hg]
          have h1:([x,y,z].map bv)[j]? = some (([x,y,z].map bv).getD j undef):=by
            match j,hj with
            | 0,_=>rfl
            | 1,_=>rfl
            | 2,_=>rfl
          rw [← htake,List.getElem?_take_of_lt (by simpa using hj)] at h1
          rw [← htake]
          simpa using h1
        have q0:=hq 0 (by decide)
        have q1:=hq 1 (by decide)
        have q2:=hq 2 (by decide)
        simp [bv] at q0 q1 q2
        clear hq htake hg h
        have hm:Mk.isXML [x,y,z]=(((x.toNat:Int) == 120 || (x.toNat:Int) == 88) && ((y.toNat:Int) == 109 || (y.toNat:Int) == 77) && ((z.toNat:Int) == 108 || (z.toNat:Int) == 76)):=rfl
        rw [hm]
        clear hm
        generalize (x.toNat:Int)=x at *
        generalize (y.toNat:Int)=y at *
        generalize (z.toNat:Int)=z at *
        go_enter Tryz.func134,Tryz.ntmps134
        go_wp2
        all_goals (go_ret;exact ⟨retB (by simp_all),rfl⟩)
  · have e0:((l.length:Int) == 3)=false:=by rw [beq_eq_false_iff_ne];omega
    have hm:Mk.isXML l=false:=by
      match l,h3 with
      | [],_=>rfl
      | [_],_=>rfl
      | [_,_],_=>rfl
      | [_,_,_],h3=>exact absurd rfl h3
      | _ :: _ :: _ :: _ :: _,_=>rfl
    rw [hm]
    clear hm h
    go_enter Tryz.func134,Tryz.ntmps134
    go_wp2
    go_ret
    exact ⟨rfl,rfl⟩
theorem ln_any {w:World} {b:Nat} {s:St} {L:Lay} (h:RdL w b s L) (hB:Bd s) (x:Int) (h0:0≤x) (h1:x≤255) :
    Calls Tryz.prog 148 #[.pointer (some ⟨b,0,none⟩),.int .u8 x] w (Does w b s L (Mk.lengthenName s x)):=
  lengthenName_any h x h0 h1 (Nat.le_trans hB.hx (by decide)) (Nat.le_trans hB.ht (by decide)) hB.c0 (Int.le_trans hB.c1 (by decide))
set_option maxHeartbeats 2000000 in
set_option maxRecDepth 100000 in
theorem readInstructionName_any {w:World} {b:Nat} {s:St} {L:Lay} (h:RdL w b s L) (hB:Bd s) (x:Int) (h0:0≤x) (h1:x≤255) :
    Calls Tryz.prog 124 #[.pointer (some ⟨b,0,none⟩),.int .u8 x] w (Does w b s L (Mk.readInstructionName s x)):=by
  have hc:=h.cell
  have hf:=h.frozen
  have hlt:=h.lt
  have HM:=hide h
  have HN:=hide (ln_any h hB x h0 h1)
  have HX:=hide (isXML_any (h.rows.own (tokRow s L) (by simp [rowsOf])))
  have HT:=hide (takeToken_any h)
  have HH:=hide (HasColon_any s.token hB.ht w)
  have hcv:=conv_row (h.rows.own (tokRow s L) (by simp [rowsOf]))
  unfold cellsOf at hc
  clear h hB
  cases ec:(s.count == 0 && !Mk.beginsName x)
  · cases ei:Mk.inName x
    · cases ex:Mk.isXML s.token
      · rw [ex] at HX
        cases eq:(x == 63)
        · have eq' : (x != 63)=true:=by simp at eq ⊢;exact eq
          cases es:Mk.isSpace x
          · skip
            have hr:Mk.readInstructionName s x=(s,3):=by simp only [Mk.readInstructionName,bne,Bool.not_true,Bool.not_false,Bool.or_true,Bool.true_or,Bool.or_false,Bool.false_or,Bool.and_true,Bool.and_false,Bool.false_and,Bool.true_and,Bool.false_eq_true,if_true,if_false,ec,ei,ex,eq,es]
            rw [hr]
            cases e0:(s.count == 0)
            · skip
              clear hr ec
              go_enter Tryz.func124,Tryz.ntmps124
              go_wp2_with (first
                | (go_at_call 145;refine (beginsName_any _ _).mono ?_;rintro e w1 ⟨rfl,rfl⟩)
                | (go_at_call 147;refine (inName_any _ _).mono ?_;rintro e w1 ⟨rfl,rfl⟩)
                | (go_at_call 113;refine (isSpace_any _ _).mono ?_;rintro e w1 ⟨rfl,rfl⟩)
                | (go_at_call 134;refine (unhide HX).mono ?_;rintro e w1 ⟨rfl,rfl⟩)
                | (go_at_call 149;refine (unhide HH).mono ?_;rintro e w1 ⟨rfl,rfl⟩)
                | (go_at_call 148;refine (unhide HN).mono ?_;rintro e w1 ⟨rfl,L1,hm1⟩;have HM1:=hide hm1;clear hm1)
                | (go_at_call 142;refine (unhide HT).mono ?_;rintro e w1 ⟨rfl,L1,hm1⟩;have hc1:=hm1.rd.cell;have hf1:=hm1.rd.frozen;have HM1:=hide hm1;clear hm1;unfold cellsOf at hc1))
              go_ret
              exact ⟨rfl,L,(unhide HM).start⟩
            · skip
              have eb:Mk.beginsName x=true:=by simpa [e0] using ec
              clear hr ec
              go_enter Tryz.func124,Tryz.ntmps124
              go_wp2_with (first
                | (go_at_call 145;refine (beginsName_any _ _).mono ?_;rintro e w1 ⟨rfl,rfl⟩)
                | (go_at_call 147;refine (inName_any _ _).mono ?_;rintro e w1 ⟨rfl,rfl⟩)
                | (go_at_call 113;refine (isSpace_any _ _).mono ?_;rintro e w1 ⟨rfl,rfl⟩)
                | (go_at_call 134;refine (unhide HX).mono ?_;rintro e w1 ⟨rfl,rfl⟩)
                | (go_at_call 149;refine (unhide HH).mono ?_;rintro e w1 ⟨rfl,rfl⟩)
                | (go_at_call 148;refine (unhide HN).mono ?_;rintro e w1 ⟨rfl,L1,hm1⟩;have HM1:=hide hm1;clear hm1)
                | (go_at_call 142;refine (unhide HT).mono ?_;rintro e w1 ⟨rfl,L1,hm1⟩;have hc1:=hm1.rd.cell;have hf1:=hm1.rd.frozen;have HM1:=hide hm1;clear hm1;unfold cellsOf at hc1))
              go_ret
              exact ⟨rfl,L,(unhide HM).start⟩
          · skip
            cases en:s.on
            · rw [en] at hc
              have hr:Mk.readInstructionName s x=({ Mk.dropToken s with name:=s.token,state:=10 },0):=by simp only [Mk.readInstructionName,bne,Bool.not_true,Bool.not_false,Bool.or_true,Bool.true_or,Bool.or_false,Bool.false_or,Bool.and_true,Bool.and_false,Bool.false_and,Bool.true_and,Bool.false_eq_true,if_true,if_false,ec,ei,ex,eq,es,en]
              rw [hr]
              cases e0:(s.count == 0)
              · skip
                clear hr ec
                go_enter Tryz.func124,Tryz.ntmps124
                go_wp2_with (first
                  | (go_at_call 145;refine (beginsName_any _ _).mono ?_;rintro e w1 ⟨rfl,rfl⟩)
                  | (go_at_call 147;refine (inName_any _ _).mono ?_;rintro e w1 ⟨rfl,rfl⟩)
                  | (go_at_call 113;refine (isSpace_any _ _).mono ?_;rintro e w1 ⟨rfl,rfl⟩)
                  | (go_at_call 134;refine (unhide HX).mono ?_;rintro e w1 ⟨rfl,rfl⟩)
                  | (go_at_call 149;refine (unhide HH).mono ?_;rintro e w1 ⟨rfl,rfl⟩)
                  | (go_at_call 148;refine (unhide HN).mono ?_;rintro e w1 ⟨rfl,L1,hm1⟩;have HM1:=hide hm1;clear hm1)
                  | (go_at_call 142;refine (unhide HT).mono ?_;rintro e w1 ⟨rfl,L1,hm1⟩;have hc1:=hm1.rd.cell;have hf1:=hm1.rd.frozen;have HM1:=hide hm1;clear hm1;unfold cellsOf at hc1))
                go_ret
                exact ⟨rfl,L1,((unhide HM1).store 11 _ { Mk.dropToken s with name:=s.token } rfl rfl rfl).store 4 _ _ rfl rfl rfl⟩
              · skip
                have eb:Mk.beginsName x=true:=by simpa [e0] using ec
                clear hr ec
                go_enter Tryz.func124,Tryz.ntmps124
                go_wp2_with (first
                  | (go_at_call 145;refine (beginsName_any _ _).mono ?_;rintro e w1 ⟨rfl,rfl⟩)
                  | (go_at_call 147;refine (inName_any _ _).mono ?_;rintro e w1 ⟨rfl,rfl⟩)
                  | (go_at_call 113;refine (isSpace_any _ _).mono ?_;rintro e w1 ⟨rfl,rfl⟩)
                  | (go_at_call 134;refine (unhide HX).mono ?_;rintro e w1 ⟨rfl,rfl⟩)
                  | (go_at_call 149;refine (unhide HH).mono ?_;rintro e w1 ⟨rfl,rfl⟩)
                  | (go_at_call 148;refine (unhide HN).mono ?_;rintro e w1 ⟨rfl,L1,hm1⟩;have HM1:=hide hm1;clear hm1)
                  | (go_at_call 142;refine (unhide HT).mono ?_;rintro e w1 ⟨rfl,L1,hm1⟩;have hc1:=hm1.rd.cell;have hf1:=hm1.rd.frozen;have HM1:=hide hm1;clear hm1;unfold cellsOf at hc1))
                go_ret
                exact ⟨rfl,L1,((unhide HM1).store 11 _ { Mk.dropToken s with name:=s.token } rfl rfl rfl).store 4 _ _ rfl rfl rfl⟩
            · rw [en] at hc
              cases eh:Mk.hasColon s.token
              · rw [eh] at HH
                have hr:Mk.readInstructionName s x=({ Mk.dropToken s with name:=s.token,state:=10 },0):=by simp only [Mk.readInstructionName,bne,Bool.not_true,Bool.not_false,Bool.or_true,Bool.true_or,Bool.or_false,Bool.false_or,Bool.and_true,Bool.and_false,Bool.false_and,Bool.true_and,Bool.false_eq_true,if_true,if_false,ec,ei,ex,eq,es,en,eh]
                rw [hr]
                cases e0:(s.count == 0)
                · skip
                  clear hr ec
                  go_enter Tryz.func124,Tryz.ntmps124
                  go_wp2_with (first
                    | (go_at_call 145;refine (beginsName_any _ _).mono ?_;rintro e w1 ⟨rfl,rfl⟩)
                    | (go_at_call 147;refine (inName_any _ _).mono ?_;rintro e w1 ⟨rfl,rfl⟩)
                    | (go_at_call 113;refine (isSpace_any _ _).mono ?_;rintro e w1 ⟨rfl,rfl⟩)
                    | (go_at_call 134;refine (unhide HX).mono ?_;rintro e w1 ⟨rfl,rfl⟩)
                    | (go_at_call 149;refine (unhide HH).mono ?_;rintro e w1 ⟨rfl,rfl⟩)
                    | (go_at_call 148;refine (unhide HN).mono ?_;rintro e w1 ⟨rfl,L1,hm1⟩;have HM1:=hide hm1;clear hm1)
                    | (go_at_call 142;refine (unhide HT).mono ?_;rintro e w1 ⟨rfl,L1,hm1⟩;have hc1:=hm1.rd.cell;have hf1:=hm1.rd.frozen;have HM1:=hide hm1;clear hm1;unfold cellsOf at hc1))
                  go_ret
                  exact ⟨rfl,L1,((unhide HM1).store 11 _ { Mk.dropToken s with name:=s.token } rfl rfl rfl).store 4 _ _ rfl rfl rfl⟩
                · skip
                  have eb:Mk.beginsName x=true:=by simpa [e0] using ec
                  clear hr ec
                  go_enter Tryz.func124,Tryz.ntmps124
                  go_wp2_with (first
                    | (go_at_call 145;refine (beginsName_any _ _).mono ?_;rintro e w1 ⟨rfl,rfl⟩)
                    | (go_at_call 147;refine (inName_any _ _).mono ?_;rintro e w1 ⟨rfl,rfl⟩)
                    | (go_at_call 113;refine (isSpace_any _ _).mono ?_;rintro e w1 ⟨rfl,rfl⟩)
                    | (go_at_call 134;refine (unhide HX).mono ?_;rintro e w1 ⟨rfl,rfl⟩)
                    | (go_at_call 149;refine (unhide HH).mono ?_;rintro e w1 ⟨rfl,rfl⟩)
                    | (go_at_call 148;refine (unhide HN).mono ?_;rintro e w1 ⟨rfl,L1,hm1⟩;have HM1:=hide hm1;clear hm1)
                    | (go_at_call 142;refine (unhide HT).mono ?_;rintro e w1 ⟨rfl,L1,hm1⟩;have hc1:=hm1.rd.cell;have hf1:=hm1.rd.frozen;have HM1:=hide hm1;clear hm1;unfold cellsOf at hc1))
                  go_ret
                  exact ⟨rfl,L1,((unhide HM1).store 11 _ { Mk.dropToken s with name:=s.token } rfl rfl rfl).store 4 _ _ rfl rfl rfl⟩
              · rw [eh] at HH
                have hr:Mk.readInstructionName s x=(s,8):=by simp only [Mk.readInstructionName,bne,Bool.not_true,Bool.not_false,Bool.or_true,Bool.true_or,Bool.or_false,Bool.false_or,Bool.and_true,Bool.and_false,Bool.false_and,Bool.true_and,Bool.false_eq_true,if_true,if_false,ec,ei,ex,eq,es,en,eh]
                rw [hr]
                cases e0:(s.count == 0)
                · skip
                  clear hr ec
                  go_enter Tryz.func124,Tryz.ntmps124
                  go_wp2_with (first
                    | (go_at_call 145;refine (beginsName_any _ _).mono ?_;rintro e w1 ⟨rfl,rfl⟩)
                    | (go_at_call 147;refine (inName_any _ _).mono ?_;rintro e w1 ⟨rfl,rfl⟩)
                    | (go_at_call 113;refine (isSpace_any _ _).mono ?_;rintro e w1 ⟨rfl,rfl⟩)
                    | (go_at_call 134;refine (unhide HX).mono ?_;rintro e w1 ⟨rfl,rfl⟩)
                    | (go_at_call 149;refine (unhide HH).mono ?_;rintro e w1 ⟨rfl,rfl⟩)
                    | (go_at_call 148;refine (unhide HN).mono ?_;rintro e w1 ⟨rfl,L1,hm1⟩;have HM1:=hide hm1;clear hm1)
                    | (go_at_call 142;refine (unhide HT).mono ?_;rintro e w1 ⟨rfl,L1,hm1⟩;have hc1:=hm1.rd.cell;have hf1:=hm1.rd.frozen;have HM1:=hide hm1;clear hm1;unfold cellsOf at hc1))
                  go_ret
                  exact ⟨rfl,L,(unhide HM).start⟩
                · skip
                  have eb:Mk.beginsName x=true:=by simpa [e0] using ec
                  clear hr ec
                  go_enter Tryz.func124,Tryz.ntmps124
                  go_wp2_with (first
                    | (go_at_call 145;refine (beginsName_any _ _).mono ?_;rintro e w1 ⟨rfl,rfl⟩)
                    | (go_at_call 147;refine (inName_any _ _).mono ?_;rintro e w1 ⟨rfl,rfl⟩)
                    | (go_at_call 113;refine (isSpace_any _ _).mono ?_;rintro e w1 ⟨rfl,rfl⟩)
                    | (go_at_call 134;refine (unhide HX).mono ?_;rintro e w1 ⟨rfl,rfl⟩)
                    | (go_at_call 149;refine (unhide HH).mono ?_;rintro e w1 ⟨rfl,rfl⟩)
                    | (go_at_call 148;refine (unhide HN).mono ?_;rintro e w1 ⟨rfl,L1,hm1⟩;have HM1:=hide hm1;clear hm1)
                    | (go_at_call 142;refine (unhide HT).mono ?_;rintro e w1 ⟨rfl,L1,hm1⟩;have hc1:=hm1.rd.cell;have hf1:=hm1.rd.frozen;have HM1:=hide hm1;clear hm1;unfold cellsOf at hc1))
                  go_ret
                  exact ⟨rfl,L,(unhide HM).start⟩
        · have eq' : (x != 63)=false:=by simp at eq ⊢;exact eq
          cases en:s.on
          · rw [en] at hc
            have hr:Mk.readInstructionName s x=({ Mk.dropToken s with name:=s.token,state:=9 },0):=by simp only [Mk.readInstructionName,bne,Bool.not_true,Bool.not_false,Bool.or_true,Bool.true_or,Bool.or_false,Bool.false_or,Bool.and_true,Bool.and_false,Bool.false_and,Bool.true_and,Bool.false_eq_true,if_true,if_false,ec,ei,ex,eq,en]
            rw [hr]
            cases e0:(s.count == 0)
            · skip
              clear hr ec
              go_enter Tryz.func124,Tryz.ntmps124
              go_wp2_with (first
                | (go_at_call 145;refine (beginsName_any _ _).mono ?_;rintro e w1 ⟨rfl,rfl⟩)
                | (go_at_call 147;refine (inName_any _ _).mono ?_;rintro e w1 ⟨rfl,rfl⟩)
                | (go_at_call 113;refine (isSpace_any _ _).mono ?_;rintro e w1 ⟨rfl,rfl⟩)
                | (go_at_call 134;refine (unhide HX).mono ?_;rintro e w1 ⟨rfl,rfl⟩)
                | (go_at_call 149;refine (unhide HH).mono ?_;rintro e w1 ⟨rfl,rfl⟩)
                | (go_at_call 148;refine (unhide HN).mono ?_;rintro e w1 ⟨rfl,L1,hm1⟩;have HM1:=hide hm1;clear hm1)
                | (go_at_call 142;refine (unhide HT).mono ?_;rintro e w1 ⟨rfl,L1,hm1⟩;have hc1:=hm1.rd.cell;have hf1:=hm1.rd.frozen;have HM1:=hide hm1;clear hm1;unfold cellsOf at hc1))
              go_ret
              exact ⟨rfl,L1,(((unhide HM1).store 11 _ { Mk.dropToken s with name:=s.token } rfl rfl rfl).store 4 _ { Mk.dropToken s with name:=s.token,state:=10 } rfl rfl rfl).store 4 _ _ rfl rfl rfl⟩
            · skip
              have eb:Mk.beginsName x=true:=by simpa [e0] using ec
              clear hr ec
              go_enter Tryz.func124,Tryz.ntmps124
              go_wp2_with (first
                | (go_at_call 145;refine (beginsName_any _ _).mono ?_;rintro e w1 ⟨rfl,rfl⟩)
                | (go_at_call 147;refine (inName_any _ _).mono ?_;rintro e w1 ⟨rfl,rfl⟩)
                | (go_at_call 113;refine (isSpace_any _ _).mono ?_;rintro e w1 ⟨rfl,rfl⟩)
                | (go_at_call 134;refine (unhide HX).mono ?_;rintro e w1 ⟨rfl,rfl⟩)
                | (go_at_call 149;refine (unhide HH).mono ?_;rintro e w1 ⟨rfl,rfl⟩)
                | (go_at_call 148;refine (unhide HN).mono ?_;rintro e w1 ⟨rfl,L1,hm1⟩;have HM1:=hide hm1;clear hm1)
                | (go_at_call 142;refine (unhide HT).mono ?_;rintro e w1 ⟨rfl,L1,hm1⟩;have hc1:=hm1.rd.cell;have hf1:=hm1.rd.frozen;have HM1:=hide hm1;clear hm1;unfold cellsOf at hc1))
              go_ret
              exact ⟨rfl,L1,(((unhide HM1).store 11 _ { Mk.dropToken s with name:=s.token } rfl rfl rfl).store 4 _ { Mk.dropToken s with name:=s.token,state:=10 } rfl rfl rfl).store 4 _ _ rfl rfl rfl⟩
          · rw [en] at hc
            cases eh:Mk.hasColon s.token
            · rw [eh] at HH
              have hr:Mk.readInstructionName s x=({ Mk.dropToken s with name:=s.token,state:=9 },0):=by simp only [Mk.readInstructionName,bne,Bool.not_true,Bool.not_false,Bool.or_true,Bool.true_or,Bool.or_false,Bool.false_or,Bool.and_true,Bool.and_false,Bool.false_and,Bool.true_and,Bool.false_eq_true,if_true,if_false,ec,ei,ex,eq,en,eh]
              rw [hr]
              cases e0:(s.count == 0)
              · skip
                clear hr ec
                go_enter Tryz.func124,Tryz.ntmps124
                go_wp2_with (first
                  | (go_at_call 145;refine (beginsName_any _ _).mono ?_;rintro e w1 ⟨rfl,rfl⟩)
                  | (go_at_call 147;refine (inName_any _ _).mono ?_;rintro e w1 ⟨rfl,rfl⟩)
                  | (go_at_call 113;refine (isSpace_any _ _).mono ?_;rintro e w1 ⟨rfl,rfl⟩)
                  | (go_at_call 134;refine (unhide HX).mono ?_;rintro e w1 ⟨rfl,rfl⟩)
                  | (go_at_call 149;refine (unhide HH).mono ?_;rintro e w1 ⟨rfl,rfl⟩)
                  | (go_at_call 148;refine (unhide HN).mono ?_;rintro e w1 ⟨rfl,L1,hm1⟩;have HM1:=hide hm1;clear hm1)
                  | (go_at_call 142;refine (unhide HT).mono ?_;rintro e w1 ⟨rfl,L1,hm1⟩;have hc1:=hm1.rd.cell;have hf1:=hm1.rd.frozen;have HM1:=hide hm1;clear hm1;unfold cellsOf at hc1))
                go_ret
                exact ⟨rfl,L1,(((unhide HM1).store 11 _ { Mk.dropToken s with name:=s.token } rfl rfl rfl).store 4 _ { Mk.dropToken s with name:=s.token,state:=10 } rfl rfl rfl).store 4 _ _ rfl rfl rfl⟩
              · skip
                have eb:Mk.beginsName x=true:=by simpa [e0] using ec
                clear hr ec
                go_enter Tryz.func124,Tryz.ntmps124
                go_wp2_with (first
                  | (go_at_call 145;refine (beginsName_any _ _).mono ?_;rintro e w1 ⟨rfl,rfl⟩)
                  | (go_at_call 147;refine (inName_any _ _).mono ?_;rintro e w1 ⟨rfl,rfl⟩)
                  | (go_at_call 113;refine (isSpace_any _ _).mono ?_;rintro e w1 ⟨rfl,rfl⟩)
                  | (go_at_call 134;refine (unhide HX).mono ?_;rintro e w1 ⟨rfl,rfl⟩)
                  | (go_at_call 149;refine (unhide HH).mono ?_;rintro e w1 ⟨rfl,rfl⟩)
                  | (go_at_call 148;refine (unhide HN).mono ?_;rintro e w1 ⟨rfl,L1,hm1⟩;have HM1:=hide hm1;clear hm1)
                  | (go_at_call 142;refine (unhide HT).mono ?_;rintro e w1 ⟨rfl,L1,hm1⟩;have hc1:=hm1.rd.cell;have hf1:=hm1.rd.frozen;have HM1:=hide hm1;clear hm1;unfold cellsOf at hc1))
                go_ret
                exact ⟨rfl,L1,(((unhide HM1).store 11 _ { Mk.dropToken s with name:=s.token } rfl rfl rfl).store 4 _ { Mk.dropToken s with name:=s.token,state:=10 } rfl rfl rfl).store 4 _ _ rfl rfl rfl⟩
            · rw [eh] at HH
              have hr:Mk.readInstructionName s x=(s,8):=by simp only [Mk.readInstructionName,bne,Bool.not_true,Bool.not_false,Bool.or_true,Bool.true_or,Bool.or_false,Bool.false_or,Bool.and_true,Bool.and_false,Bool.false_and,Bool.true_and,Bool.false_eq_true,if_true,if_false,ec,ei,ex,eq,en,eh]
              rw [hr]
              cases e0:(s.count == 0)
              · skip
                clear hr ec
                go_enter Tryz.func124,Tryz.ntmps124
                go_wp2_with (first
                  | (go_at_call 145;refine (beginsName_any _ _).mono ?_;rintro e w1 ⟨rfl,rfl⟩)
                  | (go_at_call 147;refine (inName_any _ _).mono ?_;rintro e w1 ⟨rfl,rfl⟩)
                  | (go_at_call 113;refine (isSpace_any _ _).mono ?_;rintro e w1 ⟨rfl,rfl⟩)
                  | (go_at_call 134;refine (unhide HX).mono ?_;rintro e w1 ⟨rfl,rfl⟩)
                  | (go_at_call 149;refine (unhide HH).mono ?_;rintro e w1 ⟨rfl,rfl⟩)
                  | (go_at_call 148;refine (unhide HN).mono ?_;rintro e w1 ⟨rfl,L1,hm1⟩;have HM1:=hide hm1;clear hm1)
                  | (go_at_call 142;refine (unhide HT).mono ?_;rintro e w1 ⟨rfl,L1,hm1⟩;have hc1:=hm1.rd.cell;have hf1:=hm1.rd.frozen;have HM1:=hide hm1;clear hm1;unfold cellsOf at hc1))
                go_ret
                exact ⟨rfl,L,(unhide HM).start⟩
              · skip
                have eb:Mk.beginsName x=true:=by simpa [e0] using ec
                clear hr ec
                go_enter Tryz.func124,Tryz.ntmps124
                go_wp2_with (first
                  | (go_at_call 145;refine (beginsName_any _ _).mono ?_;rintro e w1 ⟨rfl,rfl⟩)
                  | (go_at_call 147;refine (inName_any _ _).mono ?_;rintro e w1 ⟨rfl,rfl⟩)
                  | (go_at_call 113;refine (isSpace_any _ _).mono ?_;rintro e w1 ⟨rfl,rfl⟩)
                  | (go_at_call 134;refine (unhide HX).mono ?_;rintro e w1 ⟨rfl,rfl⟩)
                  | (go_at_call 149;refine (unhide HH).mono ?_;rintro e w1 ⟨rfl,rfl⟩)
                  | (go_at_call 148;refine (unhide HN).mono ?_;rintro e w1 ⟨rfl,L1,hm1⟩;have HM1:=hide hm1;clear hm1)
                  | (go_at_call 142;refine (unhide HT).mono ?_;rintro e w1 ⟨rfl,L1,hm1⟩;have hc1:=hm1.rd.cell;have hf1:=hm1.rd.frozen;have HM1:=hide hm1;clear hm1;unfold cellsOf at hc1))
                go_ret
                exact ⟨rfl,L,(unhide HM).start⟩
      · rw [ex] at HX
        have hr:Mk.readInstructionName s x=(s,3):=by simp only [Mk.readInstructionName,bne,Bool.not_true,Bool.not_false,Bool.or_true,Bool.true_or,Bool.or_false,Bool.false_or,Bool.and_true,Bool.and_false,Bool.false_and,Bool.true_and,Bool.false_eq_true,if_true,if_false,ec,ei,ex]
        rw [hr]
        cases e0:(s.count == 0)
        · skip
          clear hr ec
          go_enter Tryz.func124,Tryz.ntmps124
          go_wp2_with (first
            | (go_at_call 145;refine (beginsName_any _ _).mono ?_;rintro e w1 ⟨rfl,rfl⟩)
            | (go_at_call 147;refine (inName_any _ _).mono ?_;rintro e w1 ⟨rfl,rfl⟩)
            | (go_at_call 113;refine (isSpace_any _ _).mono ?_;rintro e w1 ⟨rfl,rfl⟩)
            | (go_at_call 134;refine (unhide HX).mono ?_;rintro e w1 ⟨rfl,rfl⟩)
            | (go_at_call 149;refine (unhide HH).mono ?_;rintro e w1 ⟨rfl,rfl⟩)
            | (go_at_call 148;refine (unhide HN).mono ?_;rintro e w1 ⟨rfl,L1,hm1⟩;have HM1:=hide hm1;clear hm1)
            | (go_at_call 142;refine (unhide HT).mono ?_;rintro e w1 ⟨rfl,L1,hm1⟩;have hc1:=hm1.rd.cell;have hf1:=hm1.rd.frozen;have HM1:=hide hm1;clear hm1;unfold cellsOf at hc1))
          go_ret
          exact ⟨rfl,L,(unhide HM).start⟩
        · skip
          have eb:Mk.beginsName x=true:=by simpa [e0] using ec
          clear hr ec
          go_enter Tryz.func124,Tryz.ntmps124
          go_wp2_with (first
            | (go_at_call 145;refine (beginsName_any _ _).mono ?_;rintro e w1 ⟨rfl,rfl⟩)
            | (go_at_call 147;refine (inName_any _ _).mono ?_;rintro e w1 ⟨rfl,rfl⟩)
            | (go_at_call 113;refine (isSpace_any _ _).mono ?_;rintro e w1 ⟨rfl,rfl⟩)
            | (go_at_call 134;refine (unhide HX).mono ?_;rintro e w1 ⟨rfl,rfl⟩)
            | (go_at_call 149;refine (unhide HH).mono ?_;rintro e w1 ⟨rfl,rfl⟩)
            | (go_at_call 148;refine (unhide HN).mono ?_;rintro e w1 ⟨rfl,L1,hm1⟩;have HM1:=hide hm1;clear hm1)
            | (go_at_call 142;refine (unhide HT).mono ?_;rintro e w1 ⟨rfl,L1,hm1⟩;have hc1:=hm1.rd.cell;have hf1:=hm1.rd.frozen;have HM1:=hide hm1;clear hm1;unfold cellsOf at hc1))
          go_ret
          exact ⟨rfl,L,(unhide HM).start⟩
    · skip
      have hr:Mk.readInstructionName s x=Mk.lengthenName s x:=by simp only [Mk.readInstructionName,bne,Bool.not_true,Bool.not_false,Bool.or_true,Bool.true_or,Bool.or_false,Bool.false_or,Bool.and_true,Bool.and_false,Bool.false_and,Bool.true_and,Bool.false_eq_true,if_true,if_false,ec,ei]
      rw [hr]
      cases e0:(s.count == 0)
      · skip
        clear hr ec
        go_enter Tryz.func124,Tryz.ntmps124
        go_wp2_with (first
          | (go_at_call 145;refine (beginsName_any _ _).mono ?_;rintro e w1 ⟨rfl,rfl⟩)
          | (go_at_call 147;refine (inName_any _ _).mono ?_;rintro e w1 ⟨rfl,rfl⟩)
          | (go_at_call 113;refine (isSpace_any _ _).mono ?_;rintro e w1 ⟨rfl,rfl⟩)
          | (go_at_call 134;refine (unhide HX).mono ?_;rintro e w1 ⟨rfl,rfl⟩)
          | (go_at_call 149;refine (unhide HH).mono ?_;rintro e w1 ⟨rfl,rfl⟩)
          | (go_at_call 148;refine (unhide HN).mono ?_;rintro e w1 ⟨rfl,L1,hm1⟩;have HM1:=hide hm1;clear hm1)
          | (go_at_call 142;refine (unhide HT).mono ?_;rintro e w1 ⟨rfl,L1,hm1⟩;have hc1:=hm1.rd.cell;have hf1:=hm1.rd.frozen;have HM1:=hide hm1;clear hm1;unfold cellsOf at hc1))
        go_ret
        exact ⟨rfl,L1,unhide HM1⟩
      · skip
        have eb:Mk.beginsName x=true:=by simpa [e0] using ec
        clear hr ec
        go_enter Tryz.func124,Tryz.ntmps124
        go_wp2_with (first
          | (go_at_call 145;refine (beginsName_any _ _).mono ?_;rintro e w1 ⟨rfl,rfl⟩)
          | (go_at_call 147;refine (inName_any _ _).mono ?_;rintro e w1 ⟨rfl,rfl⟩)
          | (go_at_call 113;refine (isSpace_any _ _).mono ?_;rintro e w1 ⟨rfl,rfl⟩)
          | (go_at_call 134;refine (unhide HX).mono ?_;rintro e w1 ⟨rfl,rfl⟩)
          | (go_at_call 149;refine (unhide HH).mono ?_;rintro e w1 ⟨rfl,rfl⟩)
          | (go_at_call 148;refine (unhide HN).mono ?_;rintro e w1 ⟨rfl,L1,hm1⟩;have HM1:=hide hm1;clear hm1)
          | (go_at_call 142;refine (unhide HT).mono ?_;rintro e w1 ⟨rfl,L1,hm1⟩;have hc1:=hm1.rd.cell;have hf1:=hm1.rd.frozen;have HM1:=hide hm1;clear hm1;unfold cellsOf at hc1))
        go_ret
        exact ⟨rfl,L1,unhide HM1⟩
  · have hr:Mk.readInstructionName s x=(s,3):=by simp only [Mk.readInstructionName,ec,if_true]
    rw [hr]
    have e0:(s.count == 0)=true:=by simp at ec;simp [ec]
    have eb:Mk.beginsName x=false:=by simp at ec;simp [ec]
    clear hr ec
    go_enter Tryz.func124,Tryz.ntmps124
    go_wp2_with (go_at_call 145;refine (beginsName_any _ _).mono ?_;rintro e w1 ⟨rfl,rfl⟩)
    go_ret
    exact ⟨rfl,L,(unhide HM).start⟩
theorem readOutside_any {w:World} {b:Nat} {s:St} {L:Lay} (h:RdL w b s L) (x:Int) :
    Calls Tryz.prog 90 #[.pointer (some ⟨b,0,none⟩),.int .u8 x] w (Does w b s L (Mk.readOutside s x)):=by
  have hc:=h.cell
  have hf:=h.frozen
  have hlt:=h.lt
  have HM:=hide h
  unfold cellsOf at hc
  clear h
  cases es:Mk.isSpace x
  · cases e1:(x == 60)
    · have hr:Mk.readOutside s x=(s,3):=by simp [Mk.readOutside,es,e1]
      rw [hr]
      go_enter Tryz.func90,Tryz.ntmps90
      go_wp2_with (go_at_call 113;refine (isSpace_any _ _).mono ?_;rintro e w1 ⟨rfl,rfl⟩)
      go_ret
      exact ⟨rfl,L,(unhide HM).start⟩
    · have hr:Mk.readOutside s x=({ s with state:=3 },0):=by simp [Mk.readOutside,es,e1]
      rw [hr]
      go_enter Tryz.func90,Tryz.ntmps90
      go_wp2_with (go_at_call 113;refine (isSpace_any _ _).mono ?_;rintro e w1 ⟨rfl,rfl⟩)
      go_ret
      exact ⟨rfl,L,(unhide HM).start.store 4 _ _ rfl rfl rfl⟩
  · have hr:Mk.readOutside s x=(s,0):=by simp [Mk.readOutside,es]
    rw [hr]
    go_enter Tryz.func90,Tryz.ntmps90
    go_wp2_with (go_at_call 113;refine (isSpace_any _ _).mono ?_;rintro e w1 ⟨rfl,rfl⟩)
    go_ret
    exact ⟨rfl,L,(unhide HM).start⟩
theorem readContent_any {w:World} {b:Nat} {s:St} {L:Lay} (h:RdL w b s L) (hB:Bd s) (x:Int) (h0:0≤x) (h1:x≤255) :
    Calls Tryz.prog 91 #[.pointer (some ⟨b,0,none⟩),.int .u8 x] w (Does w b s L (Mk.readContent s x)):=by
  have hc:=h.cell
  have hf:=h.frozen
  have hlt:=h.lt
  have hm:=h.start.store 16 (.int .i64 0) { s with brackets:=0 } rfl rfl rfl
  have hm1:=(hm.store 16 (.int .i64 2) { s with brackets:=2 } rfl rfl rfl)
  have hm2:=(hm1.store 16 (.int .i64 1) { s with brackets:=1 } rfl rfl rfl)
  have HM:=hide hm
  have HM1:=hide hm1
  have HM2:=hide hm2
  have HC:=hide (rc_any hm.rd { hB with } x h0 h1)
  have HC1:=hide (rc_any hm1.rd { hB with } x h0 h1)
  have HC2:=hide (rc_any hm2.rd { hB with } x h0 h1)
  unfold cellsOf at hc
  clear h hm hm1 hm2 hB
  cases e1:(x == 60)
  · cases e2:(x == 38)
    · cases e3:(x == 62)
      · cases e4:(x == 93)
        · have hr:Mk.readContent s x=Mk.readCharacter { s with brackets:=0 } x:=by simp only [Mk.readContent,e1,e2,e3,e4];rfl
          rw [hr]
          clear hr HC1 HC2
          go_enter Tryz.func91,Tryz.ntmps91
          go_wp2_with (go_at_call 115;refine (unhide HC).mono ?_;rintro e w1 ⟨rfl,L1,hm1⟩;have HX:=hide hm1;clear hm1)
          go_ret
          exact ⟨rfl,L1,(unhide HM).call (unhide HX)⟩
        · cases e5:(s.brackets == 0)
          · have hr:Mk.readContent s x=Mk.readCharacter { s with brackets:=2 } x:=by simp only [Mk.readContent,e1,e2,e3,e4,e5];rfl
            rw [hr]
            clear hr HC HC2
            go_enter Tryz.func91,Tryz.ntmps91
            go_wp2_with (go_at_call 115;refine (unhide HC1).mono ?_;rintro e w1 ⟨rfl,L1,hm1⟩;have HX:=hide hm1;clear hm1)
            go_ret
            exact ⟨rfl,L1,(unhide HM1).call (unhide HX)⟩
          · have hr:Mk.readContent s x=Mk.readCharacter { s with brackets:=1 } x:=by simp only [Mk.readContent,e1,e2,e3,e4,e5];rfl
            rw [hr]
            clear hr HC HC1
            go_enter Tryz.func91,Tryz.ntmps91
            go_wp2_with (go_at_call 115;refine (unhide HC2).mono ?_;rintro e w1 ⟨rfl,L1,hm1⟩;have HX:=hide hm1;clear hm1)
            go_ret
            exact ⟨rfl,L1,(unhide HM2).call (unhide HX)⟩
      · cases e5:(s.brackets == 2)
        · have hr:Mk.readContent s x=Mk.readCharacter { s with brackets:=0 } x:=by simp only [Mk.readContent,e1,e2,e3,e5];rfl
          rw [hr]
          clear hr HC1 HC2
          go_enter Tryz.func91,Tryz.ntmps91
          go_wp2_with (go_at_call 115;refine (unhide HC).mono ?_;rintro e w1 ⟨rfl,L1,hm1⟩;have HX:=hide hm1;clear hm1)
          go_ret
          exact ⟨rfl,L1,(unhide HM).call (unhide HX)⟩
        · have hr:Mk.readContent s x=({ s with brackets:=0 },3):=by simp only [Mk.readContent,e1,e2,e3,e5];rfl
          rw [hr]
          clear hr HC HC1 HC2
          go_enter Tryz.func91,Tryz.ntmps91
          go_wp2
          go_ret
          exact ⟨rfl,L,unhide HM⟩
    · have hr:Mk.readContent s x=(Mk.setRef { s with brackets:=0 } ⟨1,[],0⟩,0):=by simp only [Mk.readContent,e1,e2];rfl
      rw [hr]
      clear hr HC HC1 HC2 HM1 HM2
      go_enter Tryz.func91,Tryz.ntmps91
      go_wp2_with (go_at_call 114;refine (refBegin_any _).mono ?_;rintro e w1 ⟨rfl,hbel⟩;have hmb:=(unhide HM).below hbel;have hcb:=hmb.rd.cell;have hfb:=hmb.rd.frozen;have hltb:=hmb.rd.lt;have HMB:=hide hmb;clear hmb;unfold cellsOf at hcb)
      go_ret
      exact ⟨rfl,L,(((unhide HMB).store 20 (.int .i64 1) { s with brackets:=0,rp:=1 } rfl rfl rfl).store 21 (.string ⟨#[]⟩) { s with brackets:=0,rp:=1,rn:=[] } rfl rfl rfl).store 22 _ _ rfl rfl rfl⟩
  · have hr:Mk.readContent s x=({ s with brackets:=0,state:=3 },0):=by simp only [Mk.readContent,e1];rfl
    rw [hr]
    clear hr HC HC1 HC2
    go_enter Tryz.func91,Tryz.ntmps91
    go_wp2
    go_ret
    exact ⟨rfl,L,(unhide HM).store 4 _ _ rfl rfl rfl⟩
theorem pt_any {w:World} {b:Nat} {s:St} {L:Lay} (h:RdL w b s L) (hB:Bd s) (c:Int) (h0:0≤c) (h1:c≤1114111) :
    Calls Tryz.prog 111 #[.pointer (some ⟨b,0,none⟩),.int .i64 c] w fun e w' => e = .returned (.tuple #[])∧∃ L', Mv w b (foot s L) w' (Mk.put s c) L' :=
  put_any h c h0 h1 (Nat.le_trans hB.hx (by decide)) (Nat.le_trans hB.ht (by decide)) hB.c0 (Int.le_trans hB.c1 (by decide))
theorem readSection_any {w:World} {b:Nat} {s:St} {L:Lay} (h:RdL w b s L) (hB:Bd s) (x:Int) (h0:0≤x) (h1:x≤255) :
    Calls Tryz.prog 92 #[.pointer (some ⟨b,0,none⟩),.int .u8 x] w (Does w b s L (Mk.readSection s x)):=by
  have hc:=h.cell
  have hf:=h.frozen
  have hlt:=h.lt
  have hh:=hB.hh
  have HM:=hide h
  have HC:=hide (rc_any h hB x h0 h1)
  have HP:=hide (pt_any h hB 93 (by decide) (by decide))
  have happ:=app_list s.held 93
  unfold cellsOf at hc
  clear h hB
  cases e1:(x == 62)
  · have n1:x ≠ 62:=by simpa using e1
    cases e2:(x == 93)
    · have n2:x ≠ 93:=by simpa using e2
      have hr:Mk.readSection s x=Mk.readCharacter s x:=by simp [Mk.readSection,n1,n2]
      rw [hr]
      clear hr n1 n2 HP happ
      go_enter Tryz.func92,Tryz.ntmps92
      go_wp2_with (go_at_call 115;refine (unhide HC).mono ?_;rintro e w1 ⟨rfl,L1,hm1⟩;have HX:=hide hm1;clear hm1)
      go_ret
      exact ⟨rfl,L1,unhide HX⟩
    · have n2:x=93:=by simpa using e2
      cases e3:(s.held == [93,93])
      · have n3:s.held ≠ [93,93]:=by simpa using e3
        have hr:Mk.readSection s x=({ s with held:=s.held ++ [93] },0):=by simp [Mk.readSection,n2,n3]
        rw [hr]
        clear hr n1 n2 n3 HP HC
        go_enter Tryz.func92,Tryz.ntmps92
        go_wp2
        go_ret
        exact ⟨rfl,L,(unhide HM).start.store 15 _ _ rfl rfl rfl⟩
      · have n3:s.held=[93,93]:=by simpa using e3
        have hr:Mk.readSection s x=(Mk.put s 93,0):=by simp [Mk.readSection,n2,n3]
        rw [hr]
        clear hr n1 n2 n3 HC happ
        go_enter Tryz.func92,Tryz.ntmps92
        go_wp2_with (go_at_call 111;refine (unhide HP).mono ?_;rintro e w1 ⟨rfl,L1,hm1⟩;have HX:=hide hm1;clear hm1)
        go_ret
        exact ⟨rfl,L1,unhide HX⟩
  · have n1:x=62:=by simpa using e1
    have e2:(x == 93)=false:=by simp [n1]
    cases e3:(s.held == [93,93])
    · have n3:s.held ≠ [93,93]:=by simpa using e3
      have hr:Mk.readSection s x=Mk.readCharacter s x:=by simp [Mk.readSection,n1,n3]
      rw [hr]
      clear hr n1 n3 HP happ
      go_enter Tryz.func92,Tryz.ntmps92
      go_wp2_with (go_at_call 115;refine (unhide HC).mono ?_;rintro e w1 ⟨rfl,L1,hm1⟩;have HX:=hide hm1;clear hm1)
      go_ret
      exact ⟨rfl,L1,unhide HX⟩
    · have n3:s.held=[93,93]:=by simpa using e3
      have hr:Mk.readSection s x=({ s with held:=[],state:=1 },0):=by simp [Mk.readSection,n1,n3]
      rw [hr]
      clear hr n1 n3 HP HC happ
      go_enter Tryz.func92,Tryz.ntmps92
      go_wp2
      go_ret
      exact ⟨rfl,L,((unhide HM).start.store 15 (.string ⟨#[]⟩) { s with held:=[] } rfl rfl rfl).store 4 _ _ rfl rfl rfl⟩
theorem beginStart_any {w:World} {b:Nat} {s:St} {L:Lay} (h:RdL w b s L) (hB:Bd s) (x:Int) (h0:0≤x) (h1:x≤255) :
    Calls Tryz.prog 146 #[.pointer (some ⟨b,0,none⟩),.int .u8 x] w (Does w b s L (Mk.beginStart s x)):=by
  have hc:=h.cell
  have hf:=h.frozen
  have hlt:=h.lt
  have ho:=hB.ho
  have HM:=hide h
  have HP:=hide (fun n=>pt_any ((h.start.drewN n).store 4 (.int .i64 12) { s with state:=12 } rfl rfl rfl).rd { hB with } x h0 (by omega))
  unfold cellsOf at hc
  clear h hB
  by_cases e1:s.od≤s.opn.length
  · have hr:Mk.beginStart s x=(s,7):=by simp [Mk.beginStart,e1]
    rw [hr]
    clear hr HP
    go_enter Tryz.func146,Tryz.ntmps146
    go_wp2
    go_quiet (fail)
    go_wp2
    go_ret
    exact ⟨rfl,L,(unhide HM).start.drewN _⟩
  · have hr:Mk.beginStart s x=(Mk.put { s with state:=12 } x,0):=by simp [Mk.beginStart,e1]
    rw [hr]
    have e2:decide (s.od≤(s.opn.length:Int))=false:=by simp;omega
    clear hr
    go_enter Tryz.func146,Tryz.ntmps146
    go_wp2
    go_quiet (fail)
    go_wp2_with (go_at_call 111;refine (unhide HP _).mono ?_;rintro e w1 ⟨rfl,L1,hm1⟩;have HX:=hide hm1;clear hm1)
    go_ret
    exact ⟨rfl,L1,(((unhide HM).start.drewN _).store 4 (.int .i64 12) { s with state:=12 } rfl rfl rfl).call (unhide HX)⟩
end Go.Proofs.YtmgfijllcdadgabGreatDoor
