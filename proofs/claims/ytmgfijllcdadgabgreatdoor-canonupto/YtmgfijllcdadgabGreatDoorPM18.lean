/- Less, Instr2 -/
import Derived.Test.YtmgfijllcdadgabGreatDoorPM12
set_option linter.unusedVariables false
set_option linter.unusedSimpArgs false
namespace Go.Proofs.YtmgfijllcdadgabGreatDoor
open Go.RowKit
open Mk (St Bs Ev Att)
theorem readLess_any {w:World} {b:Nat} {s:St} {L:Lay} (h:RdL w b s L) (hB:Bd s) (x:Int) (h0:0≤x) (h1:x≤255) :
    Calls Tryz.prog 120 #[.pointer (some ⟨b,0,none⟩),.int .u8 x] w (Does w b s L (Mk.readLess s x)):=by
  have hc:=h.cell
  have hf:=h.frozen
  have hlt:=h.lt
  have HM:=hide h
  have ho:=hB.ho
  have HS:=hide (beginStart_any h hB x h0 h1)
  unfold cellsOf at hc
  clear h hB
  cases e1:(x == 33)
  · cases e2:(x == 63)
    · cases e3:(x == 47)
      · have n3:x ≠ 47:=by simpa using e3
        cases e5:Mk.beginsName x
        · have hr:Mk.readLess s x=(s,3):=by simp [Mk.readLess,e1,e2,n3,e5]
          rw [hr]
          clear hr HS n3
          go_enter Tryz.func120,Tryz.ntmps120
          go_wp2_with (go_at_call 145;refine (beginsName_any _ _).mono ?_;rintro e w1 ⟨rfl,rfl⟩)
          go_ret
          exact ⟨rfl,L,(unhide HM).start⟩
        · cases e6:s.over
          · have hr:Mk.readLess s x=Mk.beginStart s x:=by simp [Mk.readLess,e1,e2,n3,e5,e6]
            rw [hr]
            clear hr n3
            go_enter Tryz.func120,Tryz.ntmps120
            go_wp2_with (first | (go_at_call 145;refine (beginsName_any _ _).mono ?_;rintro e w1 ⟨rfl,rfl⟩) | (go_at_call 146;refine (unhide HS).mono ?_;rintro e w1 ⟨rfl,L1,hm1⟩;have HX:=hide hm1;clear hm1))
            go_ret
            exact ⟨rfl,L1,unhide HX⟩
          · have hr:Mk.readLess s x=(s,3):=by simp [Mk.readLess,e1,e2,n3,e5,e6]
            rw [hr]
            clear hr HS n3
            go_enter Tryz.func120,Tryz.ntmps120
            go_wp2_with (go_at_call 145;refine (beginsName_any _ _).mono ?_;rintro e w1 ⟨rfl,rfl⟩)
            go_ret
            exact ⟨rfl,L,(unhide HM).start⟩
      · have n3:x=47:=by simpa using e3
        by_cases e4:0<s.opn.length
        · have hr:Mk.readLess s x=({ s with state:=20,matched:=0 },0):=by simp [Mk.readLess,n3,e4]
          rw [hr]
          clear hr HS n3
          go_enter Tryz.func120,Tryz.ntmps120
          go_wp2
          go_ret
          exact ⟨rfl,L,((unhide HM).start.store 4 (.int .i64 20) { s with state:=20 } rfl rfl rfl).store 17 _ _ rfl rfl rfl⟩
        · have e5:Mk.beginsName x=false:=by rw [n3];decide
          have hr:Mk.readLess s x=(s,3):=by simp [Mk.readLess,n3,e4,show Mk.beginsName 47=false by decide]
          rw [hr]
          have e6:s.opn.length=0:=by omega
          clear hr HS n3 e4
          go_enter Tryz.func120,Tryz.ntmps120
          go_wp2_with (go_at_call 145;refine (beginsName_any _ _).mono ?_;rintro e w1 ⟨rfl,rfl⟩)
          go_ret
          exact ⟨rfl,L,(unhide HM).start⟩
    · have hr:Mk.readLess s x=({ s with state:=8 },0):=by simp [Mk.readLess,e1,e2]
      rw [hr]
      clear hr HS
      go_enter Tryz.func120,Tryz.ntmps120
      go_wp2
      go_ret
      exact ⟨rfl,L,(unhide HM).start.store 4 _ _ rfl rfl rfl⟩
  · have hr:Mk.readLess s x=({ s with state:=4 },0):=by simp [Mk.readLess,e1]
    rw [hr]
    clear hr HS
    go_enter Tryz.func120,Tryz.ntmps120
    go_wp2
    go_ret
    exact ⟨rfl,L,(unhide HM).start.store 4 _ _ rfl rfl rfl⟩
theorem readBang_any {w:World} {b:Nat} {s:St} {L:Lay} (h:RdL w b s L) (hB:Bd s) (x:Int) (h0:0≤x) (h1:x≤255) :
    Calls Tryz.prog 121 #[.pointer (some ⟨b,0,none⟩),.int .u8 x] w (Does w b s L (Mk.readBang s x)):=by
  have hc:=h.cell
  have hf:=h.frozen
  have hlt:=h.lt
  have HM:=hide h
  have ho:=hB.ho
  unfold cellsOf at hc
  clear h hB
  cases e1:(x == 45)
  · cases e3:(x == 91)
    · have n3:x ≠ 91:=by simpa using e3
      have hr:Mk.readBang s x=(s,3):=by simp [Mk.readBang,e1,n3]
      rw [hr]
      clear hr n3
      go_enter Tryz.func121,Tryz.ntmps121
      go_wp2
      go_ret
      exact ⟨rfl,L,(unhide HM).start⟩
    · have n3:x=91:=by simpa using e3
      by_cases e4:0<s.opn.length
      · have hr:Mk.readBang s x=({ s with state:=6,matched:=0 },0):=by simp [Mk.readBang,n3,e4]
        rw [hr]
        clear hr n3
        go_enter Tryz.func121,Tryz.ntmps121
        go_wp2
        go_ret
        exact ⟨rfl,L,((unhide HM).start.store 4 (.int .i64 6) { s with state:=6 } rfl rfl rfl).store 17 _ _ rfl rfl rfl⟩
      · have hr:Mk.readBang s x=(s,3):=by simp [Mk.readBang,n3,e4]
        rw [hr]
        have e6:s.opn.length=0:=by omega
        clear hr n3 e4
        go_enter Tryz.func121,Tryz.ntmps121
        go_wp2
        go_ret
        exact ⟨rfl,L,(unhide HM).start⟩
  · have hr:Mk.readBang s x=({ s with state:=5 },0):=by simp [Mk.readBang,e1]
    rw [hr]
    clear hr
    go_enter Tryz.func121,Tryz.ntmps121
    go_wp2
    go_ret
    exact ⟨rfl,L,(unhide HM).start.store 4 _ _ rfl rfl rfl⟩
theorem readSectionMark_any {w:World} {b:Nat} {s:St} {L:Lay} (h:RdL w b s L) (hB:Bd s) (x:Int) (h0:0≤x) (h1:x≤255) :
    Calls Tryz.prog 123 #[.pointer (some ⟨b,0,none⟩),.int .u8 x] w (Does w b s L (Mk.readSectionMark s x)):=by
  have hc:=h.cell
  have hf:=h.frozen
  have hlt:=h.lt
  have HM:=hide h
  have m0:=hB.m0
  unfold cellsOf at hc
  clear h hB
  by_cases g6:6≤s.matched
  · have hr:Mk.readSectionMark s x=(s,3):=by simp [Mk.readSectionMark,g6]
    rw [hr]
    clear hr
    go_enter Tryz.func123,Tryz.ntmps123
    go_wp2
    go_ret
    exact ⟨rfl,L,(unhide HM).start⟩
  · rcases (by omega:s.matched=0∨s.matched=1∨s.matched=2∨s.matched=3∨s.matched=4∨s.matched=5) with g | g | g | g | g | g
    · cases e1:(x == 67)
      · have n1:x ≠ 67:=by simpa using e1
        have hr:Mk.readSectionMark s x=(s,3):=by simp [Mk.readSectionMark,g,Mk.sectionMark];omega
        rw [hr]
        have e2:((((⟨#[67,68,65,84,65,91]⟩:ByteArray)[0]'(by decide)).toNat:Int) != x)=true:=by show ((67:Int) != x)=true;simp;omega
        clear hr n1
        go_enter Tryz.func123,Tryz.ntmps123
        go_wp2
        go_ret
        exact ⟨rfl,L,(unhide HM).start⟩
      · have n1:x=67:=by simpa using e1
        have hr:Mk.readSectionMark s x=({ s with matched:=1 },0):=by simp [Mk.readSectionMark,g,n1,Mk.sectionMark]
        rw [hr]
        clear hr
        subst n1
        go_enter Tryz.func123,Tryz.ntmps123
        go_wp2
        go_ret
        exact ⟨rfl,L,((unhide HM).start.store 17 (.int .i64 1) { s with matched:=1 } rfl rfl rfl)⟩
    · cases e1:(x == 68)
      · have n1:x ≠ 68:=by simpa using e1
        have hr:Mk.readSectionMark s x=(s,3):=by simp [Mk.readSectionMark,g,Mk.sectionMark];omega
        rw [hr]
        have e2:((((⟨#[67,68,65,84,65,91]⟩:ByteArray)[1]'(by decide)).toNat:Int) != x)=true:=by show ((68:Int) != x)=true;simp;omega
        clear hr n1
        go_enter Tryz.func123,Tryz.ntmps123
        go_wp2
        go_ret
        exact ⟨rfl,L,(unhide HM).start⟩
      · have n1:x=68:=by simpa using e1
        have hr:Mk.readSectionMark s x=({ s with matched:=2 },0):=by simp [Mk.readSectionMark,g,n1,Mk.sectionMark]
        rw [hr]
        clear hr
        subst n1
        go_enter Tryz.func123,Tryz.ntmps123
        go_wp2
        go_ret
        exact ⟨rfl,L,((unhide HM).start.store 17 (.int .i64 2) { s with matched:=2 } rfl rfl rfl)⟩
    · cases e1:(x == 65)
      · have n1:x ≠ 65:=by simpa using e1
        have hr:Mk.readSectionMark s x=(s,3):=by simp [Mk.readSectionMark,g,Mk.sectionMark];omega
        rw [hr]
        have e2:((((⟨#[67,68,65,84,65,91]⟩:ByteArray)[2]'(by decide)).toNat:Int) != x)=true:=by show ((65:Int) != x)=true;simp;omega
        clear hr n1
        go_enter Tryz.func123,Tryz.ntmps123
        go_wp2
        go_ret
        exact ⟨rfl,L,(unhide HM).start⟩
      · have n1:x=65:=by simpa using e1
        have hr:Mk.readSectionMark s x=({ s with matched:=3 },0):=by simp [Mk.readSectionMark,g,n1,Mk.sectionMark]
        rw [hr]
        clear hr
        subst n1
        go_enter Tryz.func123,Tryz.ntmps123
        go_wp2
        go_ret
        exact ⟨rfl,L,((unhide HM).start.store 17 (.int .i64 3) { s with matched:=3 } rfl rfl rfl)⟩
    · cases e1:(x == 84)
      · have n1:x ≠ 84:=by simpa using e1
        have hr:Mk.readSectionMark s x=(s,3):=by simp [Mk.readSectionMark,g,Mk.sectionMark];omega
        rw [hr]
        have e2:((((⟨#[67,68,65,84,65,91]⟩:ByteArray)[3]'(by decide)).toNat:Int) != x)=true:=by show ((84:Int) != x)=true;simp;omega
        clear hr n1
        go_enter Tryz.func123,Tryz.ntmps123
        go_wp2
        go_ret
        exact ⟨rfl,L,(unhide HM).start⟩
      · have n1:x=84:=by simpa using e1
        have hr:Mk.readSectionMark s x=({ s with matched:=4 },0):=by simp [Mk.readSectionMark,g,n1,Mk.sectionMark]
        rw [hr]
        clear hr
        subst n1
        go_enter Tryz.func123,Tryz.ntmps123
        go_wp2
        go_ret
        exact ⟨rfl,L,((unhide HM).start.store 17 (.int .i64 4) { s with matched:=4 } rfl rfl rfl)⟩
    · cases e1:(x == 65)
      · have n1:x ≠ 65:=by simpa using e1
        have hr:Mk.readSectionMark s x=(s,3):=by simp [Mk.readSectionMark,g,Mk.sectionMark];omega
        rw [hr]
        have e2:((((⟨#[67,68,65,84,65,91]⟩:ByteArray)[4]'(by decide)).toNat:Int) != x)=true:=by show ((65:Int) != x)=true;simp;omega
        clear hr n1
        go_enter Tryz.func123,Tryz.ntmps123
        go_wp2
        go_ret
        exact ⟨rfl,L,(unhide HM).start⟩
      · have n1:x=65:=by simpa using e1
        have hr:Mk.readSectionMark s x=({ s with matched:=5 },0):=by simp [Mk.readSectionMark,g,n1,Mk.sectionMark]
        rw [hr]
        clear hr
        subst n1
        go_enter Tryz.func123,Tryz.ntmps123
        go_wp2
        go_ret
        exact ⟨rfl,L,((unhide HM).start.store 17 (.int .i64 5) { s with matched:=5 } rfl rfl rfl)⟩
    · cases e1:(x == 91)
      · have n1:x ≠ 91:=by simpa using e1
        have hr:Mk.readSectionMark s x=(s,3):=by simp [Mk.readSectionMark,g,Mk.sectionMark];omega
        rw [hr]
        have e2:((((⟨#[67,68,65,84,65,91]⟩:ByteArray)[5]'(by decide)).toNat:Int) != x)=true:=by show ((91:Int) != x)=true;simp;omega
        clear hr n1
        go_enter Tryz.func123,Tryz.ntmps123
        go_wp2
        go_ret
        exact ⟨rfl,L,(unhide HM).start⟩
      · have n1:x=91:=by simpa using e1
        have hr:Mk.readSectionMark s x=({ s with matched:=6,state:=2 },0):=by simp [Mk.readSectionMark,g,n1,Mk.sectionMark]
        rw [hr]
        clear hr
        subst n1
        go_enter Tryz.func123,Tryz.ntmps123
        go_wp2
        go_ret
        exact ⟨rfl,L,((unhide HM).start.store 17 (.int .i64 6) { s with matched:=6 } rfl rfl rfl).store 4 _ _ rfl rfl rfl⟩
theorem endInstruction_any {w:World} {b:Nat} {s:St} {L:Lay} (h:RdL w b s L) (hB:Bd s) :
    Calls Tryz.prog 117 #[.pointer (some ⟨b,0,none⟩)] w fun e w' => e = .returned (.tuple #[])∧∃ L', Mv w b (foot s L) w' (Mk.endInstruction s) L' := by
  have hc:=h.cell
  have hf:=h.frozen
  have hlt:=h.lt
  have hm0:=h.start.store 15 (.string ⟨#[]⟩) { s with held:=[] } rfl rfl rfl
  have H1:=hide (takeToken_any hm0.rd)
  have HM0:=hide hm0
  unfold cellsOf at hc
  clear h hm0
  go_enter Tryz.func117,Tryz.ntmps117
  go_wp2_with fail
  refine (unhide H1).mono ?_
  rintro e w1 ⟨rfl,L1,hm1⟩
  have hm1' := hm1.drew
  have hc1:=hm1.rd.cell
  have H2:=hide (add_nil hm1'.rd ⟨5,s.name,[],s.token,[]⟩ rfl (Nat.le_trans hB.hx (by decide)) (Nat.le_trans hB.hl (by decide)))
  have HM1:=hide ((unhide HM0).call hm1')
  unfold cellsOf at hc1
  clear hm1 H1 HM0 hc hf hm1'
  go_wp2_with fail
  go_region_with (go_at_call 143;refine (unhide H2).mono ?_;rintro e w2 ⟨rfl,L2,hm2⟩)
  all_goals
    have hc2:=hm2.rd.cell
    have hf2:=hm2.rd.frozen
    have hlt2:=hm2.rd.lt
    have hm3:=((unhide HM1).call hm2).store 11 (.string ⟨#[]⟩) { Mk.add (Mk.dropToken { s with held:=[] }) ⟨5,s.name,[],s.token,[]⟩ with name:=[] } rfl rfl rfl
    have H3:=hide (resume_any hm3.rd)
    have HM3:=hide hm3
    unfold cellsOf at hc2
    clear hm2 hm3 H2 HM1 hc1
    go_wp2_with (go_at_call 144;refine (unhide H3).mono ?_;rintro e w3 ⟨rfl,hm3⟩;have HM4:=hide hm3;clear hm3)
    go_end0
    exact ⟨rfl,L2,(unhide HM3).call (unhide HM4)⟩
theorem readBareInstruction_any {w:World} {b:Nat} {s:St} {L:Lay} (h:RdL w b s L) (hB:Bd s) (x:Int) :
    Calls Tryz.prog 125 #[.pointer (some ⟨b,0,none⟩),.int .u8 x] w (Does w b s L (Mk.readBareInstruction s x)):=by
  have HM:=hide h
  have HE:=hide (endInstruction_any h hB)
  clear h hB
  cases he:(x == 62)
  · have hr:Mk.readBareInstruction s x=(s,3):=by simp [Mk.readBareInstruction,he]
    rw [hr]
    have he' : (x != 62)=true:=by simp at he ⊢;exact he
    go_enter Tryz.func125,Tryz.ntmps125
    go_wp2
    go_ret
    exact ⟨rfl,L,(unhide HM).start⟩
  · have hr:Mk.readBareInstruction s x=(Mk.endInstruction s,0):=by simp [Mk.readBareInstruction,he]
    rw [hr]
    have he' : (x != 62)=false:=by simp at he ⊢;exact he
    go_enter Tryz.func125,Tryz.ntmps125
    go_wp2_with (go_at_call 117;refine (unhide HE).mono ?_;rintro e w1 ⟨rfl,L1,hm1⟩;have HM1:=hide hm1;clear hm1)
    go_ret
    exact ⟨rfl,L1,unhide HM1⟩
theorem readInstruction_any {w:World} {b:Nat} {s:St} {L:Lay} (h:RdL w b s L) (hB:Bd s) (x:Int) (h0:0≤x) (h1:x≤255) :
    Calls Tryz.prog 94 #[.pointer (some ⟨b,0,none⟩),.int .u8 x] w (Does w b s L (Mk.readInstruction s x)):=by
  have hc:=h.cell
  have hf:=h.frozen
  have hlt:=h.lt
  have HM:=hide h
  have HE:=hide (endInstruction_any h hB)
  have HC:=hide (rc_any h hB x h0 h1)
  have HF:=hide (fits_any h 1 hB.c0 (Int.le_trans hB.c1 (by decide)) (by decide) (by decide))
  have HP:=hide (fun n=>put_any (h.drewN n) 63 (by decide) (by decide) (Nat.le_trans hB.hx (by decide)) (Nat.le_trans hB.ht (by decide)) hB.c0 (Int.le_trans hB.c1 (by decide)))
  unfold cellsOf at hc
  clear h hB
  cases e1:(x == 62)
  · have n1:x ≠ 62:=by simpa using e1
    cases e2:(x == 63)
    · have n2:x ≠ 63:=by simpa using e2
      have hr:Mk.readInstruction s x=Mk.readCharacter s x:=by simp [Mk.readInstruction,n1,n2]
      rw [hr]
      clear hr n1 n2 HE HF HP
      go_enter Tryz.func94,Tryz.ntmps94
      go_wp2_with (go_at_call 115;refine (unhide HC).mono ?_;rintro e w1 ⟨rfl,L1,hm1⟩;have HM1:=hide hm1;clear hm1)
      go_ret
      exact ⟨rfl,L1,unhide HM1⟩
    · have n2:x=63:=by simpa using e2
      cases e3:(s.held == [63])
      · have n3:s.held ≠ [63]:=by simpa using e3
        have hr:Mk.readInstruction s x=({ s with held:=[63] },0):=by simp [Mk.readInstruction,n1,n2,n3]
        rw [hr]
        clear hr n1 n2 n3 HE HF HP HC
        go_enter Tryz.func94,Tryz.ntmps94
        go_wp2
        go_ret
        exact ⟨rfl,L,(unhide HM).start.store 15 _ _ rfl rfl rfl⟩
      · have n3:s.held=[63]:=by simpa using e3
        cases e4:Mk.fits s 1
        · have hr:Mk.readInstruction s x=(s,7):=by simp [Mk.readInstruction,n2,n3,e4]
          rw [hr]
          rw [e4] at HF
          clear hr n1 n2 n3 HE HP HC
          go_enter Tryz.func94,Tryz.ntmps94
          go_wp2_with (go_at_call 118;refine (unhide HF).mono ?_;rintro e w' ⟨rfl,n,rfl⟩)
          go_ret
          exact ⟨rfl,L,(unhide HM).start.drewN _⟩
        · have hr:Mk.readInstruction s x=(Mk.put s 63,0):=by simp [Mk.readInstruction,n2,n3,e4]
          rw [hr]
          rw [e4] at HF
          clear hr n1 n2 n3 HE HC
          go_enter Tryz.func94,Tryz.ntmps94
          go_wp2_with (first | (go_at_call 118;refine (unhide HF).mono ?_;rintro e w' ⟨rfl,n,rfl⟩) | (go_at_call 111;refine (unhide HP n).mono ?_;rintro e w' ⟨rfl,L', hm'⟩;have HM' := hide hm'; clear hm'))
          go_ret
          exact ⟨rfl,L', ((unhide HM).start.drewN _).call (unhide HM')⟩
  · have n1:x=62:=by simpa using e1
    cases e3:(s.held == [63])
    · have n3:s.held ≠ [63]:=by simpa using e3
      have hr:Mk.readInstruction s x=Mk.readCharacter s x:=by simp [Mk.readInstruction,n1,n3]
      rw [hr]
      have e2:(x == 63)=false:=by simp [n1]
      clear hr n3 HE HF HP n1
      go_enter Tryz.func94,Tryz.ntmps94
      go_wp2_with (go_at_call 115;refine (unhide HC).mono ?_;rintro e w1 ⟨rfl,L1,hm1⟩;have HM1:=hide hm1;clear hm1)
      go_ret
      exact ⟨rfl,L1,unhide HM1⟩
    · have n3:s.held=[63]:=by simpa using e3
      have hr:Mk.readInstruction s x=(Mk.endInstruction s,0):=by simp [Mk.readInstruction,n1,n3]
      rw [hr]
      clear hr n1 n3 HF HP HC
      go_enter Tryz.func94,Tryz.ntmps94
      go_wp2_with (go_at_call 117;refine (unhide HE).mono ?_;rintro e w1 ⟨rfl,L1,hm1⟩;have HM1:=hide hm1;clear hm1)
      go_ret
      exact ⟨rfl,L1,unhide HM1⟩
theorem readInstructionSpace_any {w:World} {b:Nat} {s:St} {L:Lay} (h:RdL w b s L) (hB:Bd s) (x:Int) (h0:0≤x) (h1:x≤255) :
    Calls Tryz.prog 126 #[.pointer (some ⟨b,0,none⟩),.int .u8 x] w (Does w b s L (Mk.readInstructionSpace s x)):=by
  have hc:=h.cell
  have hf:=h.frozen
  have hlt:=h.lt
  have hm:=h.start.store 4 (.int .i64 11) { s with state:=11 } rfl rfl rfl
  have HM:=hide h
  have HM0:=hide hm
  have HI:=hide (readInstruction_any hm.rd { hB with } x h0 h1)
  unfold cellsOf at hc
  clear h hm hB
  cases es:Mk.isSpace x
  · have hr:Mk.readInstructionSpace s x=Mk.readInstruction { s with state:=11 } x:=by simp [Mk.readInstructionSpace,es]
    rw [hr]
    clear hr
    go_enter Tryz.func126,Tryz.ntmps126
    go_wp2_with (first
      | (go_at_call 113;refine (isSpace_any _ _).mono ?_;rintro e w1 ⟨rfl,rfl⟩)
      | (go_at_call 94;refine (unhide HI).mono ?_;rintro e w1 ⟨rfl,L1,hm1⟩;have HM1:=hide hm1;clear hm1))
    go_ret
    exact ⟨rfl,L1,(unhide HM0).call (unhide HM1)⟩
  · have hr:Mk.readInstructionSpace s x=(s,0):=by simp [Mk.readInstructionSpace,es]
    rw [hr]
    clear hr HI
    go_enter Tryz.func126,Tryz.ntmps126
    go_wp2_with (go_at_call 113;refine (isSpace_any _ _).mono ?_;rintro e w1 ⟨rfl,rfl⟩)
    go_ret
    exact ⟨rfl,L,(unhide HM).start⟩
end Go.Proofs.YtmgfijllcdadgabGreatDoor
