/- Disp, Byte -/
import Derived.Test.YtmgfijllcdadgabGreatDoorPM17
import Derived.Test.YtmgfijllcdadgabGreatDoorPM18
import Derived.Test.YtmgfijllcdadgabGreatDoorPM19
set_option linter.unusedVariables false
set_option linter.unusedSimpArgs false
namespace Go.Proofs.YtmgfijllcdadgabGreatDoor
open Go.RowKit
open Mk (St Bs Ev Att)
theorem readStartTag_any {w:World} {b:Nat} {s:St} {L:Lay} (h:RdL w b s L) (hB:Bd s) (x:Int) (h0:0≤x) (h1:x≤255) (hl2:Sl s) :
    Calls Tryz.prog 129 #[.pointer (some ⟨b,0,none⟩),.int .u8 x] w (Does w b s L (Mk.readStartTag s x)):=by
  have hc:=h.cell
  have hlt:=h.lt
  unfold cellsOf at hc
  by_cases p:s.state=12
  ·
    have HX:=hide (readStartName_any h hB x h0 h1 hl2)
    have hr:Mk.readStartTag s x=Mk.readStartName s x:=by simp [Mk.readStartTag,p]
    rw [hr]
    clear hr h hB
    go_enter Tryz.func129,Tryz.ntmps129
    go_wp2_with (go_at_call 151;refine (unhide HX).mono ?_;rintro e w1 ⟨rfl,L1,hm1⟩;have HM1:=hide hm1;clear hm1)
    go_ret
    exact ⟨rfl,L1,unhide HM1⟩
  have e12:(s.state == 12)=false:=by rw [beq_eq_false_iff_ne];exact p
  clear p
  by_cases p:s.state=13
  ·
    have HX:=hide (readStartSpace_any h hB x h0 h1 hl2)
    have hr:Mk.readStartTag s x=Mk.readStartSpace s x:=by simp [Mk.readStartTag,e12,p]
    rw [hr]
    clear hr h hB
    go_enter Tryz.func129,Tryz.ntmps129
    go_wp2_with (go_at_call 152;refine (unhide HX).mono ?_;rintro e w1 ⟨rfl,L1,hm1⟩;have HM1:=hide hm1;clear hm1)
    go_ret
    exact ⟨rfl,L1,unhide HM1⟩
  have e13:(s.state == 13)=false:=by rw [beq_eq_false_iff_ne];exact p
  clear p
  by_cases p:s.state=14
  ·
    have HX:=hide (readAttrName_any h hB x h0 h1)
    have hr:Mk.readStartTag s x=Mk.readAttrName s x:=by simp [Mk.readStartTag,e12,e13,p]
    rw [hr]
    clear hr h hB
    go_enter Tryz.func129,Tryz.ntmps129
    go_wp2_with (go_at_call 153;refine (unhide HX).mono ?_;rintro e w1 ⟨rfl,L1,hm1⟩;have HM1:=hide hm1;clear hm1)
    go_ret
    exact ⟨rfl,L1,unhide HM1⟩
  have e14:(s.state == 14)=false:=by rw [beq_eq_false_iff_ne];exact p
  clear p
  by_cases p:s.state=15
  ·
    have HX:=hide (readAttrSpace_any h hB x h0 h1)
    have hr:Mk.readStartTag s x=Mk.readAttrSpace s x:=by simp [Mk.readStartTag,e12,e13,e14,p]
    rw [hr]
    clear hr h hB
    go_enter Tryz.func129,Tryz.ntmps129
    go_wp2_with (go_at_call 154;refine (unhide HX).mono ?_;rintro e w1 ⟨rfl,L1,hm1⟩;have HM1:=hide hm1;clear hm1)
    go_ret
    exact ⟨rfl,L1,unhide HM1⟩
  have e15:(s.state == 15)=false:=by rw [beq_eq_false_iff_ne];exact p
  clear p
  by_cases p:s.state=16
  ·
    have HX:=hide (readEquals_any h hB x h0 h1)
    have hr:Mk.readStartTag s x=Mk.readEquals s x:=by simp [Mk.readStartTag,e12,e13,e14,e15,p]
    rw [hr]
    clear hr h hB
    go_enter Tryz.func129,Tryz.ntmps129
    go_wp2_with (go_at_call 155;refine (unhide HX).mono ?_;rintro e w1 ⟨rfl,L1,hm1⟩;have HM1:=hide hm1;clear hm1)
    go_ret
    exact ⟨rfl,L1,unhide HM1⟩
  have e16:(s.state == 16)=false:=by rw [beq_eq_false_iff_ne];exact p
  clear p
  by_cases p:s.state=18
  ·
    have HX:=hide (readStartGap_any h hB hl2 x)
    have hr:Mk.readStartTag s x=Mk.readStartGap s x:=by simp [Mk.readStartTag,e12,e13,e14,e15,e16,p]
    rw [hr]
    clear hr h hB
    go_enter Tryz.func129,Tryz.ntmps129
    go_wp2_with (go_at_call 156;refine (unhide HX).mono ?_;rintro e w1 ⟨rfl,L1,hm1⟩;have HM1:=hide hm1;clear hm1)
    go_ret
    exact ⟨rfl,L1,unhide HM1⟩
  have e18:(s.state == 18)=false:=by rw [beq_eq_false_iff_ne];exact p
  clear p
  have HX:=hide (readSlash_any h hB x h0 h1 hl2)
  have hr:Mk.readStartTag s x=Mk.readSlash s x:=by simp [Mk.readStartTag,e12,e13,e14,e15,e16,e18]
  rw [hr]
  clear hr h hB
  go_enter Tryz.func129,Tryz.ntmps129
  go_wp2_with (go_at_call 157;refine (unhide HX).mono ?_;rintro e w1 ⟨rfl,L1,hm1⟩;have HM1:=hide hm1;clear hm1)
  go_ret
  exact ⟨rfl,L1,unhide HM1⟩
theorem readMark_any {w:World} {b:Nat} {s:St} {L:Lay} (h:RdL w b s L) (hB:Bd s) (x:Int) (h0:0≤x) (h1:x≤255) (hl2:Sl s) (hil:(Mk.innermost s).length≤100000000) :
    Calls Tryz.prog 96 #[.pointer (some ⟨b,0,none⟩),.int .u8 x] w (Does w b s L (Mk.readMark s x)):=by
  have hc:=h.cell
  have hlt:=h.lt
  unfold cellsOf at hc
  by_cases p:s.state=3
  ·
    have HX:=hide (readLess_any h hB x h0 h1)
    have hr:Mk.readMark s x=Mk.readLess s x:=by simp [Mk.readMark,p]
    rw [hr]
    clear hr h hB
    go_enter Tryz.func96,Tryz.ntmps96
    go_wp2_with (go_at_call 120;refine (unhide HX).mono ?_;rintro e w1 ⟨rfl,L1,hm1⟩;have HM1:=hide hm1;clear hm1)
    go_ret
    exact ⟨rfl,L1,unhide HM1⟩
  have e3:(s.state == 3)=false:=by rw [beq_eq_false_iff_ne];exact p
  clear p
  by_cases p:s.state=4
  ·
    have HX:=hide (readBang_any h hB x h0 h1)
    have hr:Mk.readMark s x=Mk.readBang s x:=by simp [Mk.readMark,e3,p]
    rw [hr]
    clear hr h hB
    go_enter Tryz.func96,Tryz.ntmps96
    go_wp2_with (go_at_call 121;refine (unhide HX).mono ?_;rintro e w1 ⟨rfl,L1,hm1⟩;have HM1:=hide hm1;clear hm1)
    go_ret
    exact ⟨rfl,L1,unhide HM1⟩
  have e4:(s.state == 4)=false:=by rw [beq_eq_false_iff_ne];exact p
  clear p
  by_cases p:s.state=5
  ·
    have HX:=hide (readDash_any h x)
    have hr:Mk.readMark s x=Mk.readDash s x:=by simp [Mk.readMark,e3,e4,p]
    rw [hr]
    clear hr h hB
    go_enter Tryz.func96,Tryz.ntmps96
    go_wp2_with (go_at_call 122;refine (unhide HX).mono ?_;rintro e w1 ⟨rfl,L1,hm1⟩;have HM1:=hide hm1;clear hm1)
    go_ret
    exact ⟨rfl,L1,unhide HM1⟩
  have e5:(s.state == 5)=false:=by rw [beq_eq_false_iff_ne];exact p
  clear p
  by_cases p:s.state=6
  ·
    have HX:=hide (readSectionMark_any h hB x h0 h1)
    have hr:Mk.readMark s x=Mk.readSectionMark s x:=by simp [Mk.readMark,e3,e4,e5,p]
    rw [hr]
    clear hr h hB
    go_enter Tryz.func96,Tryz.ntmps96
    go_wp2_with (go_at_call 123;refine (unhide HX).mono ?_;rintro e w1 ⟨rfl,L1,hm1⟩;have HM1:=hide hm1;clear hm1)
    go_ret
    exact ⟨rfl,L1,unhide HM1⟩
  have e6:(s.state == 6)=false:=by rw [beq_eq_false_iff_ne];exact p
  clear p
  by_cases p:s.state=8
  ·
    have HX:=hide (readInstructionName_any h hB x h0 h1)
    have hr:Mk.readMark s x=Mk.readInstructionName s x:=by simp [Mk.readMark,e3,e4,e5,e6,p]
    rw [hr]
    clear hr h hB
    go_enter Tryz.func96,Tryz.ntmps96
    go_wp2_with (go_at_call 124;refine (unhide HX).mono ?_;rintro e w1 ⟨rfl,L1,hm1⟩;have HM1:=hide hm1;clear hm1)
    go_ret
    exact ⟨rfl,L1,unhide HM1⟩
  have e8:(s.state == 8)=false:=by rw [beq_eq_false_iff_ne];exact p
  clear p
  by_cases p:s.state=9
  ·
    have HX:=hide (readBareInstruction_any h hB x)
    have hr:Mk.readMark s x=Mk.readBareInstruction s x:=by simp [Mk.readMark,e3,e4,e5,e6,e8,p]
    rw [hr]
    clear hr h hB
    go_enter Tryz.func96,Tryz.ntmps96
    go_wp2_with (go_at_call 125;refine (unhide HX).mono ?_;rintro e w1 ⟨rfl,L1,hm1⟩;have HM1:=hide hm1;clear hm1)
    go_ret
    exact ⟨rfl,L1,unhide HM1⟩
  have e9:(s.state == 9)=false:=by rw [beq_eq_false_iff_ne];exact p
  clear p
  by_cases p:s.state=10
  ·
    have HX:=hide (readInstructionSpace_any h hB x h0 h1)
    have hr:Mk.readMark s x=Mk.readInstructionSpace s x:=by simp [Mk.readMark,e3,e4,e5,e6,e8,e9,p]
    rw [hr]
    clear hr h hB
    go_enter Tryz.func96,Tryz.ntmps96
    go_wp2_with (go_at_call 126;refine (unhide HX).mono ?_;rintro e w1 ⟨rfl,L1,hm1⟩;have HM1:=hide hm1;clear hm1)
    go_ret
    exact ⟨rfl,L1,unhide HM1⟩
  have e10:(s.state == 10)=false:=by rw [beq_eq_false_iff_ne];exact p
  clear p
  by_cases p:s.state=20
  ·
    have HX:=hide (readEndName_any h hB hl2 x hil)
    have hr:Mk.readMark s x=Mk.readEndName s x:=by simp [Mk.readMark,e3,e4,e5,e6,e8,e9,e10,p]
    rw [hr]
    clear hr h hB
    go_enter Tryz.func96,Tryz.ntmps96
    go_wp2_with (go_at_call 127;refine (unhide HX).mono ?_;rintro e w1 ⟨rfl,L1,hm1⟩;have HM1:=hide hm1;clear hm1)
    go_ret
    exact ⟨rfl,L1,unhide HM1⟩
  have e20:(s.state == 20)=false:=by rw [beq_eq_false_iff_ne];exact p
  clear p
  by_cases p:s.state=21
  ·
    have HX:=hide (readEndSpace_any h hB hl2 hil x)
    have hr:Mk.readMark s x=Mk.readEndSpace s x:=by simp [Mk.readMark,e3,e4,e5,e6,e8,e9,e10,e20,p]
    rw [hr]
    clear hr h hB
    go_enter Tryz.func96,Tryz.ntmps96
    go_wp2_with (go_at_call 128;refine (unhide HX).mono ?_;rintro e w1 ⟨rfl,L1,hm1⟩;have HM1:=hide hm1;clear hm1)
    go_ret
    exact ⟨rfl,L1,unhide HM1⟩
  have e21:(s.state == 21)=false:=by rw [beq_eq_false_iff_ne];exact p
  clear p
  have HX:=hide (readStartTag_any h hB x h0 h1 hl2)
  have hr:Mk.readMark s x=Mk.readStartTag s x:=by simp [Mk.readMark,e3,e4,e5,e6,e8,e9,e10,e20,e21]
  rw [hr]
  clear hr h hB
  go_enter Tryz.func96,Tryz.ntmps96
  go_wp2_with (go_at_call 129;refine (unhide HX).mono ?_;rintro e w1 ⟨rfl,L1,hm1⟩;have HM1:=hide hm1;clear hm1)
  go_ret
  exact ⟨rfl,L1,unhide HM1⟩
theorem Mv.gl2 {w0 w:World} {b:Nat} {f0:List Nat} {s:St} {L:Lay} (m:Mv w0 b f0 w s L) (hG:Gl w0) (hb:6 + 1<b) (hs:6<w0.heap.size) (hf:∀ k ∈ f0,b≤k + 1):Gl w:=by
  have h0:w.heap[5]? = w0.heap[5]? := m.fr.block 5 (by omega) (by omega) (fun h=>by have:=hf 5 h;omega)
  have h1:w.heap[6]? = w0.heap[6]? := m.fr.block 6 hs (by omega) (fun h=>by have:=hf 6 h;omega)
  exact ⟨fun i=>by rw [← hG.names i];exact World.cell?_of_block (a:=⟨5,i,none⟩) h0,fun i=>by rw [← hG.named i];exact World.cell?_of_block (a:=⟨6,i,none⟩) h1⟩
theorem readByte_any {w:World} {b:Nat} {s:St} {L:Lay} (h:RdL w b s L) (hB:Bd s) (x:Int) (h0:0≤x) (h1:x≤255) (hl2:Sl s) (hil:(Mk.innermost s).length≤100000000) (hG:Gl w) (hb2:6<b) :
    Calls Tryz.prog 73 #[.pointer (some ⟨b,0,none⟩),.int .u8 x] w (Does w b s L (Mk.readByte s x)):=by
  have hc:=h.cell
  have hlt:=h.lt
  unfold cellsOf at hc
  have hm:=h.start.alloc (.cells #[.int .i64 s.rp,.string ⟨s.rn.toArray⟩,.int .i64 s.rc] 101)
  have hG2:Gl (w.alloc (.cells #[.int .i64 s.rp,.string ⟨s.rn.toArray⟩,.int .i64 s.rc] 101)):=hG.below (by omega) ((Below.refl _ _).alloc (Nat.le_refl _) _)
  have HM:=hide hm
  have HO:=hide (fun w=>isOpen_any s.rp s.rn s.rc w)
  by_cases pl:0<s.pl
  · have HX:=hide (readPart_any h x h0 h1 hB.pt pl (Nat.le_trans hB.hx (by decide)) (Nat.le_trans hB.ht (by decide)) hB.c0 (Int.le_trans hB.c1 (by decide)))
    have hr:Mk.readByte s x=Mk.readPart s x:=by simp [Mk.readByte,pl]
    rw [hr]
    clear hr h hB hm hG hG2 HO HM
    go_enter Tryz.func73,Tryz.ntmps73
    go_wp2_with (go_at_call 87;refine (unhide HX).mono ?_;rintro e w1 ⟨rfl,L1,hm1⟩;have HM1:=hide hm1;clear hm1)
    go_ret
    exact ⟨rfl,L1,unhide HM1⟩
  have epl:decide (0<s.pl)=false:=by simpa using pl
  by_cases eo1:Mk.isOpen s.rp=true
  · have eo:Mk.isOpen s.rp=true:=eo1
    clear eo1
    have HX:=hide (readReference_any hm.rd x h0 h1 hG2 hb2 (Nat.le_trans hB.rn (by decide)) hB.r0 hB.r1 (Nat.le_trans hB.hx (by decide)) (Nat.le_trans hB.ht (by decide)) hB.c0 (Int.le_trans hB.c1 (by decide)) (fun r hr=>⟨(inv_refs h0 hB.r0 hr).1,(inv_refs h0 hB.r0 hr).2.1⟩))
    have hr:Mk.readByte s x=Mk.readReference s x:=by simp [Mk.readByte,pl,eo]
    rw [hr]
    rw [eo] at HO
    clear hr h hB hm hG hG2 pl
    go_enter Tryz.func73,Tryz.ntmps73
    go_wp2_with (first | (go_at_call 88;refine (unhide HO _).mono ?_;rintro e w2 ⟨rfl,rfl⟩) | (go_at_call 89;refine (unhide HX).mono ?_;rintro e w1 ⟨rfl,L1,hm1⟩;have HM1:=hide hm1;clear hm1))
    go_ret
    exact ⟨rfl,L1,(unhide HM).call (unhide HM1)⟩
  have eo:Mk.isOpen s.rp=false:=by simpa using eo1
  clear eo1
  rw [eo] at HO
  by_cases p:s.state=0
  ·
    have HX:=hide (readOutside_any hm.rd x)
    have hr:Mk.readByte s x=Mk.readOutside s x:=by simp [Mk.readByte,pl,eo,p]
    rw [hr]
    clear hr h hB hm hG hG2 pl
    go_enter Tryz.func73,Tryz.ntmps73
    go_wp2_with (first | (go_at_call 88;refine (unhide HO _).mono ?_;rintro e w2 ⟨rfl,rfl⟩) | (go_at_call 90;refine (unhide HX).mono ?_;rintro e w1 ⟨rfl,L1,hm1⟩;have HM1:=hide hm1;clear hm1))
    go_ret
    exact ⟨rfl,L1,(unhide HM).call (unhide HM1)⟩
  have e0:(s.state == 0)=false:=by rw [beq_eq_false_iff_ne];exact p
  clear p
  by_cases p:s.state=1
  ·
    have HX:=hide (readContent_any hm.rd hB x h0 h1)
    have hr:Mk.readByte s x=Mk.readContent s x:=by simp [Mk.readByte,pl,eo,e0,p]
    rw [hr]
    clear hr h hB hm hG hG2 pl
    go_enter Tryz.func73,Tryz.ntmps73
    go_wp2_with (first | (go_at_call 88;refine (unhide HO _).mono ?_;rintro e w2 ⟨rfl,rfl⟩) | (go_at_call 91;refine (unhide HX).mono ?_;rintro e w1 ⟨rfl,L1,hm1⟩;have HM1:=hide hm1;clear hm1))
    go_ret
    exact ⟨rfl,L1,(unhide HM).call (unhide HM1)⟩
  have e1:(s.state == 1)=false:=by rw [beq_eq_false_iff_ne];exact p
  clear p
  by_cases p:s.state=2
  ·
    have HX:=hide (readSection_any hm.rd hB x h0 h1)
    have hr:Mk.readByte s x=Mk.readSection s x:=by simp [Mk.readByte,pl,eo,e0,e1,p]
    rw [hr]
    clear hr h hB hm hG hG2 pl
    go_enter Tryz.func73,Tryz.ntmps73
    go_wp2_with (first | (go_at_call 88;refine (unhide HO _).mono ?_;rintro e w2 ⟨rfl,rfl⟩) | (go_at_call 92;refine (unhide HX).mono ?_;rintro e w1 ⟨rfl,L1,hm1⟩;have HM1:=hide hm1;clear hm1))
    go_ret
    exact ⟨rfl,L1,(unhide HM).call (unhide HM1)⟩
  have e2:(s.state == 2)=false:=by rw [beq_eq_false_iff_ne];exact p
  clear p
  by_cases p:s.state=7
  ·
    have HX:=hide (readComment_any hm.rd hB x h0 h1)
    have hr:Mk.readByte s x=Mk.readComment s x:=by simp [Mk.readByte,pl,eo,e0,e1,e2,p]
    rw [hr]
    clear hr h hB hm hG hG2 pl
    go_enter Tryz.func73,Tryz.ntmps73
    go_wp2_with (first | (go_at_call 88;refine (unhide HO _).mono ?_;rintro e w2 ⟨rfl,rfl⟩) | (go_at_call 93;refine (unhide HX).mono ?_;rintro e w1 ⟨rfl,L1,hm1⟩;have HM1:=hide hm1;clear hm1))
    go_ret
    exact ⟨rfl,L1,(unhide HM).call (unhide HM1)⟩
  have e7:(s.state == 7)=false:=by rw [beq_eq_false_iff_ne];exact p
  clear p
  by_cases p:s.state=11
  ·
    have HX:=hide (readInstruction_any hm.rd hB x h0 h1)
    have hr:Mk.readByte s x=Mk.readInstruction s x:=by simp [Mk.readByte,pl,eo,e0,e1,e2,e7,p]
    rw [hr]
    clear hr h hB hm hG hG2 pl
    go_enter Tryz.func73,Tryz.ntmps73
    go_wp2_with (first | (go_at_call 88;refine (unhide HO _).mono ?_;rintro e w2 ⟨rfl,rfl⟩) | (go_at_call 94;refine (unhide HX).mono ?_;rintro e w1 ⟨rfl,L1,hm1⟩;have HM1:=hide hm1;clear hm1))
    go_ret
    exact ⟨rfl,L1,(unhide HM).call (unhide HM1)⟩
  have e11:(s.state == 11)=false:=by rw [beq_eq_false_iff_ne];exact p
  clear p
  by_cases p:s.state=17
  ·
    have HX:=hide (readValue_any hm.rd hB x h0 h1)
    have hr:Mk.readByte s x=Mk.readValue s x:=by simp [Mk.readByte,pl,eo,e0,e1,e2,e7,e11,p]
    rw [hr]
    clear hr h hB hm hG hG2 pl
    go_enter Tryz.func73,Tryz.ntmps73
    go_wp2_with (first | (go_at_call 88;refine (unhide HO _).mono ?_;rintro e w2 ⟨rfl,rfl⟩) | (go_at_call 95;refine (unhide HX).mono ?_;rintro e w1 ⟨rfl,L1,hm1⟩;have HM1:=hide hm1;clear hm1))
    go_ret
    exact ⟨rfl,L1,(unhide HM).call (unhide HM1)⟩
  have e17:(s.state == 17)=false:=by rw [beq_eq_false_iff_ne];exact p
  clear p
  have HX:=hide (readMark_any hm.rd hB x h0 h1 hl2 hil)
  have hr:Mk.readByte s x=Mk.readMark s x:=by simp [Mk.readByte,pl,eo,e0,e1,e2,e7,e11,e17]
  rw [hr]
  clear hr h hB hm hG hG2 pl
  go_enter Tryz.func73,Tryz.ntmps73
  go_wp2_with (first | (go_at_call 88;refine (unhide HO _).mono ?_;rintro e w2 ⟨rfl,rfl⟩) | (go_at_call 96;refine (unhide HX).mono ?_;rintro e w1 ⟨rfl,L1,hm1⟩;have HM1:=hide hm1;clear hm1))
  go_ret
  exact ⟨rfl,L1,(unhide HM).call (unhide HM1)⟩
theorem movePlace_any {w:World} {b:Nat} {s:St} {L:Lay} (h:RdL w b s L) (x:Int) (l0:0≤s.line) (l1:s.line≤1000000000) (c0:0≤s.column) (c1:s.column≤1000000000) :
    Calls Tryz.prog 74 #[.pointer (some ⟨b,0,none⟩),.int .u8 x] w fun e w' => e = .returned (.tuple #[])∧Mv w b (foot s L) w' (Mk.movePlace s x) L:=by
  have hc:=h.cell
  have hf:=h.frozen
  have hlt:=h.lt
  have HM:=hide h
  unfold cellsOf at hc
  clear h
  cases e1:(x == 10)
  · cases e2:(s.pl == 0)
    · have hr:Mk.movePlace s x=s:=by simp [Mk.movePlace,e1,e2]
      rw [hr]
      clear hr
      go_enter Tryz.func74,Tryz.ntmps74
      go_wp2
      go_end0
      exact ⟨rfl,(unhide HM).start⟩
    · have hr:Mk.movePlace s x={ s with column:=s.column + 1 }:=by simp [Mk.movePlace,e1,e2]
      rw [hr]
      clear hr
      go_enter Tryz.func74,Tryz.ntmps74
      go_wp2
      go_end0
      exact ⟨rfl,(unhide HM).start.store 25 _ _ rfl rfl rfl⟩
  · have hr:Mk.movePlace s x={ s with line:=s.line + 1,column:=1 }:=by simp [Mk.movePlace,e1]
    rw [hr]
    clear hr
    go_enter Tryz.func74,Tryz.ntmps74
    go_wp2
    go_end0
    exact ⟨rfl,((unhide HM).start.store 24 _ { s with line:=s.line + 1 } rfl rfl rfl).store 25 _ _ rfl rfl rfl⟩
theorem read_any {w:World} {b k:Nat} {s:St} {L:Lay} (h:RdL w b s L) (hI:Inv k s) (hk:k≤90000000) (x:Int) (h0:0≤x) (h1:x≤255) (hG:Gl w) (hb2:6 + 1<b) :
    Calls Tryz.prog 57 #[.pointer (some ⟨b,0,none⟩),.int .u8 x] w (Does w b s L (Mk.read s x)):=by
  have hc:=h.cell
  have hf:=h.frozen
  have hlt:=h.lt
  have hfl:=h.foot_lt
  have hmt:=h.start.store 23 (.bool true) { s with ret:=true } rfl rfl rfl
  have hmf:=h.start.store 23 (.bool false) { s with ret:=false } rfl rfl rfl
  have hGt:=hmt.gl2 hG hb2 (by omega) (fun k hk=>(hfl k hk).1)
  have hGf:=hmf.gl2 hG hb2 (by omega) (fun k hk=>(hfl k hk).1)
  have hl:=hI.hl
  have hin:=innermost_len hI
  have HT:=hide (readByte_any hmt.rd (Inv.bd (s:={ s with ret:=true }) (k:=k) { hI with } (by omega)) 10 (by decide) (by decide) ⟨by show s.list.length + 500≤_;omega,by show s.bnd.length + 40≤_;have:=hI.hb;omega,by show s.cnt.length + 1≤_;have:=hI.hc;omega⟩ (by show (Mk.innermost s).length≤_;omega) hGt (by omega))
  have HF:=hide (readByte_any hmf.rd (Inv.bd (s:={ s with ret:=false }) (k:=k) { hI with } (by omega)) x h0 h1 ⟨by show s.list.length + 500≤_;omega,by show s.bnd.length + 40≤_;have:=hI.hb;omega,by show s.cnt.length + 1≤_;have:=hI.hc;omega⟩ (by show (Mk.innermost s).length≤_;omega) hGf (by omega))
  have it:=inv_readByte (k:=k) (s:={ s with ret:=true }) { hI with } 10 (by decide) (by decide)
  have if_:=inv_readByte (k:=k) (s:={ s with ret:=false }) { hI with } x h0 h1
  have HPT:=hide (fun (W:World) (L' : Lay) (hW:RdL W b (Mk.readByte { s with ret:=true } 10).1 L')=>movePlace_any hW 10 it.l0 (by have:=it.l1;omega) it.cl0 (by have:=it.cl1;omega))
  have HPF:=hide (fun (W:World) (L' : Lay) (hW:RdL W b (Mk.readByte { s with ret:=false } x).1 L')=>movePlace_any hW x if_.l0 (by have:=if_.l1;omega) if_.cl0 (by have:=if_.cl1;omega))
  have HMT:=hide hmt
  have HMF:=hide hmf
  have hRT:Mk.readOn { s with ret:=true } 10=if (Mk.readByte { s with ret:=true } 10).2=0 then (Mk.movePlace (Mk.readByte { s with ret:=true } 10).1 10,0) else Mk.readByte { s with ret:=true } 10:=rfl
  have hRF:Mk.readOn { s with ret:=false } x=if (Mk.readByte { s with ret:=false } x).2=0 then (Mk.movePlace (Mk.readByte { s with ret:=false } x).1 x,0) else Mk.readByte { s with ret:=false } x:=rfl
  unfold cellsOf at hc
  clear h hI hG hmt hmf hGt hGf hfl hl hin it if_
  generalize Mk.readByte { s with ret:=true } 10=rt at *
  generalize Mk.readByte { s with ret:=false } x=rf at *
  obtain ⟨rt1,rt2⟩:=rt
  obtain ⟨rf1,rf2⟩:=rf
  cases e1:(x == 10)
  · have n1:x ≠ 10:=by simpa using e1
    cases e2:(x == 13)
    · have n2:x ≠ 13:=by simpa using e2
      have hr:Mk.read s x=Mk.readOn { s with ret:=false } x:=by simp [Mk.read,n1,n2]
      rw [hr,hRF]
      clear hr n1 n2 HT HPT hRT hRF
      cases e3:(rf2 == 0)
      · have n3:rf2 ≠ 0:=by simpa using e3
        rw [if_neg n3]
        clear n3
        go_enter Tryz.func57,Tryz.ntmps57
        go_wp2_with (go_at_call 73;refine (unhide HF).mono ?_;rintro e w1 ⟨rfl,L1,hm1⟩;have HM1:=hide hm1;clear hm1)
        go_ret
        exact ⟨rfl,L1,(unhide HMF).call (unhide HM1)⟩
      · have n3:rf2=0:=by simpa using e3
        rw [if_pos n3]
        subst n3
        go_enter Tryz.func57,Tryz.ntmps57
        go_wp2_with (first
          | (go_at_call 73;refine (unhide HF).mono ?_;rintro e w1 ⟨rfl,L1,hm1⟩;have HM1:=hide hm1;clear hm1)
          | (go_at_call 74;refine (unhide HPF _ _ (unhide HM1).rd).mono ?_;rintro e w2 ⟨rfl,hm2⟩;have HM2:=hide hm2;clear hm2))
        go_ret
        exact ⟨rfl,L1,((unhide HMF).call (unhide HM1)).call (unhide HM2)⟩
    · have n2:x=13:=by simpa using e2
      have hr:Mk.read s x=Mk.readOn { s with ret:=true } 10:=by simp [Mk.read,n2]
      rw [hr,hRT]
      clear hr n1 n2 HF HPF hRT hRF
      cases e3:(rt2 == 0)
      · have n3:rt2 ≠ 0:=by simpa using e3
        rw [if_neg n3]
        clear n3
        go_enter Tryz.func57,Tryz.ntmps57
        go_wp2_with (go_at_call 73;refine (unhide HT).mono ?_;rintro e w1 ⟨rfl,L1,hm1⟩;have HM1:=hide hm1;clear hm1)
        go_ret
        exact ⟨rfl,L1,(unhide HMT).call (unhide HM1)⟩
      · have n3:rt2=0:=by simpa using e3
        rw [if_pos n3]
        subst n3
        go_enter Tryz.func57,Tryz.ntmps57
        go_wp2_with (first
          | (go_at_call 73;refine (unhide HT).mono ?_;rintro e w1 ⟨rfl,L1,hm1⟩;have HM1:=hide hm1;clear hm1)
          | (go_at_call 74;refine (unhide HPT _ _ (unhide HM1).rd).mono ?_;rintro e w2 ⟨rfl,hm2⟩;have HM2:=hide hm2;clear hm2))
        go_ret
        exact ⟨rfl,L1,((unhide HMT).call (unhide HM1)).call (unhide HM2)⟩
  · have n1:x=10:=by simpa using e1
    have e2:(x == 13)=false:=by simp [n1]
    cases e4:s.ret
    · have hr:Mk.read s x=Mk.readOn { s with ret:=false } x:=by simp [Mk.read,n1,e4]
      rw [hr,hRF]
      clear hr n1 HT HPT hRT hRF
      cases e3:(rf2 == 0)
      · have n3:rf2 ≠ 0:=by simpa using e3
        rw [if_neg n3]
        clear n3
        go_enter Tryz.func57,Tryz.ntmps57
        go_wp2_with (go_at_call 73;refine (unhide HF).mono ?_;rintro e w1 ⟨rfl,L1,hm1⟩;have HM1:=hide hm1;clear hm1)
        go_ret
        exact ⟨rfl,L1,(unhide HMF).call (unhide HM1)⟩
      · have n3:rf2=0:=by simpa using e3
        rw [if_pos n3]
        subst n3
        go_enter Tryz.func57,Tryz.ntmps57
        go_wp2_with (first
          | (go_at_call 73;refine (unhide HF).mono ?_;rintro e w1 ⟨rfl,L1,hm1⟩;have HM1:=hide hm1;clear hm1)
          | (go_at_call 74;refine (unhide HPF _ _ (unhide HM1).rd).mono ?_;rintro e w2 ⟨rfl,hm2⟩;have HM2:=hide hm2;clear hm2))
        go_ret
        exact ⟨rfl,L1,((unhide HMF).call (unhide HM1)).call (unhide HM2)⟩
    · have hr:Mk.read s x=({ s with ret:=false },0):=by simp [Mk.read,n1,e4]
      rw [hr]
      clear hr n1 HT HF HPT HPF hRT hRF
      go_enter Tryz.func57,Tryz.ntmps57
      go_wp2
      go_ret
      exact ⟨rfl,L,unhide HMF⟩
end Go.Proofs.YtmgfijllcdadgabGreatDoor
