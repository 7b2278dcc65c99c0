/- Small, Told2 -/
import Derived.Test.YtmgfijllcdadgabGreatDoorM27
import Derived.Test.YtmgfijllcdadgabGreatDoorM28
namespace Go.Proofs.YtmgfijllcdadgabGreatDoor
set_option linter.unusedVariables false
set_option linter.unusedSimpArgs false
open Mk (St Bs Ev Att)

theorem small_none (d a t : Int) (n : Bool) : (Mk.close (runL (Mk.make_ d a t n) [] 0 [] []).1).2 = 9 := by rfl
set_option maxRecDepth 10000 in
set_option maxHeartbeats 2000000 in
theorem small_doc (d a t : Int) (n : Bool) (d1 : 1 ≤ d) (a1 : 0 ≤ a) (t1 : 8 ≤ t) : (runL (Mk.make_ d a t n) [] 0 [60, 97, 47, 62] []).2.2 = 0 ∧ (Mk.close (runL (Mk.make_ d a t n) [] 0 [60, 97, 47, 62] []).1).2 = 0 ∧ (runL (Mk.make_ d a t n) [] 0 [60, 97, 47, 62] []).2.1.length = 2 := by
  have h1 : ¬ d ≤ 0 := by omega
  have h2 : ¬ t ≤ 0 := by omega
  have h3 : ¬ t < 1 := by omega
  have h4 : ¬ t ≤ 1 := by omega
  have h5 : ¬ d < 1 := by omega
  have h6 : 0 < t := by omega
  have h7 : 0 < d := by omega
  cases n <;> simp [runL, join, joinOne, h1, h2, h3, h4, h5, h6, h7, Mk.u8,Mk.isSpace,Mk.isLetter,Mk.isDigit,Mk.beginsName,Mk.inName,Mk.digitVal,Mk.digit,Mk.isChar,Mk.encodeI,Mk.encode,Mk.begin_,Mk.canEnd,Mk.nextPart,Mk.refNames,Mk.letterIn,Mk.letter,Mk.refDigit,Mk.digitOrEnd,Mk.refNext,Mk.isOpen,Mk.inText,Mk.fits,Mk.put,Mk.dropToken,Mk.lengthenName,Mk.goOn,Mk.putAll,Mk.readCharacter,Mk.readPart,Mk.setRef,Mk.readReference,Mk.endText,Mk.add,Mk.take,Mk.resume,Mk.endComment,Mk.readDash,Mk.readComment,Mk.isXML,Mk.readInstructionName,Mk.endInstruction,Mk.readBareInstruction,Mk.readInstruction,Mk.readInstructionSpace,Mk.readOutside,Mk.readContent,Mk.readSection,Mk.beginStart,Mk.readLess,Mk.readBang,Mk.sectionMark,Mk.readSectionMark,Mk.wXml,Mk.wXmlns,Mk.colonAt,Mk.hasColon,Mk.prefixOf,Mk.localOf,Mk.isQualified,Mk.isDecl,Mk.valueOf,Mk.isBound,Mk.areQualified,Mk.declareGo,Mk.resolveGo,Mk.declare,Mk.enter,Mk.first,Mk.ofTag,Mk.leave,Mk.spaceOf,Mk.bindAll,Mk.unbindAll,Mk.tellBinds,Mk.tellUnbinds,Mk.endStart,Mk.endAttributes,Mk.tellStart,Mk.tellEnd,Mk.readStartGap,Mk.readStartName,Mk.readStartSpace,Mk.readSlash,Mk.hasAttr,Mk.readAttrSpace,Mk.lengthenAttrName,Mk.readAttrName,Mk.readEquals,Mk.endValue,Mk.readValue,Mk.innermost,Mk.endInnermost,Mk.readEndSpace,Mk.readEndName,Mk.readStartTag,Mk.readMark,Mk.readByte,Mk.movePlace,Mk.readOn,Mk.read,Mk.isDocument,Mk.make_,Mk.feedByte,Mk.feedAll,Mk.feed,Mk.close]
end Go.Proofs.YtmgfijllcdadgabGreatDoor

namespace Go.Proofs.YtmgfijllcdadgabGreatDoor
set_option linter.unusedVariables false
set_option linter.unusedSimpArgs false
open Go.RowKit
open Mk (St Bs Ev Att)

/-- What 'told' asks of an outcome. -/
def ToldOk (len : Nat) (err en at_ : Int) : Prop := (err = 0 ∧ at_ = len ∧ (en = 0 ∨ en = 9)) ∨ (err ≠ 0 ∧ 1 ≤ at_ ∧ at_ ≤ len ∧ en = err)
theorem infoOut : (Tryz.prog.info? 38).map (·.size) = some 7 := by kernel_rfl
/-- An outcome is laid. -/
theorem lay_out (w : World) (v : Value) (err en at_ : Int) (q : Plc) (hv : ∃ a n c, v = .slice a n c) :
    (storeCells ⟨w.heap.size, 0, none⟩ (outCells v err en at_ q).toList 0).run Tryz.prog (w.alloc (.cells #[.slice none 0 0, .int .i64 0, .int .i64 0, .int .i64 0, .int .i64 0, .int .i64 0, .slice none 0 0] 38)) = .ok () (w.alloc (.cells (outCells v err en at_ q) 38)) := by
  obtain ⟨a, n, c, rfl⟩ := hv
  exact run_storeCells_new (P := Tryz.prog) w 38 _ (outCells (.slice a n c) err en at_ q) infoOut rfl (by simp [outCells, Value.oneCell'])

set_option maxHeartbeats 1000000 in
set_option maxRecDepth 100000 in
theorem told_any (d a t : Int) (nm : Bool) (d1 : 1 ≤ d) (d2 : d ≤ 64) (a1 : 0 ≤ a) (a2 : a ≤ 32) (t1 : 8 ≤ t) (t2 : t ≤ 1024) (v : Value) (hv : ∃ a n c, v = .slice a n c) (err en at_ : Int) (q : Plc) (text : Bs) (hok : ToldOk text.length err en at_) (w : World) (hG : Gl w) (hs : 6 < w.heap.size) :
    Calls Tryz.prog 29 #[.agg #[.int .i64 d, .int .i64 a, .int .i64 t, .bool nm], .agg (outCells v err en at_ q), .string ⟨text.toArray⟩] w fun e w' => e = .returned (.bool true) ∧ Below w.heap.size w w' := by
  have HN := hide (fun w hG hs => run_any d a t nm d1 d2 a1 a2 t1 t2 [] [] none 0 (by decide) (by decide) w (fun j hj => by cases hj) (fun c hc => by cases hc) hG hs)
  have HL := hide (fun w hG hs => run_any d a t nm d1 d2 a1 a2 t1 t2 [60, 97, 47, 62] [] none 0 (by decide) (by decide) w (fun j hj => by cases hj) (fun c hc => by cases hc) hG hs)
  have hd := small_doc d a t nm d1 a1 t1
  have hz := small_none d a t nm
  generalize runL (Mk.make_ d a t nm) [] 0 [] [] = r0 at *
  generalize runL (Mk.make_ d a t nm) [] 0 [60, 97, 47, 62] [] = r1 at *
  have HD := hide hd
  have HZ := hide hz
  have HO := hide hok
  have HG := hide hG
  obtain ⟨va, vn, vc, rfl⟩ := hv
  clear hd hz hok hG d1 d2 a1 a2 t1 t2
  unfold outCells
  go_enter Tryz.func29, Tryz.ntmps29
  go_wp2_with fail
  have hb0 := ((Below.refl w.heap.size w).alloc (Nat.le_refl _) (.cells #[.int .i64 d, .int .i64 a, .int .i64 t, .bool nm] 25 (0, 0))).alloc (by simp) (.cells #[.slice va vn vc, .int .i64 err, .int .i64 en, .int .i64 at_, .int .i64 q.ln, .int .i64 q.co, .slice q.oa q.on q.oc] 38 (0, 0))
  refine (unhide HN _ ((unhide HG).below hs hb0) (by simp <;> omega)).mono ?_
  rintro e w1 ⟨v0, fp0, q0, rfl, hg0, hf0, hb1, hpl0⟩
  have hst := lay_out w1 v0 r0.2.2 (Mk.close r0.1).2 r0.1.at_ q0 (by obtain ⟨x, y, h⟩ := hg0.slice; exact ⟨_, _, _, h⟩)
  have hx1 : w1.heap[w.heap.size]? = some (.cells #[.int .i64 d, .int .i64 a, .int .i64 t, .bool nm] 25 (0, 0)) := by
    rw [hb1.block _ (by simp <;> omega), Below.heap_alloc _ _ _ (by simp)]
    exact heap_alloc_new w _
  have hx2 : w1.heap[w.heap.size + 1]? = some (.cells #[.slice va vn vc, .int .i64 err, .int .i64 en, .int .i64 at_, .int .i64 q.ln, .int .i64 q.co, .slice q.oa q.on q.oc] 38 (0, 0)) := by
    rw [hb1.block _ (by simp)]
    exact heap_alloc2_new w _ _
  have hsz1 : w.heap.size + 1 < w1.heap.size := (Array.getElem?_eq_some_iff.1 hx2).1
  have hc1 : ∀ o j, (w1.alloc o).cell? ⟨w.heap.size, j, none⟩ = [.int .i64 d, .int .i64 a, .int .i64 t, .bool nm][j]? := fun o j => by simp only [World.cell?]; rw [Below.heap_alloc _ _ _ (by omega), hx1]; simp
  have hbw1 : Below w.heap.size w w1 := hb0.trans (hb1.mono (by simp <;> omega))
  clear hb0 hb1 hg0 hf0 hpl0
  go_wp2_with fail
  have hb2 := hbw1.alloc (by omega) (.cells (outCells v0 r0.2.2 (Mk.close r0.1).2 r0.1.at_ q0) 38 (0, 0))
  refine (unhide HL _ ((unhide HG).below hs hb2) (by simp; omega)).mono ?_
  rintro e w2 ⟨v1, fp1, q1, rfl, hg1, hf1, hb3, hpl1⟩
  obtain ⟨x1, c1, hv1⟩ := hg1.slice
  rw [(unhide HD).2.2] at hv1
  subst hv1
  rw [(unhide HD).1, (unhide HD).2.1]
  have hst := lay_out w2 (.slice x1 2 c1) 0 0 r1.1.at_ q1 ⟨_, _, _, rfl⟩
  have hb4 := hb2.trans (hb3.mono (by simp <;> omega))
  have hy1 : w2.heap[w.heap.size + 1]? = some (.cells #[.slice va vn vc, .int .i64 err, .int .i64 en, .int .i64 at_, .int .i64 q.ln, .int .i64 q.co, .slice q.oa q.on q.oc] 38 (0, 0)) := by
    rw [hb3.block _ (by simp <;> omega), Below.heap_alloc _ _ _ (by omega)]
    exact hx2
  have hy2 : w2.heap[w1.heap.size]? = some (.cells (outCells v0 r0.2.2 (Mk.close r0.1).2 r0.1.at_ q0) 38 (0, 0)) := by
    rw [hb3.block _ (by simp)]
    exact heap_alloc_new w1 _
  rw [unhide HZ] at hy2
  have hsz2 : w1.heap.size < w2.heap.size := (Array.getElem?_eq_some_iff.1 hy2).1
  clear hpl1 hg1 hf1 hb2 hb3 hx1 hx2 hc1 hbw1 HN HL
  go_wp2_with fail
  refine (fine_yes (.slice x1 2 c1) r1.1.at_ q1 ⟨_, _, _, rfl⟩ _).mono ?_
  rintro e w3 ⟨rfl, hb5⟩
  have hk1 : ∀ j, w3.cell? ⟨w.heap.size + 1, j, none⟩ = [.slice va vn vc, .int .i64 err, .int .i64 en, .int .i64 at_, .int .i64 q.ln, .int .i64 q.co, .slice q.oa q.on q.oc][j]? := fun j => by
    simp only [World.cell?]; rw [hb5.block _ (by simp <;> omega), Below.heap_alloc _ _ _ (by omega), hy1]; simp
  have hk2 : w3.cell? ⟨w1.heap.size, 2, none⟩ = some (.int .i64 9) := by
    simp only [World.cell?]; rw [hb5.block _ (by simp <;> omega), Below.heap_alloc _ _ _ (by omega), hy2]; simp [outCells]
  have hk3 : w3.cell? ⟨w2.heap.size, 0, none⟩ = some (.slice x1 2 c1) := by
    simp only [World.cell?]; rw [hb5.block _ (by simp <;> omega), heap_alloc_new]; simp [outCells]
  have hfin : Below w.heap.size w w3 := (hb4.alloc (by omega) _).trans (hb5.mono (by simp <;> omega))
  clear hb4 hb5 hy1 hy2 hst
  rcases unhide HO with ⟨h1, h2, h3⟩ | ⟨h1, h2, h3, h4⟩
  · have e0 : (err == 0) = true := by simp [h1]
    have e1 : (at_ == (text.length : Int)) = true := by simp [h2]
    rcases h3 with h3 | h3
    · have e2 : (en == 0) = true := by simp [h3]
      clear h1 h2 h3
      go_wp2
      go_ret
      exact ⟨rfl, hfin⟩
    · have e2 : (en == 0) = false := by simp [h3]
      have e3 : (en == 9) = true := by simp [h3]
      clear h1 h2 h3
      go_wp2
      go_ret
      exact ⟨rfl, hfin⟩
  · have e0 : (err == 0) = false := by simp [h1]
    have e1 : decide (1 ≤ at_) = true := by simp [h2]
    have e2 : decide (at_ ≤ (text.length : Int)) = true := by simp [h3]
    have e3 : (en == err) = true := by simp [h4]
    clear h1 h2 h3 h4
    go_wp2
    go_ret
    exact ⟨rfl, hfin⟩
end Go.Proofs.YtmgfijllcdadgabGreatDoor
