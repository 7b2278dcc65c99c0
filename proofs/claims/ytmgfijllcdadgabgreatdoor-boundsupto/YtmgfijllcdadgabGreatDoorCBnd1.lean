/- Bnd1, Bnd2, Bnd3, Bnd4 -/
import Derived.Test.YtmgfijllcdadgabGreatDoorCNest5
namespace Go.Proofs.YtmgfijllcdadgabGreatDoor
set_option linter.unusedVariables false
set_option linter.unusedSimpArgs false
open Mk (St Bs Ev Att)

def sb (d a t : Int) (s : St) : St := { s with od := d, oa := a, ot := t }
variable {d a t : Int}
theorem sb_put (s : St) (c : Int) : Mk.put (sb d a t s) c = sb d a t (Mk.put s c) := by
  show (if Mk.inText s then _ else _) = sb d a t (if Mk.inText s then _ else _)
  split <;> rfl
theorem sb_putAll : ∀ (l : Bs) (s : St), Mk.putAll (sb d a t s) l = sb d a t (Mk.putAll s l)
  | [], s => rfl
  | x :: r, s => by
    show Mk.putAll (Mk.put (sb d a t s) x.toNat) r = sb d a t (Mk.putAll (Mk.put s x.toNat) r)
    rw [sb_put, sb_putAll r]
theorem sb_goOn (s : St) (p : Int × Int) : Mk.goOn (sb d a t s) p = sb d a t (Mk.goOn s p) := by
  unfold Mk.goOn
  split
  · exact sb_put { s with pc := p.1, pl := p.2 } p.1
  · rfl
theorem sb_readPart (s : St) (b : Int) : Mk.readPart (sb d a t s) b = (sb d a t (Mk.readPart s b).1, (Mk.readPart s b).2) := by
  unfold Mk.readPart
  show (match Mk.nextPart s.pc s.pl b with | none => _ | some p => _) = _
  cases Mk.nextPart s.pc s.pl b with
  | none => rfl
  | some p => show (Mk.goOn (sb d a t s) p, (0 : Int)) = _; rw [sb_goOn]
theorem sb_readReference (s : St) (b : Int) : Mk.readReference (sb d a t s) b = (sb d a t (Mk.readReference s b).1, (Mk.readReference s b).2) := by
  unfold Mk.readReference
  show (match Mk.refNext ⟨s.rp, s.rn, s.rc⟩ b with | none => _ | some r => _) = _
  cases Mk.refNext ⟨s.rp, s.rn, s.rc⟩ b with
  | none => rfl
  | some r =>
    dsimp only
    split
    · rfl
    · show (Mk.put (sb d a t (Mk.setRef s r)) r.code, (0 : Int)) = _
      rw [sb_put]
theorem sb_endText (s : St) : Mk.endText (sb d a t s) = sb d a t (Mk.endText s) := by
  unfold Mk.endText
  show (if s.text.length = 0 then _ else _) = _
  split <;> rfl
theorem sb_add (s : St) (e : Ev) : Mk.add (sb d a t s) e = sb d a t (Mk.add s e) := by
  unfold Mk.add
  rw [sb_endText]
  rfl
theorem sb_endComment (s : St) : Mk.endComment (sb d a t s) = sb d a t (Mk.endComment s) := by
  unfold Mk.endComment
  have := sb_add (d := d) (a := a) (t := t) (Mk.dropToken { s with held := [] }) ⟨4, [], [], s.token, []⟩
  show Mk.resume (Mk.add (sb d a t (Mk.dropToken { s with held := [] })) ⟨4, [], [], s.token, []⟩) = _
  rw [this]
  rfl
theorem sb_endInstruction (s : St) : Mk.endInstruction (sb d a t s) = sb d a t (Mk.endInstruction s) := by
  unfold Mk.endInstruction
  have := sb_add (d := d) (a := a) (t := t) (Mk.dropToken { s with held := [] }) ⟨5, s.name, [], s.token, []⟩
  show Mk.resume { Mk.add (sb d a t (Mk.dropToken { s with held := [] })) ⟨5, s.name, [], s.token, []⟩ with name := [] } = _
  rw [this]
  rfl
theorem sb_tellStart {s : St} (h : s.cnt = []) (ho : s.on = false) : Mk.tellStart (sb d a t s) = sb d a t (Mk.tellStart s) := by
  rw [tellStart_off h ho, tellStart_off (s := sb d a t s) h ho]
  have := sb_add (d := d) (a := a) (t := t) s ⟨1, s.name, [], [], s.attrs⟩
  show { Mk.add (sb d a t s) ⟨1, s.name, [], [], s.attrs⟩ with attrs := [] } = _
  rw [this]
  rfl
theorem tellEnd_off {s : St} (h : s.cnt = []) (ho : s.on = false) (n : Bs) : Mk.tellEnd s n = Mk.resume { Mk.leave (Mk.add s ⟨2, n, [], [], []⟩) with over := decide (s.opn.length = 0) } := by
  have e0 := add_core s ⟨2, n, [], [], []⟩
  unfold Mk.tellEnd Mk.tellUnbinds Mk.spaceOf
  rw [ho]
  have hc : (Mk.add s ⟨2, n, [], [], []⟩).cnt = [] := by rw [e0]; exact h
  rw [if_neg (by decide), ofTag_nil hc]
  rfl
theorem sb_tellEnd {s : St} (h : s.cnt = []) (ho : s.on = false) (n : Bs) : Mk.tellEnd (sb d a t s) n = sb d a t (Mk.tellEnd s n) := by
  rw [tellEnd_off h ho, tellEnd_off (s := sb d a t s) h ho, sb_add]
  rfl
theorem sb_endStart {s : St} (h : s.cnt = []) (ho : s.on = false) (b : Int) : Mk.endStart (sb d a t s) b = sb d a t (Mk.endStart s b) := by
  unfold Mk.endStart
  split
  · rfl
  · rw [sb_tellStart h ho]; rfl
theorem sb_readStartGap {s : St} (h : s.cnt = []) (ho : s.on = false) (b : Int) : Mk.readStartGap (sb d a t s) b = (sb d a t (Mk.readStartGap s b).1, (Mk.readStartGap s b).2) := by
  unfold Mk.readStartGap
  split
  · rfl
  · split
    · unfold Mk.endAttributes
      have : (sb d a t s).on = false := ho
      rw [this, ho]
      show (Mk.endStart (sb d a t s) b, (0 : Int)) = _
      rw [sb_endStart h ho]
      rfl
    · rfl
theorem sb_readSlash {s : St} (h : s.cnt = []) (ho : s.on = false) (b : Int) : Mk.readSlash (sb d a t s) b = (sb d a t (Mk.readSlash s b).1, (Mk.readSlash s b).2) := by
  unfold Mk.readSlash
  split
  · rfl
  · have hc := tellStart_core s
    rw [sb_tellStart h ho]
    show ({ Mk.tellEnd (sb d a t (Mk.tellStart s)) s.name with name := [] }, (0 : Int)) = _
    rw [sb_tellEnd (by rw [hc]; exact h) (by rw [hc]; exact ho)]
    rfl
theorem sb_readEndSpace {s : St} (h : s.cnt = []) (ho : s.on = false) (b : Int) : Mk.readEndSpace (sb d a t s) b = (sb d a t (Mk.readEndSpace s b).1, (Mk.readEndSpace s b).2) := by
  unfold Mk.readEndSpace
  split
  · rfl
  · split
    · unfold Mk.endInnermost
      have := sb_tellEnd (d := d) (a := a) (t := t) (s := { s with opn := s.opn.dropLast }) h ho (Mk.innermost s)
      show (Mk.tellEnd (sb d a t { s with opn := s.opn.dropLast }) (Mk.innermost s), (0 : Int)) = _
      rw [this]
    · rfl
theorem sb_readEndName {s : St} (h : s.cnt = []) (ho : s.on = false) (b : Int) : Mk.readEndName (sb d a t s) b = (sb d a t (Mk.readEndName s b).1, (Mk.readEndName s b).2) := by
  unfold Mk.readEndName
  show (if s.matched < (Mk.innermost s).length then (if ((Mk.innermost s).getD s.matched.toNat 0).toNat ≠ b then _ else _) else _) = _
  split
  · split <;> rfl
  · split
    · rfl
    · exact sb_readEndSpace h ho b
theorem sb_readOutside (s : St) (b : Int) : Mk.readOutside (sb d a t s) b = (sb d a t (Mk.readOutside s b).1, (Mk.readOutside s b).2) := by
  unfold Mk.readOutside
  split
  · rfl
  · split <;> rfl
theorem sb_readBang (s : St) (b : Int) : Mk.readBang (sb d a t s) b = (sb d a t (Mk.readBang s b).1, (Mk.readBang s b).2) := by
  unfold Mk.readBang
  show (if _ then _ else if b = 91 ∧ 0 < s.opn.length then _ else _) = _
  split
  · rfl
  · split <;> rfl
theorem sb_readDash (s : St) (b : Int) : Mk.readDash (sb d a t s) b = (sb d a t (Mk.readDash s b).1, (Mk.readDash s b).2) := by
  unfold Mk.readDash
  split <;> rfl
theorem sb_readSectionMark (s : St) (b : Int) : Mk.readSectionMark (sb d a t s) b = (sb d a t (Mk.readSectionMark s b).1, (Mk.readSectionMark s b).2) := by
  unfold Mk.readSectionMark
  show (if 6 ≤ s.matched ∨ Mk.sectionMark.getD s.matched.toNat 0 ≠ b then _ else if s.matched + 1 = 6 then _ else _) = _
  split
  · rfl
  · split <;> rfl
theorem sb_readBareInstruction (s : St) (b : Int) : Mk.readBareInstruction (sb d a t s) b = (sb d a t (Mk.readBareInstruction s b).1, (Mk.readBareInstruction s b).2) := by
  unfold Mk.readBareInstruction
  split
  · rw [sb_endInstruction]
  · rfl
theorem sb_readAttrSpace (s : St) (b : Int) : Mk.readAttrSpace (sb d a t s) b = (sb d a t (Mk.readAttrSpace s b).1, (Mk.readAttrSpace s b).2) := by
  unfold Mk.readAttrSpace
  split
  · rfl
  · split <;> rfl
theorem sb_readEquals (s : St) (b : Int) : Mk.readEquals (sb d a t s) b = (sb d a t (Mk.readEquals s b).1, (Mk.readEquals s b).2) := by
  unfold Mk.readEquals
  split
  · rfl
  · split <;> rfl
/-- In text nothing is measured. -/
theorem sb_readCharacter_in {s : St} (h : Mk.inText s = true) (b : Int) : Mk.readCharacter (sb d a t s) b = (sb d a t (Mk.readCharacter s b).1, (Mk.readCharacter s b).2) := by
  unfold Mk.readCharacter
  have f1 : Mk.fits s (s.held.length + 1) = true := by unfold Mk.fits; rw [h]; rfl
  have f2 : Mk.fits (sb d a t s) ((sb d a t s).held.length + 1) = true := by unfold Mk.fits; have : Mk.inText (sb d a t s) = true := h; rw [this]; rfl
  cases Mk.begin_ b with
  | none => rfl
  | some p =>
    dsimp only
    rw [if_pos f1, if_pos f2]
    have e1 := sb_putAll (d := d) (a := a) (t := t) s.held s
    have e2 := sb_goOn (d := d) (a := a) (t := t) { Mk.putAll s s.held with held := [] } p
    show (Mk.goOn { Mk.putAll (sb d a t s) s.held with held := [] } p, (0 : Int)) = _
    rw [e1]
    show (Mk.goOn (sb d a t { Mk.putAll s s.held with held := [] }) p, (0 : Int)) = _
    rw [e2]
theorem sb_readContent {s : St} (h : s.state = 1) (b : Int) : Mk.readContent (sb d a t s) b = (sb d a t (Mk.readContent s b).1, (Mk.readContent s b).2) := by
  have hin : ∀ x : Int, Mk.inText { s with brackets := x } = true := fun x => by show (s.state == 1 || s.state == 2) = true; rw [h]; rfl
  unfold Mk.readContent
  split
  · rfl
  · split
    · rfl
    · split
      · show (if s.brackets == 2 then _ else _) = _
        split
        · rfl
        · exact sb_readCharacter_in (hin 0) b
      · split
        · show Mk.readCharacter (sb d a t { s with brackets := if s.brackets == 0 then 1 else 2 }) b = _
          exact sb_readCharacter_in (hin _) b
        · exact sb_readCharacter_in (hin 0) b
theorem sb_readSection {s : St} (h : s.state = 2) (b : Int) : Mk.readSection (sb d a t s) b = (sb d a t (Mk.readSection s b).1, (Mk.readSection s b).2) := by
  have hin : Mk.inText s = true := by show (s.state == 1 || s.state == 2) = true; rw [h]; rfl
  unfold Mk.readSection
  show (if b = 62 ∧ s.held = [93, 93] then _ else if b = 93 ∧ s.held = [93, 93] then _ else _) = _
  split
  · rfl
  · split
    · rw [sb_put]
    · split
      · rfl
      · exact sb_readCharacter_in hin b
end Go.Proofs.YtmgfijllcdadgabGreatDoor

namespace Go.Proofs.YtmgfijllcdadgabGreatDoor
set_option linter.unusedVariables false
set_option linter.unusedSimpArgs false
open Mk (St Bs Ev Att)

/-- What has been told keeps the bounds. -/
structure Lk (d a t : Int) (l : List Ev) : Prop where
  li : ∀ e ∈ l, (e.attrs.length : Int) ≤ a ∧ (longE e : Int) ≤ t
  dl : ∀ pre, pre <+: l → ∀ h, shs Sh.zero pre = some h → (h.opn.length : Int) ≤ d
theorem Lk.pre {d a t : Int} {l m : List Ev} (h : Lk d a t m) (hp : l <+: m) : Lk d a t l :=
  ⟨fun e he => h.li e (hp.subset he), fun pre hpre => h.dl pre (hpre.trans hp)⟩
/-- What is being read keeps the bounds. -/
structure Ft (d a t : Int) (s : St) : Prop where
  dp : (s.opn.length : Int) ≤ d
  dp12 : 12 ≤ s.state → s.state ≤ 19 → (s.opn.length : Int) < d
  at3 : (s.attrs.length : Int) ≤ a
  al : 14 ≤ s.state → s.state ≤ 17 → (s.attrs.length : Int) < a
  at1 : ∀ y ∈ s.attrs, Oka t y
  an : 15 ≤ s.state → s.state ≤ 17 → (s.attr.length : Int) ≤ t
  ct : 7 ≤ s.state → s.state ≤ 17 → s.count ≤ t
  nm : ((9 ≤ s.state ∧ s.state ≤ 11) ∨ (13 ≤ s.state ∧ s.state ≤ 19)) → (s.name.length : Int) ≤ t
  pc : 0 < s.pl → s.count + 1 ≤ t ∨ s.state = 1 ∨ s.state = 2
  rp : Mk.isOpen s.rp = true → s.state = 17 → s.count + 1 ≤ t
  a14 : s.state = 14 → Mk.hasAttr s s.token = true → s.count + 1 ≤ t
  lk : Lk d a t s.list
variable {d a t : Int}
theorem Ft.low {s : St} (hw : W s) (h3 : 0 ≤ a) (hst : s.state ≤ 6 ∨ 20 ≤ s.state) (dp : (s.opn.length : Int) ≤ d) (lk : Lk d a t s.list) : Ft d a t s := by
  have ha : s.attrs = [] := hw.at0 (by omega)
  refine ⟨dp, fun g1 g2 => by omega, ?_, fun g1 g2 => by omega, ?_, fun g1 g2 => by omega, fun g1 g2 => by omega, fun g => by omega, fun g => ?_, fun _ g => by omega, fun g => by omega, lk⟩
  · rw [ha]; exact h3
  · rw [ha]; intro y hy; cases hy
  · have := (hw.pl g).1; omega
theorem Ft.aside {s : St} (hw : W s) (h3 : 0 ≤ a) (hst : 7 ≤ s.state ∧ s.state ≤ 11) (dp : (s.opn.length : Int) ≤ d) (lk : Lk d a t s.list) (ct : s.count ≤ t) (nm : 9 ≤ s.state → (s.name.length : Int) ≤ t) (pc : 0 < s.pl → s.count + 1 ≤ t) : Ft d a t s := by
  have ha : s.attrs = [] := hw.at0 (by omega)
  refine ⟨dp, fun g1 g2 => by omega, ?_, fun g1 g2 => by omega, ?_, fun g1 g2 => by omega, fun _ _ => ct, fun g => nm (by omega), fun g => .inl (pc g), fun _ g => by omega, fun g => by omega, lk⟩
  · rw [ha]; exact h3
  · rw [ha]; intro y hy; cases hy
theorem Ft.tag {s : St} (dp12 : (s.opn.length : Int) < d) (at3 : (s.attrs.length : Int) ≤ a) (al : 14 ≤ s.state → s.state ≤ 17 → (s.attrs.length : Int) < a) (at1 : ∀ y ∈ s.attrs, Oka t y) (an : 15 ≤ s.state → s.state ≤ 17 → (s.attr.length : Int) ≤ t) (ct : s.count ≤ t) (nm : 13 ≤ s.state → (s.name.length : Int) ≤ t) (hst : 12 ≤ s.state ∧ s.state ≤ 19) (pc : 0 < s.pl → s.count + 1 ≤ t) (rp : Mk.isOpen s.rp = true → s.state = 17 → s.count + 1 ≤ t) (a14 : s.state = 14 → Mk.hasAttr s s.token = true → s.count + 1 ≤ t) (lk : Lk d a t s.list) : Ft d a t s :=
  ⟨by omega, fun _ _ => dp12, at3, al, at1, an, fun _ _ => ct, fun g => nm (by omega), fun g => .inl (pc g), rp, a14, lk⟩
/-- How a byte is read under other bounds. -/
def Bk (d a t : Int) (s : St) (r rk : St × Int) : Prop := (rk = (sb d a t r.1, 0) ∨ rk.2 = 7) ∧ (Ft d a t r.1 → Ft d a t s ∧ rk = (sb d a t r.1, 0))
theorem Bk.same {s : St} {r rk : St × Int} (h : rk = (sb d a t r.1, r.2)) (he : r.2 = 0) (hf : Ft d a t r.1 → Ft d a t s) : Bk d a t s r rk := by
  rw [he] at h
  exact ⟨.inl h, fun g => ⟨hf g, h⟩⟩
theorem fits_sb {s : St} (hst : ¬ (s.state = 1 ∨ s.state = 2)) (m : Int) : Mk.fits (sb d a t s) m = decide (s.count + m ≤ t) := by
  unfold Mk.fits Mk.inText
  have : ((sb d a t s).state == 1 || (sb d a t s).state == 2) = false := by show (s.state == 1 || s.state == 2) = false; simp; omega
  rw [this]
  rfl
/-- A character, where tokens are. -/
theorem bk_readCharacter {s : St} (hw : Wq s) (hst : s.state = 7 ∨ s.state = 11 ∨ s.state = 17) (b : Int) (he : (Mk.readCharacter s b).2 = 0) (hF : ∀ n : Int, s.count + s.held.length + 1 ≤ t → Ft d a t (Mk.readCharacter s b).1 → Ft d a t s) :
    Bk d a t s (Mk.readCharacter s b) (Mk.readCharacter (sb d a t s) b) := by
  have hns : ¬ (s.state = 1 ∨ s.state = 2) := by omega
  have hin : Mk.inText s = false := by unfold Mk.inText; simp; omega
  have hcnt : ∀ (l : Bs) (z : St), Mk.inText z = false → (Mk.putAll z l).count = z.count + l.length ∧ Mk.inText (Mk.putAll z l) = false := by
    intro l
    induction l with
    | nil => intro z hz; exact ⟨by simp [Mk.putAll], hz⟩
    | cons x r ih =>
      intro z hz
      have := ih (Mk.put z x.toNat) (by rw [put_out hz]; exact hz)
      rw [put_out hz] at this
      refine ⟨?_, ?_⟩
      · show (Mk.putAll (Mk.put z x.toNat) r).count = _
        rw [put_out hz, this.1]
        simp; omega
      · show Mk.inText (Mk.putAll (Mk.put z x.toNat) r) = false
        rw [put_out hz]; exact this.2
  unfold Mk.readCharacter at he hF ⊢
  cases hb : Mk.begin_ b with
  | none => rw [hb] at he; simp at he
  | some p =>
    rw [hb] at he hF
    dsimp only at he hF ⊢
    split at he
    · rename_i hf
      rw [if_pos hf] at hF ⊢
      have e1 := sb_putAll (d := d) (a := a) (t := t) s.held s
      have e2 := sb_goOn (d := d) (a := a) (t := t) { Mk.putAll s s.held with held := [] } p
      have e3 : Mk.goOn { Mk.putAll (sb d a t s) (sb d a t s).held with held := [] } p = sb d a t (Mk.goOn { Mk.putAll s s.held with held := [] } p) := by
        show Mk.goOn { Mk.putAll (sb d a t s) s.held with held := [] } p = _
        rw [e1]; exact e2
      rw [fits_sb hns]
      show Bk d a t s _ (if decide (s.count + (s.held.length + 1) ≤ t) = true then _ else _)
      by_cases hk : s.count + (s.held.length + 1) ≤ t
      · rw [if_pos (decide_eq_true hk), e3]
        exact ⟨.inl rfl, fun g => ⟨hF 0 (by omega) g, rfl⟩⟩
      · rw [if_neg (by simpa using hk)]
        refine ⟨.inr rfl, fun g => absurd ?_ hk⟩
        have hc := hcnt s.held s hin
        have hcs : ∃ x y n, Mk.putAll s s.held = { s with text := x, token := y, count := n } := by obtain ⟨x, y, n, h1, _⟩ := putAll_core s.held s; exact ⟨x, y, n, h1⟩
        obtain ⟨x, y, n, h1⟩ := hcs
        rw [h1] at hc
        have hc1 : n = s.count + s.held.length := hc.1
        dsimp only at g
        rw [h1] at g
        unfold Mk.goOn at g
        split at g
        · have h2 : Mk.inText { s with text := x, token := y, count := n, held := [], pc := p.1, pl := p.2 } = false := hin
          rw [put_out h2] at g
          have := g.ct (by show 7 ≤ s.state; omega) (by show s.state ≤ 17; omega)
          have : n + 1 ≤ t := this
          omega
        · rename_i hp
          have hp : p.2 ≠ 0 := by simpa using hp
          have hpp : 0 < p.2 := by
            unfold Mk.begin_ at hb
            split at hb
            · cases hb; exact absurd rfl hp
            · split at hb
              · cases hb; show (0 : Int) < 1; decide
              · split at hb
                · cases hb; show (0 : Int) < 2; decide
                · split at hb
                  · cases hb; show (0 : Int) < 3; decide
                  · cases hb
          have : n + 1 ≤ t ∨ s.state = 1 ∨ s.state = 2 := g.pc hpp
          omega
    · simp at he
theorem cnt_readCharacter {s : St} (hst : s.state = 7 ∨ s.state = 11 ∨ s.state = 17) (b : Int) : ∃ x y n pc pl hd, (Mk.readCharacter s b).1 = { s with text := x, token := y, count := n, pc := pc, pl := pl, held := hd } := by
  unfold Mk.readCharacter
  cases Mk.begin_ b with
  | none => exact ⟨s.text, s.token, s.count, s.pc, s.pl, s.held, rfl⟩
  | some p =>
    dsimp only
    split
    · obtain ⟨x, y, n, h1, _⟩ := putAll_core s.held s
      dsimp only
      rw [h1]
      unfold Mk.goOn
      split
      · obtain ⟨x', y', n', h2, _⟩ := put_core { s with text := x, token := y, count := n, held := [], pc := p.1, pl := p.2 } p.1
        exact ⟨x', y', n', p.1, p.2, [], h2⟩
      · exact ⟨x, y, n, p.1, p.2, [], rfl⟩
    · exact ⟨s.text, s.token, s.count, s.pc, s.pl, s.held, rfl⟩
/-- What is told of a token keeps the bounds. -/
theorem Lk.told {l : List Ev} (h : Lk d a t l) {e : Ev} (he : e ∈ l) : (e.attrs.length : Int) ≤ a ∧ (e.name.length : Int) ≤ t ∧ (e.kind ≠ 3 → (chars e.val : Int) ≤ t) ∧ ∀ y ∈ e.attrs, Oka t y := by
  obtain ⟨h1, h2⟩ := h.li e he
  unfold longE at h2
  obtain ⟨g1, g2⟩ := longA_ge e.attrs (if e.kind = 3 then e.name.length else max e.name.length (chars e.val))
  refine ⟨h1, ?_, fun hk => ?_, fun y hy => ?_⟩
  · have hm : e.name.length ≤ (if e.kind = 3 then e.name.length else max e.name.length (chars e.val)) := by split <;> omega
    omega
  · rw [if_neg hk] at g1 h2; omega
  · have := g2 y hy
    exact ⟨by omega, by omega⟩
theorem add_pre (s : St) (e : Ev) : s.list <+: (Mk.add s e).list ∧ e ∈ (Mk.add s e).list := by
  rw [add_list]
  refine ⟨?_, by simp⟩
  split
  · exact List.prefix_append _ _
  · rw [List.append_assoc]; exact List.prefix_append _ _
theorem bk_readComment {s : St} (hw : Wq s) (hv : V s) (h3 : 0 ≤ a) (hst : s.state = 7) (b : Int) (he : (Mk.readComment s b).2 = 0) : Bk d a t s (Mk.readComment s b) (Mk.readComment (sb d a t s) b) := by
  have hpl := hw.q
  have hc := hv.ct (.inl hst)
  unfold Mk.readComment at he ⊢
  show Bk d a t s _ (if s.held = [45, 45] ∧ b = 62 then _ else if s.held = [45, 45] then _ else if b = 45 then _ else _)
  split at he
  · rename_i g; rw [if_pos g, if_pos g]
    refine Bk.same (by rw [sb_endComment]) rfl fun F => ?_
    have hp := add_pre (Mk.dropToken { s with held := [] }) ⟨4, [], [], s.token, []⟩
    have hd : (Mk.endComment s).opn = s.opn := by unfold Mk.endComment Mk.resume; rw [add_core]; rfl
    have hl : (Mk.endComment s).list = (Mk.add (Mk.dropToken { s with held := [] }) ⟨4, [], [], s.token, []⟩).list := rfl
    have hlk := F.lk
    rw [hl] at hlk
    have ht := (hlk.told hp.2).2.2.1 (by show (4 : Int) ≠ 3; decide)
    have hdp := F.dp
    rw [show ((Mk.endComment s, (0 : Int)).1).opn = s.opn from hd] at hdp
    exact .aside hw.toW h3 (by omega) hdp (hlk.pre hp.1) (by have : (chars s.token : Int) ≤ t := ht; omega) (fun g => by omega) (fun g => by omega)
  · rename_i g; rw [if_neg g, if_neg g]
    split at he
    · simp at he
    · rename_i g2; rw [if_neg g2, if_neg g2]
      split at he
      · rename_i g3; rw [if_pos g3, if_pos g3]
        exact Bk.same rfl rfl fun F => .aside hw.toW h3 (by omega) F.dp F.lk (F.ct (by show 7 ≤ s.state; omega) (by show s.state ≤ 17; omega)) (fun g => by omega) (fun g => by omega)
      · rename_i g3; rw [if_neg g3, if_neg g3]
        refine bk_readCharacter hw (.inl hst) b he fun _ hk F => ?_
        obtain ⟨x, y, n, pc, pl, hd, e⟩ := cnt_readCharacter (.inl hst) b
        rw [e] at F
        exact .aside hw.toW h3 (by omega) F.dp F.lk (by omega) (fun g => by omega) (fun g => by omega)
theorem ft_endInstruction {s : St} (hw : Wq s) (h3 : 0 ≤ a) (h4 : 0 ≤ t) (hst : s.state = 9 ∨ s.state = 11) (hc : s.count = chars s.token) (F : Ft d a t (Mk.endInstruction s)) : Ft d a t s := by
  have hpl := hw.q
  have hp := add_pre (Mk.dropToken { s with held := [] }) ⟨5, s.name, [], s.token, []⟩
  have hd : (Mk.endInstruction s).opn = s.opn := by unfold Mk.endInstruction Mk.resume; rw [add_core]; rfl
  have hl : (Mk.endInstruction s).list = (Mk.add (Mk.dropToken { s with held := [] }) ⟨5, s.name, [], s.token, []⟩).list := rfl
  have hlk := F.lk
  rw [hl] at hlk
  have ht := hlk.told hp.2
  have ht1 : (s.name.length : Int) ≤ t := ht.2.1
  have ht2 : (chars s.token : Int) ≤ t := ht.2.2.1 (by show (5 : Int) ≠ 3; decide)
  have hdp := F.dp
  rw [hd] at hdp
  exact .aside hw.toW h3 (by omega) hdp (hlk.pre hp.1) (by omega) (fun _ => ht1) (fun g => by omega)
theorem bk_readInstruction {s : St} (hw : Wq s) (hv : V s) (h3 : 0 ≤ a) (h4 : 0 ≤ t) (hst : s.state = 11) (b : Int) (he : (Mk.readInstruction s b).2 = 0) : Bk d a t s (Mk.readInstruction s b) (Mk.readInstruction (sb d a t s) b) := by
  have hpl := hw.q
  have hc := hv.ct (by omega)
  have hin : Mk.inText s = false := by unfold Mk.inText; simp; omega
  unfold Mk.readInstruction at he ⊢
  show Bk d a t s _ (if b = 62 ∧ s.held = [63] then _ else if b = 63 ∧ s.held = [63] then _ else if b = 63 then _ else _)
  split at he
  · rename_i g; rw [if_pos g, if_pos g]
    exact Bk.same (by rw [sb_endInstruction]) rfl fun F => ft_endInstruction hw h3 h4 (.inr hst) hc.1 F
  · rename_i g; rw [if_neg g, if_neg g]
    split at he
    · rename_i g2; rw [if_pos g2, if_pos g2]
      split at he
      · rename_i g3; rw [if_pos g3, fits_sb (by omega)]
        by_cases hk : s.count + 1 ≤ t
        · rw [if_pos (decide_eq_true hk), sb_put]
          refine ⟨.inl rfl, fun F => ⟨?_, rfl⟩⟩
          dsimp only at F
          rw [put_out hin] at F
          exact .aside hw.toW h3 (by omega) F.dp F.lk (by omega) (fun _ => F.nm (.inl (by show 9 ≤ s.state ∧ s.state ≤ 11; omega))) (fun g => by omega)
        · rw [if_neg (by simpa using hk)]
          refine ⟨.inr rfl, fun F => absurd ?_ hk⟩
          dsimp only at F
          rw [put_out hin] at F
          exact F.ct (by show 7 ≤ s.state; omega) (by show s.state ≤ 17; omega)
      · simp at he
    · rename_i g2; rw [if_neg g2, if_neg g2]
      split at he
      · rename_i g3; rw [if_pos g3, if_pos g3]
        exact Bk.same rfl rfl fun F => .aside hw.toW h3 (by omega) F.dp F.lk (F.ct (by show 7 ≤ s.state; omega) (by show s.state ≤ 17; omega)) (fun _ => F.nm (.inl (by show 9 ≤ s.state ∧ s.state ≤ 11; omega))) (fun g => by omega)
      · rename_i g3; rw [if_neg g3, if_neg g3]
        refine bk_readCharacter hw (.inr (.inl hst)) b he fun _ hk F => ?_
        obtain ⟨x, y, n, pc, pl, hd, e⟩ := cnt_readCharacter (.inr (.inl hst)) b
        rw [e] at F
        exact .aside hw.toW h3 (by omega) F.dp F.lk (by omega) (fun _ => F.nm (.inl (by show 9 ≤ s.state ∧ s.state ≤ 11; omega))) (fun g => by omega)
end Go.Proofs.YtmgfijllcdadgabGreatDoor

namespace Go.Proofs.YtmgfijllcdadgabGreatDoor
set_option linter.unusedVariables false
set_option linter.unusedSimpArgs false
open Mk (St Bs Ev Att)
variable {d a t : Int}

/-- Of a tag. -/
structure Tg (d a t : Int) (s : St) : Prop where
  dp : (s.opn.length : Int) < d
  at3 : (s.attrs.length : Int) ≤ a
  at1 : ∀ y ∈ s.attrs, Oka t y
  nm : (s.name.length : Int) ≤ t
  lk : Lk d a t s.list
theorem Ft.tg {s : St} (h : Ft d a t s) (hst : 13 ≤ s.state ∧ s.state ≤ 19) : Tg d a t s := ⟨h.dp12 (by omega) (by omega), h.at3, h.at1, h.nm (by omega), h.lk⟩
theorem tg_startGap {s : St} (hc : s.cnt = []) (ho : s.on = false) (b : Int) (he : (Mk.readStartGap s b).2 = 0) (F : Ft d a t (Mk.readStartGap s b).1) : Tg d a t s := by
  unfold Mk.readStartGap at he F
  split at he
  · rename_i g; rw [if_pos g] at F
    have T := F.tg (by show (13 : Int) ≤ 13 ∧ (13 : Int) ≤ 19; decide)
    exact ⟨T.dp, T.at3, T.at1, T.nm, T.lk⟩
  · rename_i g; rw [if_neg g] at F
    split at he
    · rename_i g2; rw [if_pos g2] at F
      unfold Mk.endAttributes at F
      rw [ho, if_neg (by decide)] at F
      unfold Mk.endStart at F
      dsimp only at F
      split at F
      · have T := F.tg (by show (13 : Int) ≤ 19 ∧ (19 : Int) ≤ 19; decide)
        exact ⟨T.dp, T.at3, T.at1, T.nm, T.lk⟩
      · have hp := add_pre s ⟨1, s.name, [], [], s.attrs⟩
        rw [tellStart_off hc ho] at F
        have hd : ((s.opn ++ [s.name]).length : Int) ≤ d := F.dp
        have hlk : Lk d a t (Mk.add s ⟨1, s.name, [], [], s.attrs⟩).list := F.lk
        have ht := hlk.told hp.2
        rw [List.length_append] at hd
        exact ⟨by simp at hd; omega, ht.1, ht.2.2.2, ht.2.1, hlk.pre hp.1⟩
    · simp at he
theorem dp_of {s : St} {h : Sh} (H : Tl Sh.zero s h) (lk : Lk d a t s.list) : (s.opn.length : Int) ≤ d := by
  rw [← H.op]; exact lk.dl _ (List.prefix_refl _) h H.ex
theorem Ft.lowQ {s s1 : St} (hw : W s) (h3 : 0 ≤ a) (hst : s.state ≤ 6 ∨ 20 ≤ s.state) (q : Qt s s1) (F : Ft d a t s1) : Ft d a t s :=
  .low hw h3 hst (by rw [← q.op]; exact F.dp) (by rw [← q.li]; exact F.lk)
theorem bk_readLess {s : St} (hw : Wq s) (h3 : 0 ≤ a) (hst : s.state = 3) (b : Int) (he : (Mk.readLess s b).2 = 0) : Bk d a t s (Mk.readLess s b) (Mk.readLess (sb d a t s) b) := by
  have q := qt_readLess (s := s) b
  unfold Mk.readLess at he q ⊢
  show Bk d a t s _ (if _ then _ else if _ then _ else if b = 47 ∧ 0 < s.opn.length then _ else if Mk.beginsName b && !s.over then _ else _)
  split at he
  · rename_i g; rw [if_pos g] at q ⊢; rw [if_pos g]; exact Bk.same rfl rfl (Ft.lowQ hw.toW h3 (by omega) q)
  · rename_i g; rw [if_neg g] at q ⊢; rw [if_neg g]
    split at he
    · rename_i g; rw [if_pos g] at q ⊢; rw [if_pos g]; exact Bk.same rfl rfl (Ft.lowQ hw.toW h3 (by omega) q)
    · rename_i g; rw [if_neg g] at q ⊢; rw [if_neg g]
      split at he
      · rename_i g; rw [if_pos g] at q ⊢; rw [if_pos g]; exact Bk.same rfl rfl (Ft.lowQ hw.toW h3 (by omega) q)
      · rename_i g; rw [if_neg g] at q ⊢; rw [if_neg g]
        split at he
        · rename_i g; rw [if_pos g] at q ⊢; rw [if_pos g]
          unfold Mk.beginStart at he q ⊢
          split at he
          · simp at he
          · rename_i g1; rw [if_neg g1] at q ⊢
            have e1 : Mk.put { sb d a t s with state := 12 } b = sb d a t (Mk.put { s with state := 12 } b) := sb_put { s with state := 12 } b
            show Bk d a t s _ (if d ≤ (s.opn.length : Int) then _ else _)
            by_cases hk : d ≤ (s.opn.length : Int)
            · rw [if_pos hk]
              refine ⟨.inr rfl, fun F => absurd ?_ (show ¬ (s.opn.length : Int) < d by omega)⟩
              have hin : Mk.inText { s with state := 12 } = false := rfl
              dsimp only at F
              rw [put_out hin] at F
              exact F.dp12 (by show (12 : Int) ≤ 12; decide) (by show (12 : Int) ≤ 19; decide)
            · rw [if_neg hk, e1]
              exact ⟨.inl rfl, fun F => ⟨Ft.lowQ hw.toW h3 (by omega) q F, rfl⟩⟩
        · simp at he
theorem bk_readInstructionName {s : St} (hw : Wq s) (hv : V s) (h3 : 0 ≤ a) (hst : s.state = 8) (b : Int) (he : (Mk.readInstructionName s b).2 = 0) : Bk d a t s (Mk.readInstructionName s b) (Mk.readInstructionName (sb d a t s) b) := by
  have hpl := hw.q
  have hin : Mk.inText s = false := by unfold Mk.inText; simp; omega
  have hc8 := hw.c8 (.inl hst)
  unfold Mk.readInstructionName at he ⊢
  show Bk d a t s _ (if s.count == 0 && !Mk.beginsName b then _ else if Mk.inName b then _ else if Mk.isXML s.token || b != 63 && !Mk.isSpace b then _ else if s.on && Mk.hasColon s.token then _ else _)
  split at he
  · simp at he
  · rename_i g; rw [if_neg g, if_neg g]
    split at he
    · rename_i g2; rw [if_pos g2, if_pos g2]
      unfold Mk.lengthenName at he ⊢
      split at he
      · rename_i g3; rw [if_pos g3, fits_sb (by omega)]
        by_cases hk : s.count + 1 ≤ t
        · rw [if_pos (decide_eq_true hk), sb_put]
          refine ⟨.inl rfl, fun F => ⟨?_, rfl⟩⟩
          dsimp only at F
          rw [put_out hin] at F
          exact .aside hw.toW h3 (by omega) F.dp F.lk (by omega) (fun g => by omega) (fun g => by omega)
        · rw [if_neg (by simpa using hk)]
          refine ⟨.inr rfl, fun F => absurd ?_ hk⟩
          dsimp only at F
          rw [put_out hin] at F
          exact F.ct (by show 7 ≤ s.state; omega) (by show s.state ≤ 17; omega)
      · simp at he
    · rename_i g2; rw [if_neg g2, if_neg g2]
      split at he
      · simp at he
      · rename_i g3; rw [if_neg g3, if_neg g3]
        split at he
        · simp at he
        · rename_i g4; rw [if_neg g4, if_neg g4]
          refine Bk.same rfl rfl fun F => ?_
          have hn : (s.token.length : Int) ≤ t := F.nm (.inl (by show 9 ≤ (if (b == 63) = true then (9 : Int) else 10) ∧ (if (b == 63) = true then (9 : Int) else 10) ≤ 11; split <;> decide))
          exact .aside hw.toW h3 (by omega) F.dp F.lk (by omega) (fun g => by omega) (fun g => by omega)
theorem bk_readInstructionSpace {s : St} (hw : Wq s) (hv : V s) (h3 : 0 ≤ a) (h4 : 0 ≤ t) (hst : s.state = 10) (b : Int) (he : (Mk.readInstructionSpace s b).2 = 0) : Bk d a t s (Mk.readInstructionSpace s b) (Mk.readInstructionSpace (sb d a t s) b) := by
  have hpl := hw.q
  have hh : s.held = [] := hw.hs.none (by omega) (by omega) (by omega)
  have ht := hw.tk (by omega) (by omega) (by omega) (by omega) (by omega) (by omega)
  unfold Mk.readInstructionSpace at he ⊢
  split at he
  · rename_i g; rw [if_pos g, if_pos g]; exact Bk.same rfl rfl fun F => F
  · rename_i g; rw [if_neg g, if_neg g]
    have hw1 : Wq { s with state := 11 } := w_to hw hh ht (hw.at0 (by omega)) 11 (by omega) (by omega) (by omega) (fun g => (hw.ov g).1) s.matched (by omega) (by omega) (by omega)
    have hv1 : V { s with state := 11 } := v_to hv hw.q hw.r ht hw.bd.2.1 11 s.matched (by omega) (fun _ => hv.nm (by omega))
    have := bk_readInstruction (d := d) (a := a) (t := t) hw1 hv1 h3 h4 rfl b he
    refine ⟨this.1, fun F => ⟨?_, (this.2 F).2⟩⟩
    have F1 := (this.2 F).1
    exact .aside hw.toW h3 (by omega) F1.dp F1.lk (by omega) (fun _ => F1.nm (.inl (by show (9 : Int) ≤ 11 ∧ (11 : Int) ≤ 11; decide))) (fun g => by omega)
theorem bk_readStartName {s : St} (hw : Wq s) (hv : V s) (h3 : 0 ≤ a) (h4 : 0 ≤ t) (hst : s.state = 12) (b : Int) (he : (Mk.readStartName s b).2 = 0) : Bk d a t s (Mk.readStartName s b) (Mk.readStartName (sb d a t s) b) := by
  have hpl := hw.q
  have hr := hw.r
  have hin : Mk.inText s = false := by unfold Mk.inText; simp; omega
  have hc8 := hw.c8 (by omega)
  have ha : s.attrs = [] := hw.at0 (by omega)
  have ha3 : (s.attrs.length : Int) ≤ a := by rw [ha]; exact h3
  have ha1 : ∀ y ∈ s.attrs, Oka t y := by rw [ha]; intro y hy; cases hy
  have fin : (s.opn.length : Int) < d → s.count ≤ t → Lk d a t s.list → Ft d a t s := fun h1 h2 h3 =>
    .tag h1 ha3 (fun g => by omega) ha1 (fun g => by omega) h2 (fun g => by omega) (by omega) (fun g => by omega) (fun g => by rw [hr] at g; cases g) (fun g => by omega) h3
  unfold Mk.readStartName at he ⊢
  split at he
  · rename_i g2; rw [if_pos g2, if_pos g2]
    unfold Mk.lengthenName at he ⊢
    split at he
    · rename_i g3; rw [if_pos g3, fits_sb (by omega)]
      by_cases hk : s.count + 1 ≤ t
      · rw [if_pos (decide_eq_true hk), sb_put]
        refine ⟨.inl rfl, fun F => ⟨?_, rfl⟩⟩
        dsimp only at F
        rw [put_out hin] at F
        exact fin (F.dp12 (by show 12 ≤ s.state; omega) (by show s.state ≤ 19; omega)) (by omega) F.lk
      · rw [if_neg (by simpa using hk)]
        refine ⟨.inr rfl, fun F => absurd ?_ hk⟩
        dsimp only at F
        rw [put_out hin] at F
        exact F.ct (by show 7 ≤ s.state; omega) (by show s.state ≤ 17; omega)
    · simp at he
  · rename_i g2; rw [if_neg g2, if_neg g2]
    have e1 := sb_readStartGap (d := d) (a := a) (t := t) (s := { Mk.dropToken s with name := s.token }) hv.cn hv.on b
    refine Bk.same e1 he fun F => ?_
    have T := tg_startGap (s := { Mk.dropToken s with name := s.token }) hv.cn hv.on b he F
    exact fin T.dp (by have : (s.token.length : Int) ≤ t := T.nm; omega) T.lk
theorem Tg.ft {s : St} (hw : Wq s) (h4 : 0 ≤ t) (hst : s.state = 13 ∨ s.state = 18 ∨ s.state = 19) (T : Tg d a t s) : Ft d a t s := by
  have hpl := hw.q
  have hr := hw.r
  have ht := hw.tk (by omega) (by omega) (by omega) (by omega) (by omega) (by omega)
  exact .tag T.dp T.at3 (fun g => by omega) T.at1 (fun g => by omega) (by omega) (fun _ => T.nm) (by omega) (fun g => by omega) (fun g => by rw [hr] at g; cases g) (fun g => by omega) T.lk
theorem bk_readStartSpace {s : St} (hw : Wq s) (hv : V s) (h3 : 0 ≤ a) (h4 : 0 ≤ t) (hst : s.state = 13) (b : Int) (he : (Mk.readStartSpace s b).2 = 0) : Bk d a t s (Mk.readStartSpace s b) (Mk.readStartSpace (sb d a t s) b) := by
  unfold Mk.readStartSpace at he ⊢
  split at he
  · rename_i g; rw [if_pos g, if_pos g]
    exact Bk.same (sb_readStartGap hv.cn hv.on b) he fun F => (tg_startGap hv.cn hv.on b he F).ft hw h4 (.inl hst)
  · rename_i g; rw [if_neg g, if_neg g]
    split at he
    · simp at he
    · rename_i g1; rw [if_neg g1]
      have e1 : Mk.put { sb d a t s with state := 14 } b = sb d a t (Mk.put { s with state := 14 } b) := sb_put { s with state := 14 } b
      have hin : Mk.inText { s with state := 14 } = false := rfl
      show Bk d a t s _ (if a ≤ (s.attrs.length : Int) then _ else _)
      by_cases hk : a ≤ (s.attrs.length : Int)
      · rw [if_pos hk]
        refine ⟨.inr rfl, fun F => absurd ?_ (show ¬ (s.attrs.length : Int) < a by omega)⟩
        dsimp only at F
        rw [put_out hin] at F
        exact F.al (by show (14 : Int) ≤ 14; decide) (by show (14 : Int) ≤ 17; decide)
      · rw [if_neg hk, e1]
        refine ⟨.inl rfl, fun F => ⟨?_, rfl⟩⟩
        dsimp only at F
        rw [put_out hin] at F
        exact Tg.ft hw h4 (.inl hst) ⟨F.dp12 (by show (12 : Int) ≤ 14; decide) (by show (14 : Int) ≤ 19; decide), F.at3, F.at1, F.nm (.inr (by show (13 : Int) ≤ 14 ∧ (14 : Int) ≤ 19; decide)), F.lk⟩
theorem bk_readAttrName {s : St} (hw : Wq s) (hv : V s) (hst : s.state = 14) (b : Int) (he : (Mk.readAttrName s b).2 = 0) : Bk d a t s (Mk.readAttrName s b) (Mk.readAttrName (sb d a t s) b) := by
  have hpl := hw.q
  have hr := hw.r
  have hin : Mk.inText s = false := by unfold Mk.inText; simp; omega
  have hc8 := hw.c8 (by omega)
  have fin : Tg d a t s → (s.attrs.length : Int) < a → s.count ≤ t → (Mk.hasAttr s s.token = true → s.count + 1 ≤ t) → Ft d a t s := fun T h1 h2 h3 =>
    .tag T.dp T.at3 (fun _ _ => h1) T.at1 (fun g => by omega) h2 (fun _ => T.nm) (by omega) (fun g => by omega) (fun g => by rw [hr] at g; cases g) (fun _ => h3) T.lk
  unfold Mk.readAttrName at he ⊢
  show Bk d a t s _ (if Mk.inName b then _ else if b != 61 && !Mk.isSpace b then _ else if Mk.hasAttr s s.token then _ else _)
  split at he
  · rename_i g2; rw [if_pos g2, if_pos g2]
    unfold Mk.lengthenAttrName at he ⊢
    split at he
    · rename_i g3; rw [if_pos g3]
      split at he
      · simp at he
      · rename_i g4; rw [if_neg g4, fits_sb (by omega), sb_put]
        have hf : Mk.fits (sb d a t (Mk.put s b)) 1 = decide (s.count + 1 + 1 ≤ t) := by
          rw [fits_sb (by rw [put_out hin]; show ¬ (s.state = 1 ∨ s.state = 2); omega), put_out hin]
        rw [hf]
        show Bk d a t s _ (if _ then (if !decide (s.count + 1 + 1 ≤ t) && Mk.hasAttr (Mk.put s b) (Mk.put s b).token then _ else _) else _)
        have hF : Ft d a t (Mk.put s b) → s.count + 1 ≤ t ∧ (Mk.hasAttr (Mk.put s b) (Mk.put s b).token = true → s.count + 1 + 1 ≤ t) ∧ Tg d a t s ∧ (s.attrs.length : Int) < a := by
          intro F
          rw [put_out hin] at F
          refine ⟨F.ct (by show 7 ≤ s.state; omega) (by show s.state ≤ 17; omega), fun g => ?_, ⟨F.dp12 (by show 12 ≤ s.state; omega) (by show s.state ≤ 19; omega), F.at3, F.at1, F.nm (.inr (by show 13 ≤ s.state ∧ s.state ≤ 19; omega)), F.lk⟩, F.al (by show 14 ≤ s.state; omega) (by show s.state ≤ 17; omega)⟩
          rw [put_out hin] at g
          exact F.a14 hst g
        by_cases hk : s.count + 1 ≤ t
        · rw [if_pos (decide_eq_true hk)]
          cases h5 : (!decide (s.count + 1 + 1 ≤ t) && Mk.hasAttr (Mk.put s b) (Mk.put s b).token)
          · rw [if_neg (by decide)]
            exact ⟨.inl rfl, fun F => ⟨fin (hF F).2.2.1 (hF F).2.2.2 (by omega) (fun _ => hk), rfl⟩⟩
          · rw [if_pos rfl]
            refine ⟨.inr rfl, fun F => ?_⟩
            simp only [Bool.and_eq_true, Bool.not_eq_true', decide_eq_false_iff_not] at h5
            exact absurd ((hF F).2.1 h5.2) h5.1
        · rw [if_neg (by simpa using hk)]
          exact ⟨.inr rfl, fun F => absurd (hF F).1 hk⟩
    · simp at he
  · rename_i g2; rw [if_neg g2, if_neg g2]
    split at he
    · simp at he
    · rename_i g3; rw [if_neg g3, if_neg g3]
      split at he
      · simp at he
      · rename_i g4; rw [if_neg g4, if_neg g4]
        refine Bk.same (sb_readAttrSpace { Mk.dropToken s with attr := s.token } b) he fun F => ?_
        have hF : Tg d a t s ∧ (s.attrs.length : Int) < a ∧ (s.token.length : Int) ≤ t := by
          unfold Mk.readAttrSpace at he F
          split at he
          · rename_i g5; rw [if_pos g5] at F
            exact ⟨⟨F.dp12 (by show (12 : Int) ≤ 15; decide) (by show (15 : Int) ≤ 19; decide), F.at3, F.at1, F.nm (.inr (by show (13 : Int) ≤ 15 ∧ (15 : Int) ≤ 19; decide)), F.lk⟩, F.al (by show (14 : Int) ≤ 15; decide) (by show (15 : Int) ≤ 17; decide), F.an (by show (15 : Int) ≤ 15; decide) (by show (15 : Int) ≤ 17; decide)⟩
          · rename_i g5; rw [if_neg g5] at F
            split at he
            · rename_i g6; rw [if_pos g6] at F
              exact ⟨⟨F.dp12 (by show (12 : Int) ≤ 16; decide) (by show (16 : Int) ≤ 19; decide), F.at3, F.at1, F.nm (.inr (by show (13 : Int) ≤ 16 ∧ (16 : Int) ≤ 19; decide)), F.lk⟩, F.al (by show (14 : Int) ≤ 16; decide) (by show (16 : Int) ≤ 17; decide), F.an (by show (15 : Int) ≤ 16; decide) (by show (16 : Int) ≤ 17; decide)⟩
            · simp at he
        exact fin hF.1 hF.2.1 (by have := hF.2.2; omega) (fun g => absurd g g4)
theorem ft_1517 {s : St} (hw : Wq s) (h4 : 0 ≤ t) (hst : s.state = 15 ∨ s.state = 16) (st q : Int) (h : 15 ≤ st ∧ st ≤ 17) (F : Ft d a t { s with state := st, quote := q }) : Ft d a t s := by
  have hpl := hw.q
  have hr := hw.r
  have ht := hw.tk (by omega) (by omega) (by omega) (by omega) (by omega) (by omega)
  exact .tag (F.dp12 (by show 12 ≤ st; omega) (by show st ≤ 19; omega)) F.at3 (fun _ _ => F.al (by show 14 ≤ st; omega) (by show st ≤ 17; omega)) F.at1 (fun _ _ => F.an (by show 15 ≤ st; omega) (by show st ≤ 17; omega)) (by omega) (fun _ => F.nm (.inr (by show 13 ≤ st ∧ st ≤ 19; omega))) (by omega) (fun g => by omega) (fun g => by rw [hr] at g; cases g) (fun g => by omega) F.lk
theorem bk_readAttrSpace {s : St} (hw : Wq s) (h4 : 0 ≤ t) (hst : s.state = 15) (b : Int) (he : (Mk.readAttrSpace s b).2 = 0) : Bk d a t s (Mk.readAttrSpace s b) (Mk.readAttrSpace (sb d a t s) b) := by
  refine Bk.same (sb_readAttrSpace s b) he fun F => ?_
  unfold Mk.readAttrSpace at he F
  split at he
  · rename_i g; rw [if_pos g] at F; exact ft_1517 hw h4 (.inl hst) 15 s.quote (by decide) F
  · rename_i g; rw [if_neg g] at F
    split at he
    · rename_i g; rw [if_pos g] at F; exact ft_1517 hw h4 (.inl hst) 16 s.quote (by decide) F
    · simp at he
theorem bk_readEquals {s : St} (hw : Wq s) (h4 : 0 ≤ t) (hst : s.state = 16) (b : Int) (he : (Mk.readEquals s b).2 = 0) : Bk d a t s (Mk.readEquals s b) (Mk.readEquals (sb d a t s) b) := by
  refine Bk.same (sb_readEquals s b) he fun F => ?_
  unfold Mk.readEquals at he F
  split at he
  · rename_i g; rw [if_pos g] at F; exact F
  · rename_i g; rw [if_neg g] at F
    split at he
    · rename_i g; rw [if_pos g] at F; exact ft_1517 hw h4 (.inr hst) 17 b (by decide) F
    · simp at he
/-- In a value. -/
theorem ft_17 {s s1 : St} (hst : s.state = 17) (F : Ft d a t s1) (e0 : s1.state = 17) (e1 : s1.opn = s.opn) (e2 : s1.attrs = s.attrs) (e3 : s1.attr = s.attr) (e4 : s1.name = s.name) (e5 : s1.list = s.list) (ct : s.count ≤ t) (pc : 0 < s.pl → s.count + 1 ≤ t) (rp : Mk.isOpen s.rp = true → s.count + 1 ≤ t) : Ft d a t s := by
  have f1 := F.dp12 (by omega) (by omega)
  have f2 := F.at3
  have f3 := F.al (by omega) (by omega)
  have f4 := F.at1
  have f5 := F.an (by omega) (by omega)
  have f6 := F.nm (by omega)
  have f7 := F.lk
  rw [e1] at f1; rw [e2] at f2 f3 f4; rw [e3] at f5; rw [e4] at f6; rw [e5] at f7
  exact .tag f1 f2 (fun _ _ => f3) f4 (fun _ _ => f5) ct (fun _ => f6) (by omega) pc (fun g _ => rp g) (fun g => by omega) f7
theorem bk_readValue {s : St} (hw : Wq s) (hv : V s) (hst : s.state = 17) (b : Int) (he : (Mk.readValue s b).2 = 0) : Bk d a t s (Mk.readValue s b) (Mk.readValue (sb d a t s) b) := by
  have hpl := hw.q
  have hr := hw.r
  have hc := hv.ct (by omega)
  have chr : ∀ x : Int, (Mk.readCharacter s x).2 = 0 → Bk d a t s (Mk.readCharacter s x) (Mk.readCharacter (sb d a t s) x) := by
    intro x hx
    refine bk_readCharacter hw (.inr (.inr hst)) x hx fun _ hk F => ?_
    obtain ⟨y1, y2, n, pc, pl, hd, e⟩ := cnt_readCharacter (.inr (.inr hst)) x
    rw [e] at F
    exact ft_17 hst F hst rfl rfl rfl rfl rfl (by omega) (fun _ => by omega) (fun _ => by omega)
  unfold Mk.readValue at he ⊢
  show Bk d a t s _ (if b == s.quote then _ else if b == 60 then _ else if b == 38 then _ else if b == 9 || b == 10 then _ else _)
  split at he
  · rename_i g; rw [if_pos g, if_pos g]
    refine Bk.same rfl rfl fun F => ?_
    have h1 : ((s.attrs ++ [⟨s.attr, [], s.token⟩] : List Att).length : Int) ≤ a := F.at3
    have h2 : ∀ y ∈ (s.attrs ++ [⟨s.attr, [], s.token⟩] : List Att), Oka t y := F.at1
    have h3 := h2 ⟨s.attr, [], s.token⟩ (by simp)
    have h31 : (s.attr.length : Int) ≤ t := h3.1
    have h32 : (chars s.token : Int) ≤ t := h3.2
    rw [List.length_append] at h1
    have h1' : (s.attrs.length : Int) + 1 ≤ a := by simpa using h1
    exact .tag (F.dp12 (by show (12 : Int) ≤ 18; decide) (by show (18 : Int) ≤ 19; decide)) (by omega) (fun _ _ => by omega) (fun y hy => h2 y (List.mem_append_left _ hy)) (fun _ _ => h31) (by omega) (fun _ => F.nm (.inr (by show (13 : Int) ≤ 18 ∧ (18 : Int) ≤ 19; decide))) (by omega) (fun g => by omega) (fun g => by rw [hr] at g; cases g) (fun g => by omega) F.lk
  · rename_i g; rw [if_neg g, if_neg g]
    split at he
    · simp at he
    · rename_i g2; rw [if_neg g2, if_neg g2]
      split at he
      · rename_i g3; rw [if_pos g3, if_pos g3]
        split at he
        · rename_i g4; rw [if_pos g4, fits_sb (by omega)]
          by_cases hk : s.count + 1 ≤ t
          · rw [if_pos (decide_eq_true hk)]
            exact ⟨.inl rfl, fun F => ⟨ft_17 hst F hst rfl rfl rfl rfl rfl (by omega) (fun _ => hk) (fun _ => hk), rfl⟩⟩
          · rw [if_neg (by simpa using hk)]
            exact ⟨.inr rfl, fun F => absurd (F.rp (by show Mk.isOpen 1 = true; decide) hst) hk⟩
        · simp at he
      · rename_i g3; rw [if_neg g3, if_neg g3]
        split at he
        · rename_i g4; rw [if_pos g4, if_pos g4]; exact chr 32 he
        · rename_i g4; rw [if_neg g4, if_neg g4]; exact chr b he
theorem bk_readSlash {s : St} {h : Sh} (hw : Wq s) (hv : V s) (H : Tl Sh.zero s h) (h4 : 0 ≤ t) (hst : s.state = 19) (b : Int) (he : (Mk.readSlash s b).2 = 0) : Bk d a t s (Mk.readSlash s b) (Mk.readSlash (sb d a t s) b) := by
  refine Bk.same (sb_readSlash hv.cn hv.on b) he fun F => ?_
  unfold Mk.readSlash at he F
  split at he
  · simp at he
  · rename_i g; rw [if_neg g] at F
    have hc := tellStart_core s
    have h2 := tellEnd_list (s := Mk.tellStart s) (by rw [hc]; exact hv.cn) (by rw [hc]; exact hv.on) s.name
    have hlk : Lk d a t (Mk.tellEnd (Mk.tellStart s) s.name).list := F.lk
    rw [h2.1] at hlk
    have hlk1 := hlk.pre (add_pre _ _).1
    rw [tellStart_off hv.cn hv.on] at hlk1
    have hlk1 : Lk d a t (Mk.add s ⟨1, s.name, [], [], s.attrs⟩).list := hlk1
    have hp := add_pre s ⟨1, s.name, [], [], s.attrs⟩
    have ht := hlk1.told hp.2
    have hs := shs_add H (e := ⟨1, s.name, [], [], s.attrs⟩) (o := s.opn ++ [s.name]) (by show (1 : Int) ≠ 3; decide) rfl hv.at2
    have hd : ((s.opn ++ [s.name]).length : Int) ≤ d := hlk1.dl _ (List.prefix_refl _) _ hs
    rw [List.length_append] at hd
    exact Tg.ft hw h4 (by omega) ⟨by simp at hd; omega, ht.1, ht.2.2.2, ht.2.1, hlk1.pre hp.1⟩
theorem tells_pre {s s1 : St} (hv : V s) (h : Tells s s1) : s.list <+: s1.list := by
  cases h with
  | quiet q => rw [q.li]; exact List.prefix_refl _
  | comm e => exact (add_pre (Mk.dropToken { s with held := [] }) ⟨4, [], [], s.token, []⟩).1
  | instr e => exact (add_pre (Mk.dropToken { s with held := [] }) ⟨5, s.name, [], s.token, []⟩).1
  | start e =>
    rename_i s'
    have e1 : (Mk.endStart s' 62).list = (Mk.tellStart s').list := rfl
    rw [e1]
    rcases e with ⟨e, rfl⟩ | ⟨e, rfl⟩
    · rw [tellStart_off (s := { Mk.dropToken s with name := s.token }) hv.cn hv.on]; exact (add_pre { Mk.dropToken s with name := s.token } _).1
    · rw [tellStart_off hv.cn hv.on]; exact (add_pre _ _).1
  | slash e =>
    have hc := tellStart_core s
    have h2 := tellEnd_list (s := Mk.tellStart s) (by rw [hc]; exact hv.cn) (by rw [hc]; exact hv.on) s.name
    show s.list <+: (Mk.tellEnd (Mk.tellStart s) s.name).list
    rw [h2.1]
    refine List.IsPrefix.trans ?_ (add_pre _ _).1
    rw [tellStart_off hv.cn hv.on]; exact (add_pre _ _).1
  | ends e =>
    have h2 := tellEnd_list (s := { s with opn := s.opn.dropLast }) hv.cn hv.on (Mk.innermost s)
    unfold Mk.endInnermost
    rw [h2.1]; exact (add_pre { s with opn := s.opn.dropLast } _).1
theorem bk_readPart {s : St} {h : Sh} (hw : W s) (hv : V s) (H : Tl Sh.zero s h) (h3 : 0 ≤ a) (hl : 0 < s.pl) (b : Int) (he : (Mk.readPart s b).2 = 0) : Bk d a t s (Mk.readPart s b) (Mk.readPart (sb d a t s) b) := by
  obtain ⟨g1, g2, g3, g4⟩ := hw.pl hl
  refine Bk.same (sb_readPart s b) he fun F => ?_
  have q := qt_readPart (s := s) (fun g => hw.o1 (by omega)) b
  by_cases h12 : s.state = 1 ∨ s.state = 2
  · exact Ft.lowQ hw h3 (by omega) q F
  · have hin : Mk.inText s = false := by unfold Mk.inText; simp; omega
    unfold Mk.readPart at he F
    split at he
    · simp at he
    · rename_i p hp
      rw [hp] at F
      dsimp only at F
      have hF : s.count + 1 ≤ t ∧ ∃ x y n pc pl, Mk.goOn s p = { s with text := x, token := y, count := n, pc := pc, pl := pl } := by
        unfold Mk.goOn at F ⊢
        split at F
        · rename_i h0
          rw [if_pos h0]
          have h2 : Mk.inText { s with pc := p.1, pl := p.2 } = false := hin
          rw [put_out h2] at F ⊢
          exact ⟨F.ct (by show 7 ≤ s.state; omega) (by show s.state ≤ 17; omega), s.text, _, _, _, _, rfl⟩
        · rename_i h0
          rw [if_neg h0]
          have h0 : p.2 ≠ 0 := by simpa using h0
          refine ⟨?_, s.text, s.token, s.count, _, _, rfl⟩
          have hpp : 0 < p.2 := by
            have e2 : p.2 = s.pl - 1 := by
              unfold Mk.nextPart at hp
              split at hp
              · cases hp
              · split at hp
                · cases hp; rfl
                · cases hp
            omega
          have : s.count + 1 ≤ t ∨ s.state = 1 ∨ s.state = 2 := F.pc hpp
          omega
      obtain ⟨hk, x, y, n, pc, pl, e⟩ := hF
      rw [e] at F
      rcases g1 with g | g | g | g | g
      · omega
      · omega
      · exact .aside hw h3 (by omega) F.dp F.lk (by omega) (fun g => by omega) (fun _ => hk)
      · exact .aside hw h3 (by omega) F.dp F.lk (by omega) (fun _ => F.nm (.inl (by show 9 ≤ s.state ∧ s.state ≤ 11; omega))) (fun _ => hk)
      · exact ft_17 g F g rfl rfl rfl rfl rfl (by omega) (fun _ => hk) (fun _ => hk)
theorem bk_readReference {s : St} (hw : W s) (hv : V s) (h3 : 0 ≤ a) (ho : Mk.isOpen s.rp = true) (hpl : s.pl = 0) (b : Int) (he : (Mk.readReference s b).2 = 0) : Bk d a t s (Mk.readReference s b) (Mk.readReference (sb d a t s) b) := by
  obtain ⟨g1, g2⟩ := hw.rf ho
  refine Bk.same (sb_readReference s b) he fun F => ?_
  have q := qt_readReference (s := s) (fun g => hw.o1 (by omega)) b
  rcases g1 with g | g
  · exact Ft.lowQ hw h3 (by omega) q F
  · have hin : Mk.inText s = false := by unfold Mk.inText; simp; omega
    unfold Mk.readReference at he F
    split at he
    · simp at he
    · rename_i r hr
      rw [hr] at F
      dsimp only at F
      split at F
      · rename_i hop
        have hk : s.count + 1 ≤ t := F.rp hop g
        exact ft_17 g F g rfl rfl rfl rfl rfl (by omega) (fun _ => hk) (fun _ => hk)
      · have h2 : Mk.inText (Mk.setRef s r) = false := hin
        dsimp only at F
        rw [put_out h2] at F
        have hk : s.count + 1 ≤ t := F.ct (by show 7 ≤ s.state; omega) (by show s.state ≤ 17; omega)
        exact ft_17 g F g rfl rfl rfl rfl rfl (by omega) (fun _ => hk) (fun _ => hk)
theorem bk_readByte {s : St} {h : Sh} (hw : W s) (hv : V s) (H : Tl Sh.zero s h) (h3 : 0 ≤ a) (h4 : 0 ≤ t) (b : Int) (he : (Mk.readByte s b).2 = 0) : Bk d a t s (Mk.readByte s b) (Mk.readByte (sb d a t s) b) := by
  by_cases hl : 0 < s.pl
  · have e1 : Mk.readByte s b = Mk.readPart s b := by unfold Mk.readByte; rw [if_pos hl]
    have e2 : Mk.readByte (sb d a t s) b = Mk.readPart (sb d a t s) b := by unfold Mk.readByte; rw [if_pos (show 0 < (sb d a t s).pl from hl)]
    rw [e1] at he ⊢
    rw [e2]
    exact bk_readPart hw hv H h3 hl b he
  · have hp : s.pl = 0 := by have := hw.p0; omega
    cases ho : Mk.isOpen s.rp
    · obtain ⟨f, hr, hf⟩ := rd_of hw.st hp ho b
      have e1 := hf s rfl hp ho
      have e2 := hf (sb d a t s) rfl hp ho
      have hq : Wq s := ⟨hw, hp, ho⟩
      have hio : Io s := fun g => hw.o1 (by omega)
      have low : ∀ (r : St × Int), (s.state ≤ 6 ∨ 20 ≤ s.state) → Tells s r.1 → Ft d a t r.1 → Ft d a t s := by
        intro r hst hT F
        have hlk := F.lk.pre (tells_pre hv hT)
        exact .low hw h3 hst (dp_of H hlk) hlk
      rw [e1] at he ⊢
      rw [e2]
      have hT : Tells s (f s b).1 := by have := tells_readByte hw hv.on b (by rw [e1]; exact he); rw [e1] at this; exact this
      cases hr with
      | r0 g => exact Bk.same (sb_readOutside s b) he (low _ (by omega) hT)
      | r1 g => exact Bk.same (sb_readContent g b) he (low _ (by omega) hT)
      | r2 g => exact Bk.same (sb_readSection g b) he (low _ (by omega) hT)
      | r3 g => exact bk_readLess hq h3 g b he
      | r4 g => exact Bk.same (sb_readBang s b) he (low _ (by omega) hT)
      | r5 g => exact Bk.same (sb_readDash s b) he (low _ (by omega) hT)
      | r6 g => exact Bk.same (sb_readSectionMark s b) he (low _ (by omega) hT)
      | r7 g => exact bk_readComment hq hv h3 g b he
      | r8 g => exact bk_readInstructionName hq hv h3 g b he
      | r9 g =>
        refine Bk.same (sb_readBareInstruction s b) he fun F => ?_
        have ht := hw.tk (by omega) (by omega) (by omega) (by omega) (by omega) (by omega)
        unfold Mk.readBareInstruction at he F
        split at he
        · rename_i g5; rw [if_pos g5] at F
          exact ft_endInstruction hq h3 h4 (.inl g) (by rw [ht.1, ht.2]; rfl) F
        · simp at he
      | r10 g => exact bk_readInstructionSpace hq hv h3 h4 g b he
      | r11 g => exact bk_readInstruction hq hv h3 h4 g b he
      | r12 g => exact bk_readStartName hq hv h3 h4 g b he
      | r13 g => exact bk_readStartSpace hq hv h3 h4 g b he
      | r14 g => exact bk_readAttrName hq hv g b he
      | r15 g => exact bk_readAttrSpace hq h4 g b he
      | r16 g => exact bk_readEquals hq h4 g b he
      | r17 g => exact bk_readValue hq hv g b he
      | r18 g => exact Bk.same (sb_readStartGap hv.cn hv.on b) he fun F => (tg_startGap hv.cn hv.on b he F).ft hq h4 (by omega)
      | r19 g => exact bk_readSlash hq hv H h4 g b he
      | r20 g => exact Bk.same (sb_readEndName hv.cn hv.on b) he (low _ (by omega) hT)
      | r21 g => exact Bk.same (sb_readEndSpace hv.cn hv.on b) he (low _ (by omega) hT)
    · have e1 : Mk.readByte s b = Mk.readReference s b := by unfold Mk.readByte; rw [if_neg hl, if_pos ho]
      have e2 : Mk.readByte (sb d a t s) b = Mk.readReference (sb d a t s) b := by unfold Mk.readByte; rw [if_neg (show ¬ 0 < (sb d a t s).pl from hl), if_pos (show Mk.isOpen (sb d a t s).rp = true from ho)]
      rw [e1] at he ⊢
      rw [e2]
      exact bk_readReference hw hv h3 ho hp b he
end Go.Proofs.YtmgfijllcdadgabGreatDoor

namespace Go.Proofs.YtmgfijllcdadgabGreatDoor
set_option linter.unusedVariables false
set_option linter.unusedSimpArgs false
open Mk (St Bs Ev Att)
variable {d a t : Int}

theorem Ft.of {s s1 : St} (h : Ft d a t s1) (r : Bool) (l c p e : Int) (e1 : s1 = { s with ret := r, line := l, column := c, at_ := p, ended := e }) : Ft d a t s := by
  subst e1
  exact ⟨h.dp, h.dp12, h.at3, h.al, h.at1, h.an, h.ct, h.nm, h.pc, h.rp, h.a14, h.lk⟩
theorem sb_movePlace (s : St) (b : Int) : Mk.movePlace (sb d a t s) b = sb d a t (Mk.movePlace s b) := by
  unfold Mk.movePlace
  show (if b == 10 then _ else if s.pl == 0 then _ else _) = _
  split
  · rfl
  · split <;> rfl
theorem bk_readOn {s : St} {h : Sh} (hw : W s) (hv : V s) (H : Tl Sh.zero s h) (h3 : 0 ≤ a) (h4 : 0 ≤ t) (b : Int) (he : (Mk.readOn s b).2 = 0) : Bk d a t s (Mk.readOn s b) (Mk.readOn (sb d a t s) b) := by
  unfold Mk.readOn at he ⊢
  split at he
  · rename_i g
    rw [if_pos g]
    have hb := bk_readByte (d := d) (a := a) (t := t) hw hv H h3 h4 b g
    have e1 : Mk.readByte (sb d a t s) b = (sb d a t (Mk.readByte s b).1, 0) → (if (Mk.readByte (sb d a t s) b).2 = 0 then (Mk.movePlace (Mk.readByte (sb d a t s) b).1 b, 0) else Mk.readByte (sb d a t s) b) = (sb d a t (Mk.movePlace (Mk.readByte s b).1 b), (0 : Int)) := by
      intro e
      rw [e, if_pos rfl]
      dsimp only
      rw [sb_movePlace]
    refine ⟨?_, fun F => ?_⟩
    · rcases hb.1 with e | e
      · exact .inl (e1 e)
      · right
        rw [if_neg (by rw [e]; decide)]
        exact e
    · obtain ⟨l, c, e⟩ := movePlace_core (Mk.readByte s b).1 b
      have F1 : Ft d a t (Mk.readByte s b).1 := F.of (Mk.readByte s b).1.ret l c (Mk.readByte s b).1.at_ (Mk.readByte s b).1.ended e
      have := hb.2 F1
      exact ⟨this.1, e1 this.2⟩
  · rename_i g; exact absurd he g
theorem fb1 {z : St} {x : UInt8} (h0 : z.ended = 0) (c : (x.toNat : Int) = 10 ∧ z.ret = true) : Mk.feedByte z x = { z with at_ := z.at_ + 1, ret := false, ended := 0 } := by
  unfold Mk.feedByte
  rw [if_pos h0]
  dsimp only
  unfold Mk.read
  rw [if_pos c]
theorem fb2 {z : St} {x : UInt8} (h0 : z.ended = 0) (c : ¬ ((x.toNat : Int) = 10 ∧ z.ret = true)) (c2 : (x.toNat : Int) = 13) : Mk.feedByte z x = { (Mk.readOn { z with at_ := z.at_ + 1, ret := true } 10).1 with ended := (Mk.readOn { z with at_ := z.at_ + 1, ret := true } 10).2 } := by
  unfold Mk.feedByte
  rw [if_pos h0]
  dsimp only
  unfold Mk.read
  rw [if_neg c, if_pos c2]
theorem fb3 {z : St} {x : UInt8} (h0 : z.ended = 0) (c : ¬ ((x.toNat : Int) = 10 ∧ z.ret = true)) (c2 : ¬ (x.toNat : Int) = 13) : Mk.feedByte z x = { (Mk.readOn { z with at_ := z.at_ + 1, ret := false } x.toNat).1 with ended := (Mk.readOn { z with at_ := z.at_ + 1, ret := false } x.toNat).2 } := by
  unfold Mk.feedByte
  rw [if_pos h0]
  dsimp only
  unfold Mk.read
  rw [if_neg c, if_neg c2]
theorem bk_feedByte {s : St} {h : Sh} (hw : W s) (hv : V s) (H : Tl Sh.zero s h) (h3 : 0 ≤ a) (h4 : 0 ≤ t) (h0 : s.ended = 0) (x : UInt8) (he : (Mk.feedByte s x).ended = 0) :
    (Mk.feedByte (sb d a t s) x = sb d a t (Mk.feedByte s x) ∨ (Mk.feedByte (sb d a t s) x).ended = 7) ∧ (Ft d a t (Mk.feedByte s x) → Ft d a t s ∧ Mk.feedByte (sb d a t s) x = sb d a t (Mk.feedByte s x)) := by
  have on : ∀ (r : Bool) (b : Int), (Mk.readOn { s with at_ := s.at_ + 1, ret := r } b).2 = 0 → Bk d a t { s with at_ := s.at_ + 1, ret := r } (Mk.readOn { s with at_ := s.at_ + 1, ret := r } b) (Mk.readOn (sb d a t { s with at_ := s.at_ + 1, ret := r }) b) := fun r b hb =>
    bk_readOn (hw.at (s.at_ + 1) r) (hv.at (s.at_ + 1) r) (h := h) (H.quiet (.of rfl rfl rfl rfl rfl rfl rfl)) h3 h4 b hb
  have key : ∀ (r : Bool) (b : Int), (Mk.readOn { s with at_ := s.at_ + 1, ret := r } b).2 = 0 →
      ({ (Mk.readOn (sb d a t { s with at_ := s.at_ + 1, ret := r }) b).1 with ended := (Mk.readOn (sb d a t { s with at_ := s.at_ + 1, ret := r }) b).2 } = sb d a t { (Mk.readOn { s with at_ := s.at_ + 1, ret := r } b).1 with ended := (Mk.readOn { s with at_ := s.at_ + 1, ret := r } b).2 } ∨ (Mk.readOn (sb d a t { s with at_ := s.at_ + 1, ret := r }) b).2 = 7)
      ∧ (Ft d a t { (Mk.readOn { s with at_ := s.at_ + 1, ret := r } b).1 with ended := (Mk.readOn { s with at_ := s.at_ + 1, ret := r } b).2 } → Ft d a t s ∧ { (Mk.readOn (sb d a t { s with at_ := s.at_ + 1, ret := r }) b).1 with ended := (Mk.readOn (sb d a t { s with at_ := s.at_ + 1, ret := r }) b).2 } = sb d a t { (Mk.readOn { s with at_ := s.at_ + 1, ret := r } b).1 with ended := (Mk.readOn { s with at_ := s.at_ + 1, ret := r } b).2 }) := by
    intro r b hb
    have hB := on r b hb
    have e1 : Mk.readOn (sb d a t { s with at_ := s.at_ + 1, ret := r }) b = (sb d a t (Mk.readOn { s with at_ := s.at_ + 1, ret := r } b).1, 0) → { (Mk.readOn (sb d a t { s with at_ := s.at_ + 1, ret := r }) b).1 with ended := (Mk.readOn (sb d a t { s with at_ := s.at_ + 1, ret := r }) b).2 } = sb d a t { (Mk.readOn { s with at_ := s.at_ + 1, ret := r } b).1 with ended := (Mk.readOn { s with at_ := s.at_ + 1, ret := r } b).2 } := by
      intro e
      rw [e, hb]
      rfl
    refine ⟨?_, fun F => ?_⟩
    · rcases hB.1 with e | e
      · exact .inl (e1 e)
      · exact .inr e
    · have F1 : Ft d a t (Mk.readOn { s with at_ := s.at_ + 1, ret := r } b).1 := F.of (Mk.readOn { s with at_ := s.at_ + 1, ret := r } b).1.ret (Mk.readOn { s with at_ := s.at_ + 1, ret := r } b).1.line (Mk.readOn { s with at_ := s.at_ + 1, ret := r } b).1.column (Mk.readOn { s with at_ := s.at_ + 1, ret := r } b).1.at_ _ rfl
      have := hB.2 F1
      exact ⟨this.1.of r s.line s.column (s.at_ + 1) s.ended rfl, e1 this.2⟩
  have hk0 : (sb d a t s).ended = 0 := h0
  by_cases c1 : (x.toNat : Int) = 10 ∧ s.ret = true
  · rw [fb1 h0 c1, fb1 hk0 c1]
    exact ⟨.inl rfl, fun F => ⟨F.of false s.line s.column (s.at_ + 1) 0 rfl, rfl⟩⟩
  · by_cases c2 : (x.toNat : Int) = 13
    · rw [fb2 h0 c1 c2] at he
      rw [fb2 h0 c1 c2, fb2 hk0 c1 c2]
      exact key true 10 he
    · rw [fb3 h0 c1 c2] at he
      rw [fb3 h0 c1 c2, fb3 hk0 c1 c2]
      exact key false x.toNat he
theorem fa_stuck : ∀ (l : Bs) (z : St), z.ended ≠ 0 → Mk.feedAll z l = z
  | [], z, _ => rfl
  | y :: r, z, hz => by
    show Mk.feedAll (Mk.feedByte z y) r = z
    have : Mk.feedByte z y = z := by unfold Mk.feedByte; rw [if_neg hz]
    rw [this]; exact fa_stuck r z hz
theorem bk_feedAll (h3 : 0 ≤ a) (h4 : 0 ≤ t) : ∀ (l : Bs) {s : St} {h : Sh}, W s → V s → Tl Sh.zero s h → s.ended = 0 → (Mk.feedAll s l).ended = 0 →
    (Mk.feedAll (sb d a t s) l = sb d a t (Mk.feedAll s l) ∨ (Mk.feedAll (sb d a t s) l).ended = 7) ∧ (Ft d a t (Mk.feedAll s l) → Ft d a t s ∧ Mk.feedAll (sb d a t s) l = sb d a t (Mk.feedAll s l))
  | [], s, h, hw, hv, H, h0, he => ⟨.inl rfl, fun F => ⟨F, rfl⟩⟩
  | x :: r, s, h, hw, hv, H, h0, he => by
    have hx := feedAll_cons_ok he
    have h1 := bk_feedByte (d := d) (a := a) (t := t) hw hv H h3 h4 h0 x hx
    obtain ⟨g, G⟩ := tl_feedByte hw hv H h0 x hx
    have h2 := bk_feedAll h3 h4 r (w_feedByte hw x hx) (v_feedByte hw hv h0 x hx) G hx he
    refine ⟨?_, fun F => ?_⟩
    · show Mk.feedAll (Mk.feedByte (sb d a t s) x) r = _ ∨ (Mk.feedAll (Mk.feedByte (sb d a t s) x) r).ended = 7
      rcases h1.1 with e | e
      · rw [e]; exact h2.1
      · right
        rw [fa_stuck r _ (by rw [e]; decide)]
        exact e
    · have f2 := h2.2 F
      have f1 := h1.2 f2.1
      refine ⟨f1.1, ?_⟩
      show Mk.feedAll (Mk.feedByte (sb d a t s) x) r = _
      rw [f1.2]; exact f2.2
/-- The shape only grows. -/
theorem sh1_mono {h h' : Sh} {e : Ev} (x : sh1 h e = some h') : h.dep ≤ h'.dep ∧ h.att ≤ h'.att ∧ h.tok ≤ h'.tok ∧ h'.opn.length ≤ h'.dep ∧ e.attrs.length ≤ h'.att ∧ longE e ≤ h'.tok := by
  unfold sh1 at x
  split at x
  · cases x
  · split at x
    · cases x
    · split at x
      · cases x
        dsimp only
        omega
      · cases x
theorem shs_mono : ∀ (l : List Ev) (h h' : Sh), shs h l = some h' → h.opn.length ≤ h.dep → h.dep ≤ h'.dep ∧ h.att ≤ h'.att ∧ h.tok ≤ h'.tok ∧ h'.opn.length ≤ h'.dep ∧ ∀ e ∈ l, e.attrs.length ≤ h'.att ∧ longE e ≤ h'.tok
  | [], h, h', x, ho => by cases x; exact ⟨Nat.le_refl _, Nat.le_refl _, Nat.le_refl _, ho, fun e he => by cases he⟩
  | e :: r, h, h', x, ho => by
    have x' : (match sh1 h e with | none => none | some h' => shs h' r) = some h' := x
    cases h1 : sh1 h e with
    | none => rw [h1] at x'; cases x'
    | some g =>
      rw [h1] at x'
      have m1 := sh1_mono h1
      have m2 := shs_mono r g h' x' m1.2.2.2.1
      refine ⟨by omega, by omega, by omega, m2.2.2.2.1, fun y hy => ?_⟩
      rcases List.mem_cons.1 hy with rfl | hy
      · omega
      · exact m2.2.2.2.2 y hy
theorem lk_of {l : List Ev} {h : Sh} (H : shs Sh.zero l = some h) (hd : (h.dep : Int) ≤ d) (ha : (h.att : Int) ≤ a) (ht : (h.tok : Int) ≤ t) : Lk d a t l := by
  have m := shs_mono l Sh.zero h H (Nat.le_refl _)
  refine ⟨fun e he => ?_, fun pre hp g hg => ?_⟩
  · have := m.2.2.2.2 e he; omega
  · obtain ⟨r, rfl⟩ := hp
    rw [shs_app, hg] at H
    have m1 := shs_mono pre Sh.zero g hg (Nat.le_refl _)
    have m2 := shs_mono r g h H m1.2.2.2.1
    omega
/-- With bounds that it keeps a document is read alike. -/
theorem doc_enough {od oa ot : Int} (d1 : 1 ≤ od) (t1 : 8 ≤ ot) (a1 : 0 ≤ oa) (a2 : oa ≤ 32) (D : Bs) (he : (Mk.feedAll (Mk.make_ od oa ot false) D).ended = 0) (hd : Mk.isDocument (Mk.feedAll (Mk.make_ od oa ot false) D) = true) {h : Sh} (hs : shs Sh.zero (Mk.feedAll (Mk.make_ od oa ot false) D).list = some h)
    (g1 : (h.dep : Int) ≤ d) (g2 : (h.att : Int) ≤ a) (g3 : (h.tok : Int) ≤ t) : Mk.feedAll (Mk.make_ d a t false) D = sb d a t (Mk.feedAll (Mk.make_ od oa ot false) D) := by
  obtain ⟨hw, hv, h', H'⟩ := tl_feedAll D (w_make od oa ot false d1 t1 a2) (v_make od oa ot t1 a1) (tl_make od oa ot d1 t1 a1) rfl he
  have hst : (Mk.feedAll (Mk.make_ od oa ot false) D).state = 0 := by unfold Mk.isDocument at hd; simpa using (Bool.and_eq_true_iff.1 hd).2
  have hop := hw.o0 hst
  have hF : Ft d a t (Mk.feedAll (Mk.make_ od oa ot false) D) := .low hw (by omega) (by omega) (by rw [hop]; show (0 : Int) ≤ d; omega) (lk_of hs g1 g2 g3)
  exact ((bk_feedAll (d := d) (a := a) (t := t) (by omega) (by omega) D (w_make od oa ot false d1 t1 a2) (v_make od oa ot t1 a1) (tl_make od oa ot d1 t1 a1) rfl he).2 hF).2
/-- With a bound that it does not keep a document is refused. -/
theorem doc_less {od oa ot : Int} (d1 : 1 ≤ od) (t1 : 8 ≤ ot) (a1 : 0 ≤ oa) (a2 : oa ≤ 32) (D : Bs) (he : (Mk.feedAll (Mk.make_ od oa ot false) D).ended = 0) (hd : Mk.isDocument (Mk.feedAll (Mk.make_ od oa ot false) D) = true) {h : Sh} (hs : shs Sh.zero (Mk.feedAll (Mk.make_ od oa ot false) D).list = some h)
    (k1 : 1 ≤ d) (k2 : 0 ≤ a) (k3 : 8 ≤ t) (k4 : a ≤ 32) (hn : ¬ ((h.dep : Int) ≤ d ∧ (h.att : Int) ≤ a ∧ (h.tok : Int) ≤ t)) : (Mk.feedAll (Mk.make_ d a t false) D).ended = 7 := by
  rcases (bk_feedAll (d := d) (a := a) (t := t) k2 (by omega) D (w_make od oa ot false d1 t1 a2) (v_make od oa ot t1 a1) (tl_make od oa ot d1 t1 a1) rfl he).1 with e | e
  · exfalso
    have e' : Mk.feedAll (Mk.make_ d a t false) D = sb d a t (Mk.feedAll (Mk.make_ od oa ot false) D) := e
    obtain ⟨h2, H2, _, _, _, m1, m2, m3⟩ := shape_doc d a t k1 k3 k2 k4 D (by rw [e']; exact he) (by rw [e']; exact hd)
    have := H2.ex
    rw [e'] at this
    have this : shs Sh.zero (Mk.feedAll (Mk.make_ od oa ot false) D).list = some h2 := this
    rw [hs] at this
    cases this
    exact hn ⟨m1, m2, m3⟩
  · exact e
end Go.Proofs.YtmgfijllcdadgabGreatDoor
