/-
  WHAT A PARSER KEEPS: bounds on all that grows, byte by byte (no Go, no memory).
-/
import Derived.Test.YtkkakfocjbnomaaDoorAsides
import Derived.Test.YtkkakfocjbnomaaDoorKeepsL
namespace Go.Proofs.YtkkakfocjbnomaaDoor
set_option linter.unusedVariables false
set_option linter.unusedSimpArgs false
open Mk (St Bs Ev Att)

/-- What may be held back where. -/
def Hs (st : Int) (hd : Bs) : Prop := hd = [] ∨ (st = 7 ∧ (hd = [45] ∨ hd = [45, 45])) ∨ (st = 2 ∧ (hd = [93] ∨ hd = [93, 93])) ∨ (st = 11 ∧ hd = [63])
theorem Hs.len {st : Int} {hd : Bs} (h : Hs st hd) : hd.length ≤ 2 := by
  rcases h with rfl | ⟨_, rfl | rfl⟩ | ⟨_, rfl | rfl⟩ | ⟨_, rfl⟩ <;> decide
theorem Hs.none {st : Int} {hd : Bs} (h : Hs st hd) (h7 : st ≠ 7) (h2 : st ≠ 2) (h11 : st ≠ 11) : hd = [] := by
  rcases h with h | ⟨e, _⟩ | ⟨e, _⟩ | ⟨e, _⟩
  · exact h
  · exact absurd e h7
  · exact absurd e h2
  · exact absurd e h11
structure Inv (k : Nat) (s : St) : Prop where
  hx : s.text.length ≤ k
  ht : s.token.length ≤ k
  c0 : 0 ≤ s.count
  c1 : s.count ≤ k
  hl : s.list.length ≤ k
  ho : s.opn.length ≤ k
  ha : s.attrs.length ≤ k
  hs : Hs s.state s.held
  pt : Pt s.pc s.pl
  rn : s.rn.length ≤ 5
  r0 : 0 ≤ s.rc
  r1 : s.rc ≤ 1114111
  m0 : 0 ≤ s.matched
  m1 : s.matched ≤ k + 10
  am : s.am = false
  on : ∀ y ∈ s.opn, y.length ≤ k
  hn : s.name.length ≤ k
  ev : ∀ e ∈ s.list, e.val.length ≤ k
  l0 : 0 ≤ s.line
  l1 : s.line ≤ k + 1
  cl0 : 0 ≤ s.column
  cl1 : s.column ≤ k + 1

theorem Inv.mono {k k' : Nat} {s : St} (h : Inv k s) (hk : k ≤ k') : Inv k' s :=
  ⟨Nat.le_trans h.hx hk, Nat.le_trans h.ht hk, h.c0, by have := h.c1; omega, Nat.le_trans h.hl hk, Nat.le_trans h.ho hk, Nat.le_trans h.ha hk, h.hs, h.pt, h.rn, h.r0, h.r1, h.m0, by have := h.m1; omega, h.am, fun y hy => Nat.le_trans (h.on y hy) hk, Nat.le_trans h.hn hk, fun e he => Nat.le_trans (h.ev e he) hk, h.l0, by have := h.l1; omega, h.cl0, by have := h.cl1; omega⟩
theorem Inv.bd {k : Nat} {s : St} (h : Inv k s) (hk : k ≤ 90000000) : Bd s :=
  ⟨by have := h.hx; omega, by have := h.ht; omega, h.c0, by have := h.c1; omega, by have := h.hl; omega, by have := h.ho; omega, by have := h.ha; omega, h.hs.len, h.pt, h.rn, h.r0, h.r1, h.m0, by have := h.m1; omega, h.am⟩

theorem inv_put {k : Nat} {s : St} (h : Inv k s) (c : Int) : Inv (k + 4) (Mk.put s c) := by
  have hl := put_len s c
  have h1 := h.hx
  have h2 := h.ht
  have h3 := h.c0
  have h4 := h.c1
  have hm := h.mono (show k ≤ k + 4 by omega)
  unfold Mk.put at hl ⊢
  split
  · rename_i hi
    rw [if_pos hi] at hl
    exact { hm with hx := by show (s.text ++ Mk.encode c).length ≤ k + 4; have := hl.1; simp only at this; omega }
  · rename_i hi
    rw [if_neg hi] at hl
    exact { hm with ht := by show (s.token ++ Mk.encode c).length ≤ k + 4; have := hl.2.1; simp only at this; omega, c0 := by show 0 ≤ s.count + 1; omega, c1 := by show s.count + 1 ≤ ((k + 4 : Nat) : Int); omega }
theorem inv_putAll : ∀ (l : Bs) {k : Nat} {s : St} (h : Inv k s), Inv (k + 4 * l.length) (Mk.putAll s l)
  | [], k, s, h => h
  | x :: r, k, s, h => (inv_putAll r (inv_put h x.toNat)).mono (by simp; omega)
theorem inv_goOn {k : Nat} {s : St} (h : Inv k s) (p : Int × Int) (hp : Pt p.1 p.2) : Inv (k + 4) (Mk.goOn s p) := by
  unfold Mk.goOn
  have h1 : Inv k { s with pc := p.1, pl := p.2 } := { h with pt := hp }
  split
  · exact inv_put h1 _
  · exact h1.mono (by omega)
theorem inv_readCharacter {k : Nat} {s : St} (h : Inv k s) (x : Int) (h0 : 0 ≤ x) (h1 : x ≤ 255) : Inv (k + 12) (Mk.readCharacter s x).1 := by
  unfold Mk.readCharacter
  split
  · exact h.mono (by omega)
  · rename_i p hp
    split
    · have h2 := inv_putAll s.held h
      have h3 : Inv (k + 8) { Mk.putAll s s.held with held := [] } := { h2.mono (by have := h.hs.len; omega) with hs := .inl rfl }
      exact inv_goOn h3 p (begin_pt h0 h1 hp)
    · exact h.mono (by omega)
theorem inv_dropToken {k : Nat} {s : St} (h : Inv k s) : Inv k (Mk.dropToken s) := { h with ht := by simp [Mk.dropToken], c0 := by simp [Mk.dropToken], c1 := by simp [Mk.dropToken] }
theorem inv_endText {k : Nat} {s : St} (h : Inv k s) : Inv (k + 1) (Mk.endText s) := by
  unfold Mk.endText
  split
  · exact h.mono (by omega)
  · exact { h.mono (show k ≤ k + 1 by omega) with hx := by simp, hl := (by have := h.hl; simp; omega), ev := (by
      intro e he
      rcases List.mem_append.1 he with he | he
      · have := h.ev e he; omega
      · simp at he; subst he; have := h.hx; show s.text.length ≤ k + 1; omega) }
theorem inv_add {k : Nat} {s : St} (h : Inv k s) (e : Ev) (hev : e.val.length ≤ k) : Inv (k + 2) (Mk.add s e) := by
  have h1 := inv_endText h
  unfold Mk.add
  exact { h1.mono (show k + 1 ≤ k + 2 by omega) with hl := (by have := h1.hl; simp; omega), ev := (by
      intro y hy
      rcases List.mem_append.1 hy with hy | hy
      · have := h1.ev y hy; omega
      · simp at hy; subst hy; omega) }
theorem inv_resume {k : Nat} {s : St} (h : Inv k s) (hd : s.held = []) : Inv k (Mk.resume s) := { h with hs := .inl hd }
theorem inv_tellStart {k : Nat} {s : St} (h : Inv k s) : Inv (k + 2) (Mk.tellStart s) := by
  have h1 := inv_add h ⟨1, s.name, [], [], s.attrs⟩ (by simp)
  unfold Mk.tellStart
  exact { h1 with ha := by simp }
theorem add_held (s : St) (e : Ev) : (Mk.add s e).held = s.held ∧ (Mk.add s e).opn = s.opn ∧ (Mk.add s e).name = s.name := by unfold Mk.add Mk.endText; split <;> exact ⟨rfl, rfl, rfl⟩
theorem inv_tellEnd {k : Nat} {s : St} (h : Inv k s) (hd : s.held = []) (n : Bs) : Inv (k + 2) (Mk.tellEnd s n) := by
  have h1 := inv_add h ⟨2, n, [], [], []⟩ (by simp)
  unfold Mk.tellEnd
  exact inv_resume (s := { Mk.add s ⟨2, n, [], [], []⟩ with over := decide (s.opn.length = 0) }) { h1 with } ((add_held s ⟨2, n, [], [], []⟩).1.trans hd)
theorem inv_lengthenName {k : Nat} {s : St} (h : Inv k s) (x : Int) : Inv (k + 4) (Mk.lengthenName s x).1 := by
  unfold Mk.lengthenName
  split
  · exact inv_put h x
  · exact h.mono (by omega)
theorem inv_readStartGap {k : Nat} {s : St} (h : Inv k s) (hd : s.held = []) (x : Int) : Inv (k + 4) (Mk.readStartGap s x).1 := by
  have hm := h.mono (show k ≤ k + 4 by omega)
  unfold Mk.readStartGap
  split
  · exact { hm with hs := .inl hd }
  · split
    · exact { hm with hs := .inl hd }
    · split
      · have h1 := inv_tellStart h
        have h2 := h1.mono (show k + 2 ≤ k + 4 by omega)
        refine inv_resume (s := { Mk.tellStart s with opn := s.opn ++ [s.name], name := [] }) { h2 with ho := ?_, on := ?_, hn := by simp } ((add_held s ⟨1, s.name, [], [], s.attrs⟩).1.trans hd)
        · have := h.ho; simp; omega
        · intro y hy
          rcases List.mem_append.1 hy with hy | hy
          · have := h.on y hy; omega
          · simp at hy; subst hy; have := h.hn; omega
      · exact hm
theorem inv_refs {s : St} {x : Int} (h0 : 0 ≤ x) (c0 : 0 ≤ s.rc) {r : Mk.Rf} (h : Mk.refNext ⟨s.rp, s.rn, s.rc⟩ x = some r) : 0 ≤ r.code ∧ r.code ≤ 1114111 ∧ r.name.length ≤ 5 := by
  have hD : ∀ base place r, (base = 10 ∨ base = 16) → Mk.refDigit s.rc x base place = some r → 0 ≤ r.code ∧ r.code ≤ 1114111 ∧ r.name.length ≤ 5 := by
    intro base place r hb h
    unfold Mk.refDigit at h
    split at h
    · cases h
    · rename_i v hv
      split at h
      · cases h
      · cases h
        have := digit_bd h0 (by omega) hv
        have h9 : 0 ≤ s.rc * base := Int.mul_nonneg c0 (by omega)
        simp
        omega
  have hE : ∀ base place r, (base = 10 ∨ base = 16) → Mk.digitOrEnd s.rc x base place = some r → 0 ≤ r.code ∧ r.code ≤ 1114111 ∧ r.name.length ≤ 5 := by
    intro base place r hb h
    unfold Mk.digitOrEnd at h
    split at h
    · split at h
      · rename_i hi
        cases h
        have := isChar_bd hi
        simp
        omega
      · cases h
    · exact hD base place r hb h
  have hI : ∀ l r, (∀ q ∈ l, 0 ≤ q.2 ∧ q.2 ≤ 1114111 ∧ q.1.length ≤ 5) → Mk.letterIn (s.rn ++ [Mk.u8 x]) l = some r → 0 ≤ r.code ∧ r.code ≤ 1114111 ∧ r.name.length ≤ 5 := by
    intro l
    induction l with
    | nil => intro r _ h; cases h
    | cons q l ih =>
      intro r hq h
      obtain ⟨nm, cd⟩ := q
      have h9 := hq (nm, cd) List.mem_cons_self
      simp only at h9
      unfold Mk.letterIn at h
      split at h
      · cases h; simp; omega
      · split at h
        · rename_i hpre
          cases h
          have := (List.isPrefixOf_iff_prefix.1 hpre).length_le
          simp only
          exact ⟨by decide, by decide, Nat.le_trans this h9.2.2⟩
        · exact ih r (fun q hq' => hq q (List.mem_cons_of_mem _ hq')) h
  have hL : ∀ r, Mk.letter s.rn x = some r → 0 ≤ r.code ∧ r.code ≤ 1114111 ∧ r.name.length ≤ 5 := fun r h => hI _ r (by decide) h
  unfold Mk.refNext at h
  repeat' split at h
  all_goals first
    | (cases h; done)
    | (cases h; simp; done)
    | exact hL r h
    | exact hD _ _ r (.inl rfl) h
    | exact hD _ _ r (.inr rfl) h
    | exact hE _ _ r (.inl rfl) h
    | exact hE _ _ r (.inr rfl) h
theorem inv_setRef {k : Nat} {s : St} (h : Inv k s) (r : Mk.Rf) (h1 : 0 ≤ r.code ∧ r.code ≤ 1114111 ∧ r.name.length ≤ 5) : Inv k (Mk.setRef s r) := { h with rn := h1.2.2, r0 := h1.1, r1 := h1.2.1 }

section
variable {k : Nat} {s : St}
theorem inv_endInstruction (h : Inv k s) : Inv (k + 4) (Mk.endInstruction s) := by
  unfold Mk.endInstruction
  have h1 : Inv k (Mk.dropToken { s with held := [] }) := inv_dropToken { h with hs := .inl rfl }
  have h2 := inv_add h1 ⟨5, s.name, [], s.token, []⟩ h.ht
  exact inv_resume (s := { Mk.add (Mk.dropToken { s with held := [] }) ⟨5, s.name, [], s.token, []⟩ with name := [] }) { h2.mono (show k + 2 ≤ k + 4 by omega) with hn := by simp } ((add_held (Mk.dropToken { s with held := [] }) ⟨5, s.name, [], s.token, []⟩).1.trans rfl)
theorem inv_endComment (h : Inv k s) : Inv (k + 4) (Mk.endComment s) := by
  unfold Mk.endComment
  have h1 : Inv k (Mk.dropToken { s with held := [] }) := inv_dropToken { h with hs := .inl rfl }
  have h2 := inv_add h1 ⟨4, [], [], s.token, []⟩ h.ht
  exact inv_resume (h2.mono (by omega)) ((add_held (Mk.dropToken { s with held := [] }) ⟨4, [], [], s.token, []⟩).1.trans rfl)
theorem inv_readPart (h : Inv k s) (x : Int) (l0 : 0 < s.pl) : Inv (k + 12) (Mk.readPart s x).1 := by
  unfold Mk.readPart
  split
  · exact h.mono (by omega)
  · rename_i p hp
    exact (inv_goOn h p (nextPart_pt h.pt l0 hp)).mono (by omega)
theorem inv_readReference (h : Inv k s) (x : Int) (h0 : 0 ≤ x) : Inv (k + 12) (Mk.readReference s x).1 := by
  unfold Mk.readReference
  split
  · exact h.mono (by omega)
  · rename_i r hr
    have h1 := inv_setRef h r (inv_refs h0 h.r0 hr)
    split
    · exact h1.mono (by omega)
    · exact (inv_put h1 _).mono (by omega)
theorem inv_readComment (h : Inv k s) (x : Int) (h0 : 0 ≤ x) (h1 : x ≤ 255) (hst : s.state = 7) : Inv (k + 12) (Mk.readComment s x).1 := by
  unfold Mk.readComment
  split
  · exact (inv_endComment h).mono (by omega)
  · split
    · exact h.mono (by omega)
    · split
      · rename_i n1 n2 n3
        refine { h.mono (show k ≤ k + 12 by omega) with hs := ?_ }
        show Hs s.state (s.held ++ [45])
        rcases h.hs with e | ⟨_, e | e⟩ | ⟨e, _⟩ | ⟨e, _⟩
        · rw [e]; exact .inr (.inl ⟨hst, .inl rfl⟩)
        · rw [e]; exact .inr (.inl ⟨hst, .inr rfl⟩)
        · exact absurd e n2
        · omega
        · omega
      · exact inv_readCharacter h x h0 h1
theorem inv_readSection (h : Inv k s) (x : Int) (h0 : 0 ≤ x) (h1 : x ≤ 255) (hst : s.state = 2) : Inv (k + 12) (Mk.readSection s x).1 := by
  unfold Mk.readSection
  split
  · exact { h.mono (show k ≤ k + 12 by omega) with hs := .inl rfl }
  · split
    · exact (inv_put h _).mono (by omega)
    · split
      · rename_i n1 n2 n3
        refine { h.mono (show k ≤ k + 12 by omega) with hs := ?_ }
        show Hs s.state (s.held ++ [93])
        rcases h.hs with e | ⟨e, _⟩ | ⟨_, e | e⟩ | ⟨e, _⟩
        · rw [e]; exact .inr (.inr (.inl ⟨hst, .inl rfl⟩))
        · omega
        · rw [e]; exact .inr (.inr (.inl ⟨hst, .inr rfl⟩))
        · exact absurd ⟨n3, e⟩ n2
        · omega
      · exact inv_readCharacter h x h0 h1
theorem inv_readInstruction (h : Inv k s) (x : Int) (h0 : 0 ≤ x) (h1 : x ≤ 255) (hst : s.state = 11) : Inv (k + 12) (Mk.readInstruction s x).1 := by
  unfold Mk.readInstruction
  split
  · exact (inv_endInstruction h).mono (by omega)
  · split
    · split
      · exact (inv_put h _).mono (by omega)
      · exact h.mono (by omega)
    · split
      · exact { h.mono (show k ≤ k + 12 by omega) with hs := .inr (.inr (.inr ⟨hst, rfl⟩)) }
      · exact inv_readCharacter h x h0 h1
theorem inv_readContent (h : Inv k s) (hd : s.held = []) (x : Int) (h0 : 0 ≤ x) (h1 : x ≤ 255) : Inv (k + 12) (Mk.readContent s x).1 := by
  have hm := h.mono (show k ≤ k + 12 by omega)
  unfold Mk.readContent
  split
  · exact { hm with hs := .inl hd }
  · split
    · exact inv_setRef (s := { s with brackets := 0 }) { hm with } _ (by simp)
    · split
      · split
        · exact { hm with }
        · exact inv_readCharacter (s := { s with brackets := 0 }) { h with } x h0 h1
      · split
        · exact inv_readCharacter (s := { s with brackets := if s.brackets == 0 then 1 else 2 }) { h with } x h0 h1
        · exact inv_readCharacter (s := { s with brackets := 0 }) { h with } x h0 h1
theorem inv_readOutside (h : Inv k s) (hd : s.held = []) (x : Int) : Inv (k + 12) (Mk.readOutside s x).1 := by
  have hm := h.mono (show k ≤ k + 12 by omega)
  unfold Mk.readOutside
  repeat' split
  all_goals first | exact hm | exact { hm with hs := .inl hd }
theorem inv_readValue (h : Inv k s) (hd : s.held = []) (x : Int) (h0 : 0 ≤ x) (h1 : x ≤ 255) : Inv (k + 12) (Mk.readValue s x).1 := by
  have hm := h.mono (show k ≤ k + 12 by omega)
  unfold Mk.readValue
  split
  · unfold Mk.endValue
    have h2 := inv_dropToken hm
    exact { h2 with ha := by have := h.ha; simp; omega, hs := .inl hd }
  · split
    · exact hm
    · split
      · split
        · exact inv_setRef hm _ (by simp)
        · exact hm
      · split
        · exact inv_readCharacter h 32 (by decide) (by decide)
        · exact inv_readCharacter h x h0 h1
theorem inv_readLess (h : Inv k s) (hd : s.held = []) (x : Int) : Inv (k + 12) (Mk.readLess s x).1 := by
  have hm := h.mono (show k ≤ k + 12 by omega)
  unfold Mk.readLess
  split
  · exact { hm with hs := .inl hd }
  · split
    · exact { hm with hs := .inl hd }
    · split
      · exact { hm with hs := .inl hd, m0 := by simp, m1 := by simp; omega }
      · split
        · unfold Mk.beginStart
          split
          · exact hm
          · exact (inv_put (s := { s with state := 12 }) { h with hs := .inl hd } x).mono (by omega)
        · exact hm
theorem inv_readBang (h : Inv k s) (hd : s.held = []) (x : Int) : Inv (k + 12) (Mk.readBang s x).1 := by
  have hm := h.mono (show k ≤ k + 12 by omega)
  unfold Mk.readBang
  split
  · exact { hm with hs := .inl hd }
  · split
    · exact { hm with hs := .inl hd, m0 := by simp, m1 := by simp; omega }
    · exact hm
theorem inv_readDash (h : Inv k s) (hd : s.held = []) (x : Int) : Inv (k + 12) (Mk.readDash s x).1 := by
  have hm := h.mono (show k ≤ k + 12 by omega)
  unfold Mk.readDash
  split
  · exact { hm with hs := .inl hd }
  · exact hm
theorem inv_readSectionMark (h : Inv k s) (hd : s.held = []) (x : Int) : Inv (k + 12) (Mk.readSectionMark s x).1 := by
  have hm := h.mono (show k ≤ k + 12 by omega)
  have m0 := h.m0
  have m1 := h.m1
  unfold Mk.readSectionMark
  split
  · exact hm
  · split
    · exact { hm with hs := .inl hd, m0 := by simp; omega, m1 := by simp; omega }
    · exact { hm with m0 := by simp; omega, m1 := by simp; omega }
theorem inv_readInstructionName (h : Inv k s) (hd : s.held = []) (x : Int) : Inv (k + 12) (Mk.readInstructionName s x).1 := by
  have hm := h.mono (show k ≤ k + 12 by omega)
  unfold Mk.readInstructionName
  split
  · exact hm
  · split
    · exact (inv_lengthenName h x).mono (by omega)
    · split
      · exact hm
      · split
        · exact { inv_dropToken hm with hs := .inl hd, hn := hm.ht }
        · split
          · exact { inv_dropToken hm with hs := .inl hd, hn := hm.ht }
          · exact hm
theorem inv_readInstructionSpace (h : Inv k s) (hd : s.held = []) (x : Int) (h0 : 0 ≤ x) (h1 : x ≤ 255) : Inv (k + 12) (Mk.readInstructionSpace s x).1 := by
  unfold Mk.readInstructionSpace
  split
  · exact h.mono (by omega)
  · exact inv_readInstruction (s := { s with state := 11 }) { h with hs := .inl hd } x h0 h1 rfl
theorem inv_readBareInstruction (h : Inv k s) (x : Int) : Inv (k + 12) (Mk.readBareInstruction s x).1 := by
  unfold Mk.readBareInstruction
  split
  · exact (inv_endInstruction h).mono (by omega)
  · exact h.mono (by omega)
theorem inv_readEndSpace (h : Inv k s) (hd : s.held = []) (x : Int) : Inv (k + 12) (Mk.readEndSpace s x).1 := by
  have hm := h.mono (show k ≤ k + 12 by omega)
  unfold Mk.readEndSpace
  split
  · exact { hm with hs := .inl hd }
  · split
    · unfold Mk.endInnermost
      have h2 : Inv k { s with opn := s.opn.dropLast } := { h with ho := by have := h.ho; simp; omega, on := fun y hy => h.on y (List.dropLast_subset _ hy) }
      exact (inv_tellEnd h2 hd _).mono (by omega)
    · exact hm
theorem innermost_len (h : Inv k s) : (Mk.innermost s).length ≤ k := by
  unfold Mk.innermost
  by_cases hn : s.opn = []
  · simp [hn]
  · rw [List.getLastD_eq_getLast?, List.getLast?_eq_some_getLast hn]
    exact h.on _ (List.getLast_mem hn)
theorem inv_readEndName (h : Inv k s) (hd : s.held = []) (x : Int) : Inv (k + 12) (Mk.readEndName s x).1 := by
  have hm := h.mono (show k ≤ k + 12 by omega)
  have hi := innermost_len h
  have m0 := h.m0
  unfold Mk.readEndName
  split
  · split
    · exact hm
    · exact { hm with m0 := by simp; omega, m1 := by simp; omega }
  · split
    · exact hm
    · exact inv_readEndSpace h hd x
theorem inv_readAttrSpace (h : Inv k s) (hd : s.held = []) (x : Int) : Inv k (Mk.readAttrSpace s x).1 := by
  unfold Mk.readAttrSpace
  repeat' split
  all_goals first | exact h | exact { h with hs := .inl hd }
theorem inv_readStartTag (h : Inv k s) (hd : s.held = []) (x : Int) : Inv (k + 12) (Mk.readStartTag s x).1 := by
  have hm := h.mono (show k ≤ k + 12 by omega)
  unfold Mk.readStartTag
  split
  · unfold Mk.readStartName
    split
    · exact (inv_lengthenName h x).mono (by omega)
    · exact (inv_readStartGap (s := { Mk.dropToken s with name := s.token }) { inv_dropToken h with hn := h.ht } hd x).mono (by omega)
  · split
    · unfold Mk.readStartSpace
      split
      · exact (inv_readStartGap h hd x).mono (by omega)
      · split
        · exact hm
        · exact (inv_put (s := { s with state := 14 }) { h with hs := .inl hd } x).mono (by omega)
    · split
      · unfold Mk.readAttrName
        split
        · unfold Mk.lengthenAttrName
          split
          · split
            · exact (inv_put h x).mono (by omega)
            · exact (inv_put h x).mono (by omega)
          · exact hm
        · split
          · exact hm
          · split
            · exact hm
            · exact inv_readAttrSpace (s := { Mk.dropToken s with attr := s.token }) { inv_dropToken hm with } hd x
      · split
        · exact inv_readAttrSpace hm hd x
        · split
          · unfold Mk.readEquals
            split
            · exact hm
            · split
              · exact { hm with hs := .inl hd }
              · exact hm
          · split
            · exact (inv_readStartGap h hd x).mono (by omega)
            · unfold Mk.readSlash
              split
              · exact hm
              · have h1 := inv_tellStart h
                have h2 := inv_tellEnd h1 ((add_held s ⟨1, s.name, [], [], s.attrs⟩).1.trans hd) s.name
                exact { h2.mono (show k + 2 + 2 ≤ k + 12 by omega) with hn := by simp }
theorem inv_readMark (h : Inv k s) (hd : s.held = []) (x : Int) (h0 : 0 ≤ x) (h1 : x ≤ 255) : Inv (k + 12) (Mk.readMark s x).1 := by
  unfold Mk.readMark
  repeat' split
  all_goals first
    | exact inv_readLess h hd x
    | exact inv_readBang h hd x
    | exact inv_readDash h hd x
    | exact inv_readSectionMark h hd x
    | exact inv_readInstructionName h hd x
    | exact inv_readBareInstruction h x
    | exact inv_readInstructionSpace h hd x h0 h1
    | exact inv_readEndName h hd x
    | exact inv_readEndSpace h hd x
    | exact inv_readStartTag h hd x
theorem inv_readByte (h : Inv k s) (x : Int) (h0 : 0 ≤ x) (h1 : x ≤ 255) : Inv (k + 12) (Mk.readByte s x).1 := by
  unfold Mk.readByte
  split
  · exact inv_readPart h x (by assumption)
  · split
    · exact inv_readReference h x h0
    · split
      · rename_i hst; have hst : s.state = 0 := by simpa using hst
        exact inv_readOutside h (h.hs.none (by omega) (by omega) (by omega)) x
      · split
        · rename_i hst; have hst : s.state = 1 := by simpa using hst
          exact inv_readContent h (h.hs.none (by omega) (by omega) (by omega)) x h0 h1
        · split
          · rename_i hst; have hst : s.state = 2 := by simpa using hst
            exact inv_readSection h x h0 h1 hst
          · split
            · rename_i hst; have hst : s.state = 7 := by simpa using hst
              exact inv_readComment h x h0 h1 hst
            · split
              · rename_i hst; have hst : s.state = 11 := by simpa using hst
                exact inv_readInstruction h x h0 h1 hst
              · split
                · rename_i hst; have hst : s.state = 17 := by simpa using hst
                  exact inv_readValue h (h.hs.none (by omega) (by omega) (by omega)) x h0 h1
                · rename_i q0 q1 q2 q7 q11 q17
                  simp at q0 q1 q2 q7 q11 q17
                  exact inv_readMark h (h.hs.none (by omega) (by omega) (by omega)) x h0 h1
theorem inv_readOn (h : Inv k s) (x : Int) (h0 : 0 ≤ x) (h1 : x ≤ 255) : Inv (k + 12) (Mk.readOn s x).1 := by
  unfold Mk.readOn
  have hm := inv_readByte h x h0 h1
  have e1 := ln_readByte s x
  have e2 := co_readByte s x
  have g1 := h.l0
  have g2 := h.l1
  have g3 := h.cl0
  have g4 := h.cl1
  split
  · unfold Mk.movePlace
    split
    · exact { hm with l0 := by show 0 ≤ (Mk.readByte s x).1.line + 1; omega, l1 := by show (Mk.readByte s x).1.line + 1 ≤ ((k + 12 : Nat) : Int) + 1; omega, cl0 := by show (0 : Int) ≤ 1; decide, cl1 := by show (1 : Int) ≤ ((k + 12 : Nat) : Int) + 1; omega }
    · split
      · exact { hm with cl0 := by show 0 ≤ (Mk.readByte s x).1.column + 1; omega, cl1 := by show (Mk.readByte s x).1.column + 1 ≤ ((k + 12 : Nat) : Int) + 1; omega }
      · exact hm
  · exact hm
theorem inv_read (h : Inv k s) (x : Int) (h0 : 0 ≤ x) (h1 : x ≤ 255) : Inv (k + 12) (Mk.read s x).1 := by
  unfold Mk.read
  split
  · exact { h.mono (show k ≤ k + 12 by omega) with }
  · split
    · exact inv_readOn (s := { s with ret := true }) { h with } 10 (by decide) (by decide)
    · exact inv_readOn (s := { s with ret := false }) { h with } x h0 h1
end
end Go.Proofs.YtkkakfocjbnomaaDoor
