/- Nest7 -/
import Derived.Test.YtmgfijllcdadgabGreatDoorCNest5
import Derived.Test.YtmgfijllcdadgabGreatDoorCEarlyP
import Derived.Test.YtmgfijllcdadgabGreatDoorCWays
namespace Go.Proofs.YtmgfijllcdadgabGreatDoor
set_option linter.unusedVariables false
set_option linter.unusedSimpArgs false
open Mk (St Bs Ev Att)

def AbE (K : Nat) (e : Ev) : Prop := e.attrs.length ≤ 32 ∧ e.name.length ≤ K ∧ ∀ y ∈ e.attrs, y.name.length ≤ K ∧ y.val.length ≤ K
def Ab (K : Nat) (s : St) : Prop := ∀ e ∈ s.list, AbE K e
theorem ab_nil {K : Nat} (k : Int) (n sp v : Bs) (h : n.length ≤ K) : AbE K ⟨k, n, sp, v, []⟩ := ⟨by simp, h, fun y hy => by cases hy⟩
theorem ab_add {K : Nat} {s : St} (h : Ab K s) {e : Ev} (he : AbE K e) : ∀ x ∈ (Mk.add s e).list, AbE K x := by
  intro x hx
  rw [add_list] at hx
  rcases List.mem_append.1 hx with hx | hx
  · split at hx
    · exact h x hx
    · rcases List.mem_append.1 hx with hx | hx
      · exact h x hx
      · simp at hx; subst hx; exact ab_nil _ _ _ _ (by simp)
  · simp at hx; subst hx; exact he
theorem ab_tells {k K : Nat} {s s1 : St} (hw : W s) (hv : V s) (hi : Inv k s) (hk : k ≤ K) (h : Ab K s) (ht : Tells s s1) : Ab K s1 := by
  have hst : ∀ z : St, z.list = s.list → z.text = s.text → z.on = false → z.cnt = [] → z.attrs = s.attrs → z.name.length ≤ K → ∀ x ∈ (Mk.tellStart z).list, AbE K x := by
    intro z h1 h2 h3 h4 h5 h6 x hx
    rw [tellStart_off h4 h3] at hx
    refine ab_add (s := z) (fun e he => h e (by rw [← h1]; exact he)) ⟨?_, h6, ?_⟩ x hx
    · rw [h5]; exact hi.ha
    · intro y hy
      rw [h5] at hy
      exact ⟨Nat.le_trans (hi.an y hy) hk, Nat.le_trans (hi.av y hy) hk⟩
  cases ht with
  | quiet q => intro e he; rw [q.li] at he; exact h e he
  | comm e =>
    have e1 : (Mk.endComment s).list = (Mk.add (Mk.dropToken { s with held := [] }) ⟨4, [], [], s.token, []⟩).list := rfl
    intro x hx
    rw [e1] at hx
    exact ab_add (s := Mk.dropToken { s with held := [] }) h (ab_nil _ _ _ _ (by simp)) x hx
  | instr e =>
    have e1 : (Mk.endInstruction s).list = (Mk.add (Mk.dropToken { s with held := [] }) ⟨5, s.name, [], s.token, []⟩).list := rfl
    intro x hx
    rw [e1] at hx
    exact ab_add (s := Mk.dropToken { s with held := [] }) h (ab_nil _ _ _ _ (Nat.le_trans hi.hn hk)) x hx
  | start e =>
    rename_i s'
    have e1 : (Mk.endStart s' 62).list = (Mk.tellStart s').list := rfl
    intro x hx
    rw [e1] at hx
    rcases e with ⟨e, rfl⟩ | ⟨e, rfl⟩
    · exact hst { Mk.dropToken s with name := s.token } rfl rfl hv.on hv.cn rfl (Nat.le_trans hi.ht hk) x hx
    · exact hst _ rfl rfl hv.on hv.cn rfl (Nat.le_trans hi.hn hk) x hx
  | slash e =>
    have hc := tellStart_core s
    have h2 := tellEnd_list (s := Mk.tellStart s) (by rw [hc]; exact hv.cn) (by rw [hc]; exact hv.on) s.name
    intro x hx
    have hx : x ∈ (Mk.tellEnd (Mk.tellStart s) s.name).list := hx
    rw [h2.1] at hx
    exact ab_add (s := Mk.tellStart s) (hst s rfl rfl hv.on hv.cn rfl (Nat.le_trans hi.hn hk)) (ab_nil _ _ _ _ (Nat.le_trans hi.hn hk)) x hx
  | ends e =>
    have h2 := tellEnd_list (s := { s with opn := s.opn.dropLast }) hv.cn hv.on (Mk.innermost s)
    have hn : (Mk.innermost s).length ≤ K := by
      have hne := hw.o1 (by omega)
      refine Nat.le_trans (hi.on _ ?_) hk
      unfold Mk.innermost
      rw [List.getLastD_eq_getLast?, List.getLast?_eq_some_getLast hne]
      exact List.getLast_mem hne
    intro x hx
    unfold Mk.endInnermost at hx
    rw [h2.1] at hx
    exact ab_add (s := { s with opn := s.opn.dropLast }) h (ab_nil _ _ _ _ hn) x hx
theorem ab_feedByte {k K : Nat} {s : St} (hw : W s) (hv : V s) (hi : Inv k s) (hk : k ≤ K) (h : Ab K s) (h0 : s.ended = 0) (x : UInt8) (he : (Mk.feedByte s x).ended = 0) : Ab K (Mk.feedByte s x) := by
  rcases feedByte_right h0 x he with e | ⟨b, r, l, c, hb, e1, e⟩
  · rw [e]; exact h
  · rw [e]
    have h1 : Ab K (Mk.readByte { s with at_ := s.at_ + 1, ret := r } b).1 := ab_tells (hw.at (s.at_ + 1) r) (hv.at (s.at_ + 1) r) (k := k) { hi with } hk h (tells_readByte (hw.at (s.at_ + 1) r) hv.on b e1)
    exact h1
theorem ab_feedAll {K : Nat} : ∀ (l : Bs) {k : Nat} {s : St}, W s → V s → Inv k s → k + 12 * l.length ≤ K → Ab K s → s.ended = 0 → (Mk.feedAll s l).ended = 0 → Ab K (Mk.feedAll s l)
  | [], k, s, _, _, _, _, h, _, _ => h
  | x :: r, k, s, hw, hv, hi, hk, h, h0, he => by
    have hx := feedAll_cons_ok he
    have hk : k + 12 * (r.length + 1) ≤ K := hk
    exact ab_feedAll r (w_feedByte hw x hx) (v_feedByte hw hv h0 x hx) (inv_feedByte hi x) (by omega) (ab_feedByte hw hv hi (by omega) h h0 x hx) hx he
/-- Where no two Texts meet, nothing is joined. -/
theorem join_shs : ∀ (l all : List Ev) (h H : Sh), shs h l = some H → (∀ x, all.getLast? = some x → h.pt = decide (x.kind = 3)) → join all l = all ++ l
  | [], all, h, H, _, _ => by simp [join]
  | e :: r, all, h, H, hs, hp => by
    have hs' : (match sh1 h e with | none => none | some h' => shs h' r) = some H := hs
    cases h1 : sh1 h e with
    | none => rw [h1] at hs'; cases hs'
    | some h' =>
      rw [h1] at hs'
      have hh : ¬ (e.kind = 3 ∧ h.pt = true) ∧ h'.pt = decide (e.kind = 3) := by
        unfold sh1 at h1
        split at h1
        · cases h1
        · rename_i hn
          split at h1
          · cases h1
          · split at h1
            · cases h1; exact ⟨hn, rfl⟩
            · cases h1
      have hj : joinOne all e = all ++ [e] := by
        unfold joinOne
        split
        · rename_i x hx
          rw [if_neg]
          intro g
          exact hh.1 ⟨g.2, by rw [hp x hx]; exact decide_eq_true g.1⟩
        · rename_i hx
          rw [List.getLast?_eq_none_iff] at hx
          rw [hx]; rfl
      show join (joinOne all e) r = _
      rw [hj, join_shs r (all ++ [e]) h' H hs' (fun x hx => by rw [List.getLast?_concat] at hx; cases hx; exact hh.2)]
      simp
theorem w_feed {s : St} (hw : W s) (h0 : s.ended = 0) (x : UInt8) (he : (Mk.feed s [x]).2.2 = 0) : W (Mk.feed s [x]).1 := by
  have e : Mk.feed s [x] = (Mk.take (Mk.feedByte s x), (Mk.endText (Mk.feedByte s x)).list, (Mk.feedByte s x).ended) := by unfold Mk.feed; rw [if_pos h0]; rfl
  rw [e] at he ⊢
  have h1 := w_feedByte hw x he
  show W (Mk.take _)
  unfold Mk.take
  rw [endText_core (Mk.feedByte s x)]
  exact { h1 with }
theorem v_feed {s : St} (hw : W s) (hv : V s) (h0 : s.ended = 0) (x : UInt8) (he : (Mk.feed s [x]).2.2 = 0) : V (Mk.feed s [x]).1 := by
  have e : Mk.feed s [x] = (Mk.take (Mk.feedByte s x), (Mk.endText (Mk.feedByte s x)).list, (Mk.feedByte s x).ended) := by unfold Mk.feed; rw [if_pos h0]; rfl
  rw [e] at he ⊢
  have h1 := v_feedByte hw hv h0 x he
  show V (Mk.take _)
  unfold Mk.take
  rw [endText_core (Mk.feedByte s x)]
  exact { h1 with }
theorem feed_ended {s : St} (h0 : s.ended = 0) (x : UInt8) : (Mk.feed s [x]).1.ended = (Mk.feed s [x]).2.2 := by
  have e : Mk.feed s [x] = (Mk.take (Mk.feedByte s x), (Mk.endText (Mk.feedByte s x)).list, (Mk.feedByte s x).ended) := by unfold Mk.feed; rw [if_pos h0]; rfl
  rw [e]
  show (Mk.take _).ended = _
  unfold Mk.take
  rw [endText_core (Mk.feedByte s x)]
theorem take_right {s : St} {D : Bs} (h : (Mk.feedAll s D).ended = 0) (i : Nat) : (Mk.feedAll s (D.take i)).ended = 0 := by
  cases hd : decide ((Mk.feedAll s (D.take i)).ended = 0)
  · have hne : (Mk.feedAll s (D.take i)).ended ≠ 0 := by simpa using hd
    have := feedAll_behind s (D.take i) (D.drop i) hne
    rw [List.take_append_drop] at this
    rw [this] at h
    exact absurd h hne
  · simpa using hd
/-- The shape of what is told of a document. -/
theorem evs_doc (d a t : Int) (d1 : 1 ≤ d) (t1 : 8 ≤ t) (a1 : 0 ≤ a) (a2 : a ≤ 32) (D : Bs) (hD : D.length ≤ 1120000) (he : (Mk.feedAll (Mk.make_ d a t false) D).ended = 0) (hd : Mk.isDocument (Mk.feedAll (Mk.make_ d a t false) D) = true) :
    ∃ h, shs Sh.zero (evsOf (Mk.feedAll (Mk.make_ d a t false) D)) = some h ∧ h.opn = [] ∧ h.out = 1 ∧ (h.dep : Int) ≤ d ∧ (h.att : Int) ≤ a ∧ (h.tok : Int) ≤ t ∧ evsOf (Mk.feedAll (Mk.make_ d a t false) D) = (Mk.feedAll (Mk.make_ d a t false) D).list ∧ (Mk.feedAll (Mk.make_ d a t false) D).list.length ≤ 1000000000
      ∧ ∀ e ∈ evsOf (Mk.feedAll (Mk.make_ d a t false) D), e.name.length ≤ 1000000000000000000 ∧ e.val.length ≤ 1000000000000000000 ∧ e.attrs.length ≤ 1000000 ∧ ∀ y ∈ e.attrs, y.name.length ≤ 1000000000000000000 ∧ y.val.length ≤ 1000000000000000000 := by
  obtain ⟨h, H, hx, h1, h2, h3, h4, h5⟩ := shape_doc d a t d1 t1 a1 a2 D he hd
  have hi := inv_feedAll D (inv_make d a t false a2)
  have hab := ab_feedAll (K := 12 * 1120000 + 100) D (w_make d a t false d1 t1 a2) (v_make d a t t1 a1) (inv_make d a t false a2) (by omega) (fun e he => by cases he) rfl he
  have ee : evsOf (Mk.feedAll (Mk.make_ d a t false) D) = (Mk.feedAll (Mk.make_ d a t false) D).list := by
    unfold evsOf out
    rw [hx, if_pos (by rfl)]
    rw [join_shs _ [] Sh.zero h H.ex (fun x hx => by cases hx)]
    rfl
  refine ⟨h, by rw [ee]; exact H.ex, h1, h2, h3, h4, h5, ee, by have := hi.hl; omega, fun e hm => ?_⟩
  rw [ee] at hm
  have g1 := hab e hm
  have g2 := hi.ev e hm
  refine ⟨by have := g1.2.1; omega, by omega, by have := g1.1; omega, fun y hy => ?_⟩
  have := g1.2.2 y hy
  omega
theorem compl_isDoc (d a t : Int) (d1 : 1 ≤ d) (t1 : 8 ≤ t) (a2 : a ≤ 32) (text : Bs) : Mk.isDocument (Mk.feedAll (Mk.make_ d a t false) (compl (Mk.make_ d a t false) text)) = true := by
  have h := compl_doc d a t d1 t1 a2 text
  have h2 := h.2.1
  unfold Mk.close at h2
  rw [if_pos h.1] at h2
  split at h2
  · assumption
  · cases h2
end Go.Proofs.YtmgfijllcdadgabGreatDoor
