/- SpaA, SpaB, SpaC -/
import Derived.Test.YtmgfijllcdadgabGreatDoorPCSpc5
import Derived.Test.YtmgfijllcdadgabGreatDoorPCCompl
set_option linter.unusedVariables false
set_option linter.unusedSimpArgs false
namespace Go.Proofs.YtmgfijllcdadgabGreatDoor
open Mk (St Bs Ev Att)
def As0 (l : List Att) : Prop := ∀ y ∈ l, y.space = []
theorem ak_put (s : St) (c : Int) : (Mk.put s c).attrs = s.attrs := by unfold Mk.put; split <;> rfl
theorem ak_putAll : ∀ (l : Bs) (s : St), (Mk.putAll s l).attrs = s.attrs
  | [], s => rfl
  | x :: r, s => (ak_putAll r _).trans (ak_put s _)
theorem ak_goOn (s : St) (p : Int × Int) : (Mk.goOn s p).attrs = s.attrs := by unfold Mk.goOn; split <;> simp only [ak_put]
theorem ak_readCharacter (s : St) (b : Int) : (Mk.readCharacter s b).1.attrs = s.attrs := by unfold Mk.readCharacter; (repeat' split) <;> simp only [ak_goOn, ak_putAll]
theorem ak_readPart (s : St) (b : Int) : (Mk.readPart s b).1.attrs = s.attrs := by unfold Mk.readPart; (repeat' split) <;> simp only [ak_goOn]
theorem ak_readReference (s : St) (b : Int) : (Mk.readReference s b).1.attrs = s.attrs := by unfold Mk.readReference Mk.setRef; (repeat' split) <;> simp only [ak_put]
theorem ak_readAttrSpace (s : St) (b : Int) : (Mk.readAttrSpace s b).1.attrs = s.attrs := by unfold Mk.readAttrSpace; (repeat' split) <;> rfl
theorem ak_endStart {s : St} (h : s.cnt = []) (ho : s.on = false) (b : Int) : (Mk.endStart s b).attrs = s.attrs ∨ (Mk.endStart s b).attrs = [] := by
  unfold Mk.endStart
  split
  · exact .inl rfl
  · exact .inr rfl
theorem ak_readStartGap {s : St} (h : s.cnt = []) (ho : s.on = false) (b : Int) : (Mk.readStartGap s b).1.attrs = s.attrs ∨ (Mk.readStartGap s b).1.attrs = [] := by
  unfold Mk.readStartGap Mk.endAttributes
  rw [ho]
  split
  · exact .inl rfl
  · split
    · exact ak_endStart h ho b
    · exact .inl rfl
theorem as_readByte {s : St} (hw : W s) (hv : V s) (h : As0 s.attrs) (b : Int) (he : (Mk.readByte s b).2 = 0) : As0 (Mk.readByte s b).1.attrs := by
  by_cases hl : 0 < s.pl
  · have e0 : Mk.readByte s b = Mk.readPart s b := by unfold Mk.readByte; rw [if_pos hl]
    rw [e0, ak_readPart]; exact h
  · have hp : s.pl = 0 := by have := hw.p0; omega
    cases hr : Mk.isOpen s.rp
    · obtain ⟨f, hf, hz⟩ := rd_of hw.st hp hr b
      have hT := tells_readByte hw hv.on b he
      rw [hz s rfl hp hr] at he hT ⊢
      have nil : ∀ z : St, W z → ¬ (13 ≤ z.state ∧ z.state ≤ 19) → As0 z.attrs := fun z hz hs => by rw [hz.at0 hs]; intro y hy; cases hy
      cases hf with
      | r12 g =>
        unfold Mk.readStartName Mk.lengthenName at he ⊢
        split at he
        · rename_i g2; rw [if_pos g2]
          split at he
          · rename_i g3; rw [if_pos g3]; show As0 (Mk.put s b).attrs; rw [ak_put]; exact h
          · simp at he
        · rename_i g2; rw [if_neg g2]
          rcases ak_readStartGap (s := { Mk.dropToken s with name := s.token }) hv.cn hv.on b with e | e
          · rw [e]; exact h
          · rw [e]; intro y hy; cases hy
      | r13 g =>
        unfold Mk.readStartSpace at he ⊢
        split at he
        · rename_i g2; rw [if_pos g2]
          rcases ak_readStartGap hv.cn hv.on b with e | e
          · rw [e]; exact h
          · rw [e]; intro y hy; cases hy
        · rename_i g2; rw [if_neg g2]
          split at he
          · simp at he
          · rename_i g3; rw [if_neg g3]; show As0 (Mk.put { s with state := 14 } b).attrs; rw [ak_put]; exact h
      | r14 g =>
        unfold Mk.readAttrName Mk.lengthenAttrName
        (repeat' split) <;> first
          | (show As0 (Mk.put s b).attrs; rw [ak_put]; exact h)
          | exact h
          | (rw [ak_readAttrSpace]; exact h)
      | r15 g => rw [ak_readAttrSpace]; exact h
      | r16 g => unfold Mk.readEquals; (repeat' split) <;> exact h
      | r17 g =>
        unfold Mk.readValue Mk.endValue Mk.setRef
        (repeat' split) <;> first
          | exact h
          | (rw [ak_readCharacter]; exact h)
          | (intro y hy; rcases List.mem_append.1 hy with hy | hy; exact h y hy; simp at hy; subst hy; rfl)
      | r18 g =>
        rcases ak_readStartGap hv.cn hv.on b with e | e
        · rw [e]; exact h
        · rw [e]; intro y hy; cases hy
      | r19 g =>
        unfold Mk.readSlash at he ⊢
        split at he
        · simp at he
        · rename_i g2; rw [if_neg g2]
          show As0 (Mk.tellEnd (Mk.tellStart s) s.name).attrs
          rw [tellEnd_core, tellStart_core]
          intro y hy; cases hy
      | r0 g => exact fun y hy => by unfold Mk.readOutside at hy; (repeat' split at hy) <;> exact h y hy
      | r1 g => exact fun y hy => by unfold Mk.readContent Mk.setRef at hy; (repeat' split at hy) <;> first | exact h y hy | (rw [ak_readCharacter] at hy; exact h y hy)
      | r2 g => exact fun y hy => by unfold Mk.readSection at hy; (repeat' split at hy) <;> first | exact h y hy | (rw [ak_readCharacter] at hy; exact h y hy) | (have hy : y ∈ (Mk.put s 93).attrs := hy; rw [ak_put] at hy; exact h y hy)
      | r3 g => exact fun y hy => by unfold Mk.readLess Mk.beginStart at hy; (repeat' split at hy) <;> first | exact h y hy | (have hy : y ∈ (Mk.put { s with state := 12 } b).attrs := hy; rw [ak_put] at hy; exact h y hy)
      | r4 g => exact fun y hy => by unfold Mk.readBang at hy; (repeat' split at hy) <;> exact h y hy
      | r5 g => exact fun y hy => by unfold Mk.readDash at hy; (repeat' split at hy) <;> exact h y hy
      | r6 g => exact fun y hy => by unfold Mk.readSectionMark at hy; (repeat' split at hy) <;> exact h y hy
      | r7 g => exact fun y hy => by unfold Mk.readComment at hy; (repeat' split at hy) <;> first | exact h y hy | (rw [ak_readCharacter] at hy; exact h y hy) | (have hy : y ∈ (Mk.add (Mk.dropToken { s with held := [] }) ⟨4, [], [], s.token, []⟩).attrs := hy; rw [add_core] at hy; exact h y hy)
      | r8 g => exact fun y hy => by unfold Mk.readInstructionName Mk.lengthenName at hy; (repeat' split at hy) <;> first | exact h y hy | (have hy : y ∈ (Mk.put s b).attrs := hy; rw [ak_put] at hy; exact h y hy)
      | r9 g => exact fun y hy => by unfold Mk.readBareInstruction at hy; (repeat' split at hy) <;> first | exact h y hy | (have hy : y ∈ (Mk.add (Mk.dropToken { s with held := [] }) ⟨5, s.name, [], s.token, []⟩).attrs := hy; rw [add_core] at hy; exact h y hy)
      | r10 g => exact fun y hy => by unfold Mk.readInstructionSpace Mk.readInstruction at hy; (repeat' split at hy) <;> first | exact h y hy | (rw [ak_readCharacter] at hy; exact h y hy) | (have hy : y ∈ (Mk.put { s with state := 11 } 63).attrs := hy; rw [ak_put] at hy; exact h y hy) | (have hy : y ∈ (Mk.add (Mk.dropToken { s with state := 11, held := [] }) ⟨5, s.name, [], s.token, []⟩).attrs := hy; rw [add_core] at hy; exact h y hy)
      | r11 g => exact fun y hy => by unfold Mk.readInstruction at hy; (repeat' split at hy) <;> first | exact h y hy | (rw [ak_readCharacter] at hy; exact h y hy) | (have hy : y ∈ (Mk.put s 63).attrs := hy; rw [ak_put] at hy; exact h y hy) | (have hy : y ∈ (Mk.add (Mk.dropToken { s with held := [] }) ⟨5, s.name, [], s.token, []⟩).attrs := hy; rw [add_core] at hy; exact h y hy)
      | r20 g => exact fun y hy => by unfold Mk.readEndName Mk.readEndSpace Mk.endInnermost at hy; (repeat' split at hy) <;> first | exact h y hy | (rw [tellEnd_core] at hy; exact h y hy)
      | r21 g => exact fun y hy => by unfold Mk.readEndSpace Mk.endInnermost at hy; (repeat' split at hy) <;> first | exact h y hy | (rw [tellEnd_core] at hy; exact h y hy)
    · have e0 : Mk.readByte s b = Mk.readReference s b := by unfold Mk.readByte; rw [if_neg hl, if_pos hr]
      rw [e0, ak_readReference]; exact h
end Go.Proofs.YtmgfijllcdadgabGreatDoor
namespace Go.Proofs.YtmgfijllcdadgabGreatDoor
open Mk (St Bs Ev Att)
def Es0 (l : List Ev) : Prop := ∀ e ∈ l, As0 e.attrs ∧ (e.kind ≠ 1 → e.attrs = [])
theorem es_one {e : Ev} (h : e.attrs = []) : As0 e.attrs ∧ (e.kind ≠ 1 → e.attrs = []) := ⟨(by rw [h]; intro y hy; cases hy), fun _ => h⟩
theorem es_wT {s : St} (h : Es0 s.list) : Es0 (wT s) := by
  unfold wT
  split
  · exact h
  · intro e he
    rcases List.mem_append.1 he with he | he
    · exact h e he
    · simp at he; subst he; exact es_one rfl
theorem es_add {s : St} (h : Es0 s.list) {e : Ev} (he : As0 e.attrs ∧ (e.kind ≠ 1 → e.attrs = [])) : Es0 (Mk.add s e).list := by
  rw [add_wT]
  intro x hx
  rcases List.mem_append.1 hx with hx | hx
  · exact es_wT h x hx
  · simp at hx; subst hx; exact he
theorem es_tells {s s1 : St} (hv : V s) (ha : As0 s.attrs) (h : Es0 s.list) (ht : Tells s s1) : Es0 s1.list := by
  have hst : ∀ z : St, z.list = s.list → z.on = false → z.cnt = [] → z.attrs = s.attrs → Es0 (Mk.tellStart z).list := by
    intro z h1 h3 h4 h5
    rw [tellStart_off h4 h3]
    refine es_add (s := z) (by rw [h1]; exact h) ⟨by show As0 z.attrs; rw [h5]; exact ha, fun g => absurd rfl g⟩
  cases ht with
  | quiet q => rw [q.li]; exact h
  | comm e => exact es_add (s := Mk.dropToken { s with held := [] }) h (es_one rfl)
  | instr e => exact es_add (s := Mk.dropToken { s with held := [] }) h (es_one rfl)
  | start e =>
    rename_i s'
    show Es0 (Mk.tellStart s').list
    rcases e with ⟨e, rfl⟩ | ⟨e, rfl⟩
    · exact hst { Mk.dropToken s with name := s.token } rfl hv.on hv.cn rfl
    · exact hst _ rfl hv.on hv.cn rfl
  | slash e =>
    have hc := tellStart_core s
    have h2 := tellEnd_list (s := Mk.tellStart s) (by rw [hc]; exact hv.cn) (by rw [hc]; exact hv.on) s.name
    show Es0 (Mk.tellEnd (Mk.tellStart s) s.name).list
    rw [h2.1]
    exact es_add (s := Mk.tellStart s) (hst s rfl hv.on hv.cn rfl) (es_one rfl)
  | ends e =>
    have h2 := tellEnd_list (s := { s with opn := s.opn.dropLast }) hv.cn hv.on (Mk.innermost s)
    unfold Mk.endInnermost
    rw [h2.1]
    exact es_add (s := { s with opn := s.opn.dropLast }) h (es_one rfl)
theorem es_feedByte {s : St} (hw : W s) (hv : V s) (ha : As0 s.attrs) (h : Es0 s.list) (h0 : s.ended = 0) (x : UInt8) (he : (Mk.feedByte s x).ended = 0) : As0 (Mk.feedByte s x).attrs ∧ Es0 (Mk.feedByte s x).list := by
  rcases feedByte_right h0 x he with e | ⟨b, r, l, c, hb, e1, e⟩
  · rw [e]; exact ⟨ha, h⟩
  · rw [e]
    have h1 := as_readByte (hw.at (s.at_ + 1) r) (hv.at (s.at_ + 1) r) ha b e1
    have h2 := es_tells (s := { s with at_ := s.at_ + 1, ret := r }) (hv.at (s.at_ + 1) r) ha h (tells_readByte (hw.at (s.at_ + 1) r) hv.on b e1)
    exact ⟨h1, h2⟩
theorem es_any : ∀ (l : Bs) {s : St}, W s → V s → As0 s.attrs → Es0 s.list → s.ended = 0 → Es0 (Mk.feedAll s l).list
  | [], s, _, _, _, h, _ => h
  | x :: r, s, hw, hv, ha, h, h0 => by
    by_cases g : (Mk.feedByte s x).ended = 0
    · have h1 := es_feedByte hw hv ha h h0 x g
      exact es_any r (w_feedByte hw x g) (v_feedByte hw hv h0 x g) h1.1 h1.2 g
    · have e0 : Mk.feedAll s (x :: r) = Mk.feedByte s x := fa_stuck r _ g
      rw [e0, (feedByte_wrong s x h0 g).1]
      exact h
theorem sh_any {h0 : Sh} (hz : h0.pt = false) : ∀ (l : Bs) {s : St} {h : Sh}, W s → V s → Tl h0 s h → s.ended = 0 → ∃ H, shs h0 (wT (Mk.feedAll s l)) = some H ∧ (H.dep : Int) ≤ s.od ∧ (H.att : Int) ≤ s.oa
  | [], s, h, hw, hv, H, _ => by
    obtain ⟨p, hp⟩ := shs_text H
    exact ⟨_, hp, H.de, H.at_⟩
  | x :: r, s, h, hw, hv, H, he => by
    by_cases g : (Mk.feedByte s x).ended = 0
    · obtain ⟨h1, H1⟩ := tl_feedByte hw hv H he x g
      obtain ⟨H2, q1, q2, q3⟩ := sh_any hz r (w_feedByte hw x g) (v_feedByte hw hv he x g) H1 g
      have hb : (Mk.feedByte s x).od = s.od ∧ (Mk.feedByte s x).oa = s.oa := by
        rcases feedByte_right he x g with e | ⟨b, r', l', c, hb, e1, e⟩
        · rw [e]; exact ⟨rfl, rfl⟩
        · have := bd_readByte (hw.at (s.at_ + 1) r') (hv.at (s.at_ + 1) r') b e1
          rw [e]; exact ⟨this.1, this.2.1⟩
      rw [hb.1] at q2
      rw [hb.2] at q3
      exact ⟨H2, q1, q2, q3⟩
    · have e0 : Mk.feedAll s (x :: r) = Mk.feedByte s x := fa_stuck r _ g
      have w0 := feedByte_wrong s x he g
      rw [e0, wT_of w0.1 w0.2]
      obtain ⟨p, hp⟩ := shs_text H
      exact ⟨_, hp, H.de, H.at_⟩
end Go.Proofs.YtmgfijllcdadgabGreatDoor
namespace Go.Proofs.YtmgfijllcdadgabGreatDoor
open Mk (St Bs Ev Att)
theorem join_adj : ∀ (l all : List Ev) (p : Bool), Adj p l → (∀ x, all.getLast? = some x → p = decide (x.kind = 3)) → join all l = all ++ l
  | [], all, p, _, _ => by simp [join]
  | e :: r, all, p, h, hp => by
    have hj : joinOne all e = all ++ [e] := by
      unfold joinOne
      split
      · rename_i x hx
        rw [if_neg]
        intro g
        exact h.1 ⟨g.2, by rw [hp x hx]; exact decide_eq_true g.1⟩
      · rename_i hx
        rw [List.getLast?_eq_none_iff] at hx
        rw [hx]; rfl
    show join (joinOne all e) r = _
    rw [hj, join_adj r (all ++ [e]) _ h.2 (fun x hx => by rw [List.getLast?_concat] at hx; cases hx; rfl)]
    simp
theorem evs_wT {s : St} (h : Adj false (wT s)) : evsOf s = wT s := by
  unfold evsOf
  have e : out s.list s.text = wT s := rfl
  rw [e, join_adj _ [] false h (fun x hx => by cases hx)]
  rfl
theorem ab_any {K : Nat} : ∀ (l : Bs) {k : Nat} {s : St}, W s → V s → Inv k s → k + 12 * l.length ≤ K → Ab K s → s.ended = 0 → Ab K (Mk.feedAll s l)
  | [], k, s, _, _, _, _, h, _ => h
  | x :: r, k, s, hw, hv, hi, hk, h, h0 => by
    have hk : k + 12 * (r.length + 1) ≤ K := hk
    by_cases g : (Mk.feedByte s x).ended = 0
    · exact ab_any r (w_feedByte hw x g) (v_feedByte hw hv h0 x g) (inv_feedByte hi x) (by omega) (ab_feedByte hw hv hi (by omega) h h0 x g) g
    · have e0 : Mk.feedAll s (x :: r) = Mk.feedByte s x := fa_stuck r _ g
      rw [e0]
      intro e he
      rw [(feedByte_wrong s x h0 g).1] at he
      exact h e he
theorem off_facts (d a t : Int) (d1 : 1 ≤ d) (d2 : d ≤ 64) (t1 : 8 ≤ t) (a1 : 0 ≤ a) (a2 : a ≤ 32) (D : Bs) (hD : D.length ≤ 1120000) :
    (∃ H, shs Sh.zero (wT (Mk.feedAll (Mk.make_ d a t false) D)) = some H ∧ H.dep ≤ 64 ∧ H.att ≤ 32) ∧ (wT (Mk.feedAll (Mk.make_ d a t false) D)).length ≤ 100000000 ∧ (∀ e ∈ wT (Mk.feedAll (Mk.make_ d a t false) D), e.name.length ≤ 100000000 ∧ ∀ y ∈ e.attrs, y.space = [] ∧ y.name.length ≤ 100000000) ∧ (∀ e ∈ wT (Mk.feedAll (Mk.make_ d a t false) D), e.kind ≠ 1 → e.attrs = []) ∧ evsOf (Mk.feedAll (Mk.make_ d a t false) D) = wT (Mk.feedAll (Mk.make_ d a t false) D) := by
  obtain ⟨H, q1, q2, q3⟩ := sh_any (h0 := Sh.zero) rfl D (w_make d a t false d1 t1 a2) (v_make d a t t1 a1) (tl_make d a t d1 t1 a1) rfl
  have q2 : (H.dep : Int) ≤ d := q2
  have q3 : (H.att : Int) ≤ a := q3
  have hi := inv_feedAll D (inv_make d a t false a2)
  have hab := ab_any (K := 12 * 1120000 + 100) D (w_make d a t false d1 t1 a2) (v_make d a t t1 a1) (inv_make d a t false a2) (by omega) (fun e he => by cases he) rfl
  have hes := es_any D (w_make d a t false d1 t1 a2) (v_make d a t t1 a1) (fun y hy => by cases hy) (fun e he => by cases he) rfl
  have hes2 := es_wT hes
  refine ⟨⟨H, q1, by omega, by omega⟩, ?_, fun e he => ?_, fun e he => (hes2 e he).2, evs_wT (shs_adj _ _ _ q1)⟩
  · have h1 := hi.hl
    unfold wT
    split
    · omega
    · rw [List.length_append, List.length_singleton]; omega
  · have hAb : AbE (12 * 1120000 + 100) e := by
      unfold wT at he
      split at he
      · exact hab e he
      · rcases List.mem_append.1 he with he | he
        · exact hab e he
        · simp at he; subst he; exact ab_nil _ _ _ _ (by simp)
    refine ⟨by have := hAb.2.1; omega, fun y hy => ⟨(hes2 e he).1 y hy, by have := (hAb.2.2 y hy).1; omega⟩⟩
end Go.Proofs.YtmgfijllcdadgabGreatDoor
