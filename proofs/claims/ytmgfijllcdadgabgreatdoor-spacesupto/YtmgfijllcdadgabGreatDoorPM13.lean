/- Cores, TagN, TagsA, TagsB -/
import Derived.Test.YtmgfijllcdadgabGreatDoorPM00
import Derived.Test.YtmgfijllcdadgabGreatDoorPM10
import Derived.Test.YtmgfijllcdadgabGreatDoorPM11
import Derived.Test.YtmgfijllcdadgabGreatDoorPM12
set_option linter.unusedVariables false
set_option linter.unusedSimpArgs false
namespace Go.Proofs.YtmgfijllcdadgabGreatDoor
open Mk (St Bs Ev Att)
theorem add_core (s : St) (e : Ev) : Mk.add s e = { s with list := (Mk.add s e).list, text := (Mk.add s e).text } := by
  unfold Mk.add Mk.endText
  split <;> rfl
theorem bindAll_core : ∀ (l : List (Bs × Bs)) (s : St), Mk.bindAll s l = { s with list := (Mk.bindAll s l).list, text := (Mk.bindAll s l).text }
  | [], s => rfl
  | p :: r, s => by
    show Mk.bindAll (Mk.add s _) r = { s with list := (Mk.bindAll (Mk.add s _) r).list, text := (Mk.bindAll (Mk.add s _) r).text }
    have h1 := bindAll_core r (Mk.add s ⟨6, p.1, [], p.2, []⟩)
    have h2 := add_core s ⟨6, p.1, [], p.2, []⟩
    rw [h2] at h1 ⊢
    exact h1
theorem unbindAll_core : ∀ (l : List (Bs × Bs)) (s : St), Mk.unbindAll s l = { s with list := (Mk.unbindAll s l).list, text := (Mk.unbindAll s l).text }
  | [], s => rfl
  | p :: r, s => by
    show Mk.unbindAll (Mk.add s _) r = { s with list := (Mk.unbindAll (Mk.add s _) r).list, text := (Mk.unbindAll (Mk.add s _) r).text }
    have h1 := unbindAll_core r (Mk.add s ⟨7, p.1, [], [], []⟩)
    have h2 := add_core s ⟨7, p.1, [], [], []⟩
    rw [h2] at h1 ⊢
    exact h1
theorem tellStart_core (s : St) : Mk.tellStart s = { s with list := (Mk.tellStart s).list, text := (Mk.tellStart s).text, attrs := [] } := by
  have e1 := add_core (Mk.tellBinds s) ⟨1, s.name, Mk.spaceOf s s.name, [], s.attrs⟩
  have e4 : Mk.tellBinds s = { s with list := (Mk.tellBinds s).list, text := (Mk.tellBinds s).text } := bindAll_core (Mk.ofTag s) s
  unfold Mk.tellStart
  rw [e1]
  rw [e4]
theorem declareGo_len : ∀ (ats : List Att) (b : List (Bs × Bs)) (c : Nat), (Mk.declareGo ats b c).1.length ≤ b.length + ats.length ∧ (Mk.declareGo ats b c).2.1 ≤ c + ats.length
  | [], b, c => ⟨by simp [Mk.declareGo], by simp [Mk.declareGo]⟩
  | a :: r, b, c => by
    unfold Mk.declareGo
    split
    · have := declareGo_len r b c; simp only [List.length_cons]; omega
    · split
      · simp only [List.length_cons]; omega
      · have := declareGo_len r (b ++ [(Mk.declared a.name, a.val)]) (c + 1)
        simp only [List.length_cons, List.length_append, List.length_nil] at this ⊢; omega
theorem resolveGo_len (bnd : List (Bs × Bs)) (m : Nat) : ∀ (ats acc l : List Att), Mk.resolveGo bnd ats acc = some l → l.length ≤ acc.length + ats.length ∧ ((∀ a ∈ acc, a.val.length ≤ m) → (∀ a ∈ ats, a.val.length ≤ m) → ∀ a ∈ l, a.val.length ≤ m)
  | [], acc, l, h => by cases h; exact ⟨by simp, fun h _ => h⟩
  | a :: r, acc, l, h => by
    unfold Mk.resolveGo at h
    split at h
    · have := resolveGo_len bnd m r acc l h
      exact ⟨by simp only [List.length_cons]; omega, fun h1 h2 => this.2 h1 fun x hx => h2 x (List.mem_cons_of_mem _ hx)⟩
    · split at h
      · cases h
      · have := resolveGo_len bnd m r _ l h
        refine ⟨by simp only [List.length_cons, List.length_append, List.length_nil] at this ⊢; omega, fun h1 h2 => this.2 (fun x hx => ?_) fun x hx => h2 x (List.mem_cons_of_mem _ hx)⟩
        rcases List.mem_append.1 hx with hx | hx
        · exact h1 x hx
        · simp at hx; subst hx
          have : (Mk.withSpace bnd a).val = a.val := by unfold Mk.withSpace; split <;> rfl
          rw [this]
          exact h2 a List.mem_cons_self
theorem resolveGo_nm (bnd : List (Bs × Bs)) (m : Nat) : ∀ (ats acc l : List Att), Mk.resolveGo bnd ats acc = some l → l.length ≤ acc.length + ats.length ∧ ((∀ a ∈ acc, a.name.length ≤ m) → (∀ a ∈ ats, a.name.length ≤ m) → ∀ a ∈ l, a.name.length ≤ m)
  | [], acc, l, h => by cases h; exact ⟨by simp, fun h _ => h⟩
  | a :: r, acc, l, h => by
    unfold Mk.resolveGo at h
    split at h
    · have := resolveGo_nm bnd m r acc l h
      exact ⟨by simp only [List.length_cons]; omega, fun h1 h2 => this.2 h1 fun x hx => h2 x (List.mem_cons_of_mem _ hx)⟩
    · split at h
      · cases h
      · have := resolveGo_nm bnd m r _ l h
        refine ⟨by simp only [List.length_cons, List.length_append, List.length_nil] at this ⊢; omega, fun h1 h2 => this.2 (fun x hx => ?_) fun x hx => h2 x (List.mem_cons_of_mem _ hx)⟩
        rcases List.mem_append.1 hx with hx | hx
        · exact h1 x hx
        · simp at hx; subst hx
          have : (Mk.withSpace bnd a).name = a.name := by unfold Mk.withSpace; split <;> rfl
          rw [this]
          exact h2 a List.mem_cons_self
theorem declare_core (s : St) : (Mk.declare s).1 = { s with bnd := (Mk.declareGo s.attrs s.bnd 0).1, cnt := (Mk.declare s).1.cnt } ∧ ((Mk.declare s).1.cnt = s.cnt ∨ (Mk.declare s).1.cnt = s.cnt ++ [(Mk.declareGo s.attrs s.bnd 0).2.1]) := by
  unfold Mk.declare
  dsimp only
  split
  · exact ⟨rfl, .inr rfl⟩
  · exact ⟨rfl, .inl rfl⟩
theorem enter_core (s : St) : (Mk.enter s).1 = s ∨ (Mk.enter s).1 = (Mk.declare s).1 := by
  unfold Mk.enter
  repeat' split
  all_goals first | exact .inl rfl | exact .inr rfl
theorem enter_some {s : St} {l : List Att} (h : (Mk.enter s).2 = some l) : (Mk.enter s).1 = (Mk.declare s).1 ∧ Mk.resolveGo (Mk.declare s).1.bnd s.attrs [] = some l := by
  unfold Mk.enter at h ⊢
  split at h
  · cases h
  · rename_i c1
    rw [if_neg c1]
    split at h
    · cases h
    · rename_i c2
      rw [if_neg c2]
      split at h
      · cases h
      · rename_i c3
        rw [if_neg c3]
        exact ⟨rfl, h⟩
theorem tellUnbinds_core (s : St) : Mk.tellUnbinds s = { s with list := (Mk.tellUnbinds s).list, text := (Mk.tellUnbinds s).text } := unbindAll_core _ s
theorem tellBinds_core (s : St) : Mk.tellBinds s = { s with list := (Mk.tellBinds s).list, text := (Mk.tellBinds s).text } := bindAll_core _ s
theorem add_len2 (s : St) (e : Ev) : (Mk.add s e).text.length ≤ s.text.length ∧ (Mk.add s e).list.length ≤ s.list.length + 2 := by
  unfold Mk.add Mk.endText
  split
  · exact ⟨Nat.le_refl _, by simp⟩
  · exact ⟨by simp, by simp⟩
theorem bindAll_len2 : ∀ (l : List (Bs × Bs)) (s : St), (Mk.bindAll s l).text.length ≤ s.text.length ∧ (Mk.bindAll s l).list.length ≤ s.list.length + 2 * l.length
  | [], s => ⟨Nat.le_refl _, by simp [Mk.bindAll]⟩
  | p :: r, s => by
    have h1 := bindAll_len2 r (Mk.add s ⟨6, p.1, [], p.2, []⟩)
    have h2 := add_len2 s ⟨6, p.1, [], p.2, []⟩
    unfold Mk.bindAll
    simp only [List.length_cons]
    omega
end Go.Proofs.YtmgfijllcdadgabGreatDoor
namespace Go.Proofs.YtmgfijllcdadgabGreatDoor
open Go.RowKit
open Mk (St Bs Ev Att)
theorem spTagLen {s : St} (h : ∀ c ∈ s.cnt, c ≤ 32) : (Mk.ofTag s).length ≤ 32 := by
  unfold Mk.ofTag Mk.first
  rw [List.length_drop]
  split
  · omega
  · rename_i c hc
    have := h c (List.mem_of_getLast? hc)
    split <;> omega
theorem spAddLen (s : St) (e : Ev) : (Mk.add s e).text.length ≤ s.text.length ∧ (Mk.add s e).list.length ≤ s.list.length + 2 := by
  unfold Mk.add Mk.endText
  split
  · exact ⟨Nat.le_refl _, by simp⟩
  · exact ⟨by simp, by simp⟩
structure BiI (w1 : World) (b : Nat) (f0 : List Nat) (tag : List (Bs × Bs)) (FIN : St) (wy : World) (t : St) (i : Nat) (L1 : Lay) : Prop where
  mv : Mv w1 b f0 wy t L1
  fin : FIN = Mk.bindAll t (tag.drop i)
  x : t.text.length ≤ 100000000
  l : t.list.length ≤ 700000000 + 2 * i
  le : i ≤ tag.length
set_option maxHeartbeats 4000000 in
set_option maxRecDepth 100000 in
theorem tellBinds_any {w : World} {b : Nat} {s : St} {L : Lay} (h : RdL w b s L) (hB : Bd s) :
    Calls Tryz.prog 172 #[.pointer (some ⟨b, 0, none⟩)] w fun e w' => e = .returned (.tuple #[]) ∧ ∃ L', Mv w b (foot s L) w' (Mk.tellBinds s) L' := by
  have HD := hide (Declared_any h (Nat.le_trans hB.hb (by decide)) (Nat.le_trans hB.hc (by decide)) hB.cb)
  have h32 := spTagLen hB.cb
  obtain ⟨FIN, hFIN⟩ : ∃ FIN, FIN = Mk.tellBinds s := ⟨_, rfl⟩
  rw [← hFIN]
  have hFIN2 : FIN = Mk.bindAll s ((Mk.ofTag s).drop 0) := hFIN
  have HF := hide hFIN2
  have hx := hB.hx
  have hl := hB.hl
  generalize Mk.ofTag s = tag at *
  have HS := hide h.start
  have HLT := hide h.lt
  have HFT := hide h.foot_lt
  clear h hB hFIN hFIN2
  go_enter Tryz.func172, Tryz.ntmps172
  go_wp2_with fail
  refine (unhide HD).mono ?_
  rintro e w1 ⟨a, c, rfl, hown, hbl⟩
  have hsz := hbl.size
  have HE := hide (fun k hk => spElem (m := 2) (l := tag) bndCells (fun _ => rfl) (by decide) hown k hk)
  have HOW := hide hown.lt
  have hm1 := (unhide HS).below hbl
  have HB0 := hide hbl
  have HI : Hid (BiI w1 b (foot s L) tag FIN w1 s 0 L) := ⟨hm1.rd.start, unhide HF, hx, by omega, by omega⟩
  have HM1 := hide hm1
  clear hown hbl hm1 HD HF
  go_wp2_with fail
  go_loopg [3] tag.length (fun g s3 wx => ∃ (wy : World) (t : St) (i : Nat) (L1 : Lay), wy = wx ∧ g = tag.length - i ∧ s3 = .int .i64 (i : Int) ∧ Hid (BiI w1 b (foot s L) tag FIN wy t i L1))
  case atStart => exact ⟨w1, s, 0, L, rfl, rfl, rfl, HI⟩
  case round =>
    obtain ⟨wy, t, i, L1, hwy, rfl, rfl, HJ⟩ := hrel
    subst hwy
    clear HI
    have hle := (unhide HJ).le
    have hlty := (unhide HJ).mv.rd.lt
    by_cases h3 : i < tag.length
    · have e1 : decide ((i : Int) < (tag.length : Int)) = true := by simp; omega
      have hk1 : (i : Int) < (tag.length : Int) := by omega
      obtain ⟨g, hg, hgl, hcl⟩ := unhide HE i h3
      have c0 : w1.cell? ⟨g, i * 2, none⟩ = some (.string ⟨tag[i].1.toArray⟩) := hcl 0 (by decide)
      have c1 : w1.cell? ⟨g, i * 2 + 1, none⟩ = some (.string ⟨tag[i].2.toArray⟩) := hcl 1 (by decide)
      have hgb : w.heap.size ≤ g := (unhide HOW g (by rw [hg]; rfl)).1
      have hbk : wy.heap[g]? = w1.heap[g]? := (unhide HJ).mv.fr.block g hgl (by have := unhide HLT; omega) (fun hm => by have := (unhide HFT g hm).2; omega)
      have d0 : wy.cell? ⟨g, i * 2, none⟩ = some (.string ⟨tag[i].1.toArray⟩) := by rw [← c0]; simp only [World.cell?, hbk]
      have d1 : wy.cell? ⟨g, i * 2 + 1, none⟩ = some (.string ⟨tag[i].2.toArray⟩) := by rw [← c1]; simp only [World.cell?, hbk]
      have hf := (unhide HJ).fin
      rw [List.drop_eq_getElem_cons h3] at hf
      unfold Mk.bindAll at hf
      have HA := hide (fun n => add_nil ((unhide HJ).mv.rd.drewN n) ⟨6, tag[i].1, [], tag[i].2, []⟩ rfl (Nat.le_trans (unhide HJ).x (by decide)) (by have := (unhide HJ).l; omega))
      have hlen := spAddLen t ⟨6, tag[i].1, [], tag[i].2, []⟩
      generalize tag[i].1 = p at *
      generalize tag[i].2 = v at *
      subst hg
      have HFF := hide hf
      have HLN := hide hlen
      clear hf hlen hcl c0 c1 hbk
      go_wp2
      go_region_with (go_at_call 143; refine (unhide HA _).mono ?_; rintro e w2 ⟨rfl, L2, hm2⟩)
      all_goals
        have HM2 := hide (((unhide HJ).mv.drewN _).call hm2)
        clear hm2
        go_wp2
        go_roundg (tag.length - (i + 1))
        case measure => omega
        case rel => exact ⟨_, _, i + 1, L2, rfl, rfl, by simp, ⟨unhide HM2, unhide HFF, Nat.le_trans (unhide HLN).1 (unhide HJ).x, by have := (unhide HLN).2; have := (unhide HJ).l; omega, by omega⟩⟩
    · have e1 : decide ((i : Int) < (tag.length : Int)) = false := by simp; omega
      have hf := (unhide HJ).fin
      rw [List.drop_of_length_le (by omega)] at hf
      have HFF := hide (show FIN = t from hf)
      clear hf
      go_wp2
      go_end0
      rw [unhide HFF]
      exact ⟨rfl, L1, (unhide HM1).call (unhide HJ).mv⟩
structure UnI (w1 : World) (b : Nat) (f0 : List Nat) (tag : List (Bs × Bs)) (FIN : St) (wy : World) (t : St) (i : Nat) (L1 : Lay) : Prop where
  mv : Mv w1 b f0 wy t L1
  fin : FIN = Mk.unbindAll t (tag.take i).reverse
  x : t.text.length ≤ 100000000
  l : t.list.length ≤ 700000100 - 2 * i
  le : i ≤ tag.length
set_option maxHeartbeats 4000000 in
set_option maxRecDepth 100000 in
theorem tellUnbinds_any {w : World} {b : Nat} {s : St} {L : Lay} (h : RdL w b s L) (hB : Bd s) :
    Calls Tryz.prog 169 #[.pointer (some ⟨b, 0, none⟩)] w fun e w' => e = .returned (.tuple #[]) ∧ ∃ L', Mv w b (foot s L) w' (Mk.tellUnbinds s) L' := by
  have HD := hide (Declared_any h (Nat.le_trans hB.hb (by decide)) (Nat.le_trans hB.hc (by decide)) hB.cb)
  have h32 := spTagLen hB.cb
  obtain ⟨FIN, hFIN⟩ : ∃ FIN, FIN = Mk.tellUnbinds s := ⟨_, rfl⟩
  rw [← hFIN]
  have hFIN2 : FIN = Mk.unbindAll s ((Mk.ofTag s).take (Mk.ofTag s).length).reverse := by rw [List.take_length]; exact hFIN
  have HF := hide hFIN2
  have hx := hB.hx
  have hl := hB.hl
  generalize Mk.ofTag s = tag at *
  have HS := hide h.start
  have HLT := hide h.lt
  have HFT := hide h.foot_lt
  clear h hB hFIN hFIN2
  go_enter Tryz.func169, Tryz.ntmps169
  go_wp2_with fail
  refine (unhide HD).mono ?_
  rintro e w1 ⟨a, c, rfl, hown, hbl⟩
  have hsz := hbl.size
  have HE := hide (fun k hk => spElem (m := 2) (l := tag) bndCells (fun _ => rfl) (by decide) hown k hk)
  have HOW := hide hown.lt
  have hm1 := (unhide HS).below hbl
  have HB0 := hide hbl
  have HI : Hid (UnI w1 b (foot s L) tag FIN w1 s tag.length L) := ⟨hm1.rd.start, unhide HF, hx, by omega, by omega⟩
  have HM1 := hide hm1
  clear hown hbl hm1 HD HF
  go_wp2_with fail
  go_loopg [3] tag.length (fun g s3 wx => ∃ (wy : World) (t : St) (i : Nat) (L1 : Lay), wy = wx ∧ g = i ∧ s3 = .int .i64 ((i : Int) - 1) ∧ Hid (UnI w1 b (foot s L) tag FIN wy t i L1))
  case atStart => exact ⟨w1, s, tag.length, L, rfl, rfl, rfl, HI⟩
  case round =>
    obtain ⟨wy, t, i, L1, hwy, hgi, rfl, HJ⟩ := hrel
    obtain rfl := hgi.symm
    subst hwy
    clear HI
    have hle := (unhide HJ).le
    have hlty := (unhide HJ).mv.rd.lt
    by_cases h3 : 0 < i
    · have e1 : decide (0 ≤ (i : Int) - 1) = true := by simp; omega
      obtain ⟨k, rfl⟩ : ∃ k, i = k + 1 := ⟨i - 1, by omega⟩
      have hkk : (((k + 1 : Nat) : Int) - 1) = (k : Int) := by omega
      rw [hkk] at e1 ⊢
      have hk : k < tag.length := by omega
      have hk1 : (k : Int) < (tag.length : Int) := by omega
      obtain ⟨g, hg, hgl, hcl⟩ := unhide HE k hk
      have c0 : w1.cell? ⟨g, k * 2, none⟩ = some (.string ⟨tag[k].1.toArray⟩) := hcl 0 (by decide)
      have hgb : w.heap.size ≤ g := (unhide HOW g (by rw [hg]; rfl)).1
      have hbk : wy.heap[g]? = w1.heap[g]? := (unhide HJ).mv.fr.block g hgl (by have := unhide HLT; omega) (fun hm => by have := (unhide HFT g hm).2; omega)
      have d0 : wy.cell? ⟨g, k * 2, none⟩ = some (.string ⟨tag[k].1.toArray⟩) := by rw [← c0]; simp only [World.cell?, hbk]
      have hf := (unhide HJ).fin
      rw [spTakeS tag k hk, List.reverse_append, List.reverse_singleton, List.singleton_append] at hf
      unfold Mk.unbindAll at hf
      have HA := hide (fun n => add_nil ((unhide HJ).mv.rd.drewN n) ⟨7, tag[k].1, [], [], []⟩ rfl (Nat.le_trans (unhide HJ).x (by decide)) (by have := (unhide HJ).l; omega))
      have hlen := spAddLen t ⟨7, tag[k].1, [], [], []⟩
      generalize tag[k].1 = p at *
      subst hg
      have HFF := hide hf
      have HLN := hide hlen
      clear hf hlen hcl c0 hbk
      go_wp2
      go_region_with (go_at_call 143; refine (unhide HA _).mono ?_; rintro e w2 ⟨rfl, L2, hm2⟩)
      all_goals
        have HM2 := hide (((unhide HJ).mv.drewN _).call hm2)
        clear hm2
        go_wp2
        go_roundg k
        case measure => omega
        case rel => exact ⟨_, _, k, L2, rfl, rfl, by simp, ⟨unhide HM2, unhide HFF, Nat.le_trans (unhide HLN).1 (unhide HJ).x, by have := (unhide HLN).2; have := (unhide HJ).l; omega, by omega⟩⟩
    · have e1 : decide (0 ≤ (i : Int) - 1) = false := by simp; omega
      have hf := (unhide HJ).fin
      obtain rfl : i = 0 := by omega
      rw [List.take_zero, List.reverse_nil] at hf
      have HFF := hide (show FIN = t from hf)
      clear hf
      go_wp2
      go_end0
      rw [unhide HFF]
      exact ⟨rfl, L1, (unhide HM1).call (unhide HJ).mv⟩
end Go.Proofs.YtmgfijllcdadgabGreatDoor
namespace Go.Proofs.YtmgfijllcdadgabGreatDoor
open Go.RowKit
open Mk (St Bs Ev Att)
section
variable {w0 w w' : World} {b : Nat} {f0 : List Nat} {s : St} {L : Lay}
theorem Mv.pushOpen (m : Mv w0 b f0 w s L) (x : Bs) {g cap : Nat} (hown : w'.ownsRow (b - 1) 9 1 (.slice (some ⟨g, 0, none⟩) (s.opn.length + 1) cap) (s.opn.length + 1) (s.opn.map sv ++ [.string ⟨x.toArray⟩]))
    (hg : w.grownBy w' (opnRow s L).v.ownBlock) (hat : (Value.slice L.oa s.opn.length L.oc).ownBlock = some g ∨ g = w.heap.size) :
    Mv w0 b f0 (w'.setCell ⟨b, 5, none⟩ (.slice (some ⟨g, 0, none⟩) (s.opn.length + 1) cap)) { s with opn := s.opn ++ [x] } { L with oa := some ⟨g, 0, none⟩, oc := cap } := by
  refine m.grow (r := opnRow s L) (r' := opnRow { s with opn := s.opn ++ [x] } { L with oa := some ⟨g, 0, none⟩, oc := cap }) (rs := tokRow s L :: attRow s L :: lstRow s L :: txtRow s L :: bndRow s L :: cntRow s L :: L.es.map evRow) 5 _ (.refl _) (.refl _) ?_ hg ?_ ?_ m.rd.evs
  · show World.ownsRow _ _ _ _ _ _ _
    simp only [opnRow, List.length_append, List.length_cons, List.length_nil, Nat.zero_add, List.map_append, List.map_cons, List.map_nil]
    exact hown
  · rcases hat with h | h
    · exact .inl h.symm
    · exact .inr (by rw [h]; rfl)
  · simp [cellsOf]
theorem Mv.pushAttr (m : Mv w0 b f0 w s L) (x : Att) (ham : s.am = false) {g cap : Nat} (hown : w'.ownsRow (b - 1) 112 3 (.slice (some ⟨g, 0, none⟩) (s.attrs.length + 1) cap) (s.attrs.length + 1) (atsRow s.attrs ++ atCells x))
    (hg : w.grownBy w' (Value.slice L.aa s.attrs.length L.ac).ownBlock) (hat : (Value.slice L.aa s.attrs.length L.ac).ownBlock = some g ∨ g = w.heap.size) :
    Mv w0 b f0 (w'.setCell ⟨b, 13, none⟩ (.slice (some ⟨g, 0, none⟩) (s.attrs.length + 1) cap)) { s with attrs := s.attrs ++ [x] } { L with aa := some ⟨g, 0, none⟩, ac := cap } := by
  have e1 : (attRow s L).v = .slice L.aa s.attrs.length L.ac := by simp [attRow, ham]
  refine m.grow (r := attRow s L) (r' := attRow { s with attrs := s.attrs ++ [x] } { L with aa := some ⟨g, 0, none⟩, ac := cap }) (rs := opnRow s L :: tokRow s L :: lstRow s L :: txtRow s L :: bndRow s L :: cntRow s L :: L.es.map evRow) 13 _ (perm3 _ _ _ _) (perm3 _ _ _ _) ?_ (by rw [e1]; exact hg) ?_ ?_ m.rd.evs
  · show World.ownsRow _ _ _ _ _ _ _
    simp only [attRow, ham, List.length_append, List.length_cons, List.length_nil, Nat.zero_add, atsRow, List.flatMap_append, List.flatMap_cons, List.flatMap_nil, List.append_nil]
    exact hown
  · rw [e1]
    rcases hat with h | h
    · exact .inl (by simp [attRow, ham]; exact h.symm)
    · exact .inr (by rw [h]; simp [attRow, ham]; rfl)
  · simp [cellsOf]
end
theorem infoStr : (Tryz.prog.info? 9).map (fun i => (i.zero, i.size, i.bytes)) = some (some (.string ByteArray.empty), 1, 16) := by kernel_rfl
theorem infoAt : (Tryz.prog.info? 112).map (fun i => (i.zero, i.size, i.bytes)) = some (some (.agg #[.string ByteArray.empty, .string ByteArray.empty, .string ByteArray.empty]), 3, 48) := by kernel_rfl
theorem atCells_one (a : Att) : ∀ u ∈ atCells a, u.oneCell' = true := by
  intro u hu
  simp [atCells] at hu
  rcases hu with rfl | rfl | rfl <;> rfl
theorem tellBinds_bd {s : St} (h : Bd s) : (Mk.tellBinds s).name = s.name ∧ (Mk.tellBinds s).attrs = s.attrs ∧ (Mk.tellBinds s).am = false ∧ (Mk.tellBinds s).text.length ≤ 100000000 ∧ (Mk.tellBinds s).list.length ≤ 700000100 ∧ (Mk.tellBinds s).bnd = s.bnd ∧ Mk.spaceOf (Mk.tellBinds s) s.name = Mk.spaceOf s s.name := by
  have e := tellBinds_core s
  have h1 := bindAll_len2 (Mk.ofTag s) s
  have h2 := spTagLen h.cb
  have h3 := h.hx
  have h4 := h.hl
  refine ⟨by rw [e], by rw [e], by rw [e]; exact h.am, ?_, ?_, by rw [e], by rw [e]; rfl⟩
  · show (Mk.bindAll s (Mk.ofTag s)).text.length ≤ _; omega
  · show (Mk.bindAll s (Mk.ofTag s)).list.length ≤ _; omega
set_option maxHeartbeats 1000000 in
set_option maxRecDepth 100000 in
theorem tellStart_any {w : World} {b : Nat} {s : St} {L : Lay} (h : RdL w b s L) (hB : Bd s) :
    Calls Tryz.prog 167 #[.pointer (some ⟨b, 0, none⟩)] w fun e w' => e = .returned (.tuple #[]) ∧ ∃ L', Mv w b (foot s L) w' (Mk.tellStart s) L' := by
  have HT := hide (tellBinds_any h hB)
  obtain ⟨t1, t2, t3, t4, t5, t6, t7⟩ := tellBinds_bd hB
  have HR := hide (show Mk.tellStart s = { Mk.add (Mk.tellBinds s) ⟨1, s.name, Mk.spaceOf s s.name, [], s.attrs⟩ with attrs := [] } from rfl)
  have hnm := hB.hn
  have hbd := hB.hb
  have HS := hide h.start
  rw [← t7, ← t2, ← t1] at HR
  rw [← t1] at hnm
  rw [← t6] at hbd
  generalize Mk.tellBinds s = t at *
  generalize Mk.tellStart s = z at *
  clear h hB t1 t2 t6 t7
  go_enter Tryz.func167, Tryz.ntmps167
  go_wp2_with fail
  refine (unhide HT).mono ?_
  rintro e w1 ⟨rfl, L1, hm1⟩
  have hc := hm1.rd.cell
  have hf := hm1.rd.frozen
  have hlt := hm1.rd.lt
  have HSP := hide (spaceOf_any hm1.rd (by omega) t.name hnm)
  have HSD := hide (spaceOf_any hm1.drew.rd (by omega) t.name hnm)
  have HA := hide (fun n => add_moved (hm1.rd.drewN n) ⟨1, t.name, Mk.spaceOf t t.name, [], t.attrs⟩ rfl t3 (Nat.le_trans t4 (by decide)) (Nat.le_trans t5 (by decide)))
  have HM1 := hide hm1
  generalize Mk.spaceOf t t.name = sp at *
  unfold cellsOf at hc
  clear hm1 HT
  go_wp2_with first | (go_at_call 168; refine (unhide HSP).mono ?_; rintro e w2 ⟨rfl, rfl⟩) | (go_at_call 168; refine (unhide HSD).mono ?_; rintro e w2 ⟨rfl, rfl⟩)
  go_region_with (go_at_call 143; refine (unhide HA _).mono ?_; rintro e w2 ⟨rfl, L2, hm2⟩)
  all_goals
    have hc2 := hm2.rd.cell
    have hf2 := hm2.rd.frozen
    have hlt2 := hm2.rd.lt
    have HM3 := hide ((((unhide HM1).drewN _).call hm2).dropAttrs)
    unfold cellsOf at hc2
    clear hm2 HM1 hc hf
    go_wp2
    go_end0
    have e1 : z = { { Mk.add t ⟨1, t.name, sp, [], t.attrs⟩ with am := true } with attrs := [], am := false } := by
      rw [unhide HR]
      unfold Mk.add Mk.endText
      split <;> simp [t3]
    rw [e1]
    exact ⟨rfl, _, unhide HM3⟩
end Go.Proofs.YtmgfijllcdadgabGreatDoor
namespace Go.Proofs.YtmgfijllcdadgabGreatDoor
open Go.RowKit
open Mk (St Bs Ev Att)
theorem add_bd {s : St} (h : Bd s) (hl : s.list.length + 2 ≤ 700000000) (e : Ev) : Bd (Mk.add s e) := by
  have e0 := add_core s e
  have h1 := add_len2 s e
  have h2 := h.hx
  rw [e0] at h1 ⊢
  dsimp only at h1
  exact { h with hx := by show (Mk.add s e).text.length ≤ _; omega, hl := by show (Mk.add s e).list.length ≤ _; omega }
set_option maxHeartbeats 1000000 in
set_option maxRecDepth 100000 in
theorem tellEnd_any {w : World} {b : Nat} {s : St} {L : Lay} (h : RdL w b s L) (hB : Bd s) (hl2 : s.list.length + 100 ≤ 700000000) (x : Bs) (hxl : x.length ≤ 100000000) :
    Calls Tryz.prog 164 #[.pointer (some ⟨b, 0, none⟩), .string ⟨x.toArray⟩] w fun e w' => e = .returned (.tuple #[]) ∧ ∃ L', Mv w b (foot s L) w' (Mk.tellEnd s x) L' := by
  have HR := hide (show Mk.tellEnd s x = Mk.resume { Mk.leave (Mk.tellUnbinds (Mk.add s ⟨2, x, Mk.spaceOf s x, [], []⟩)) with over := decide (s.opn.length = 0) } from rfl)
  have HSP := hide (spaceOf_any h (Nat.le_trans hB.hb (by decide)) x hxl)
  generalize Mk.spaceOf s x = sp at *
  have H2 := hide (fun n => add_nil (h.drewN n) ⟨2, x, sp, [], []⟩ rfl (Nat.le_trans hB.hx (by decide)) (Nat.le_trans hB.hl (by decide)))
  have HBA := hide (add_bd hB (by omega) ⟨2, x, sp, [], []⟩)
  have eo : (Mk.add s ⟨2, x, sp, [], []⟩).opn = s.opn := by rw [add_core]
  have HM0 := hide h.start
  have ho := hB.ho
  generalize Mk.tellEnd s x = z at *
  rw [← eo] at HR ho
  generalize Mk.add s ⟨2, x, sp, [], []⟩ = t at *
  have hu := tellUnbinds_core t
  have hu1 : (Mk.tellUnbinds t).bnd = t.bnd := by rw [hu]
  have hu2 : (Mk.tellUnbinds t).cnt = t.cnt := by rw [hu]
  have hu3 : (Mk.leave (Mk.tellUnbinds t)).opn = t.opn := by unfold Mk.leave; rw [hu]
  have HU := hide (And.intro hu1 hu2)
  generalize hTU : Mk.tellUnbinds t = u at *
  have HTU := hide hTU
  clear h hB eo hu hu1 hu2 hTU
  go_enter Tryz.func164, Tryz.ntmps164
  go_wp2_with (go_at_call 168; refine (unhide HSP).mono ?_; rintro e w2 ⟨rfl, rfl⟩)
  refine (unhide H2 0).mono ?_
  rintro e w2 ⟨rfl, L2, hm2⟩
  have HT := hide (tellUnbinds_any hm2.rd (unhide HBA))
  rw [unhide HTU] at HT
  have HM2 := hide ((unhide HM0).call hm2)
  clear hm2 H2 HM0 HSP
  go_wp2_with fail
  refine (unhide HT).mono ?_
  rintro e w3 ⟨rfl, L3, hm3⟩
  have HL := hide (Leave_any hm3.rd (by rw [(unhide HU).1]; exact Nat.le_trans (unhide HBA).hb (by decide)) (by rw [(unhide HU).2]; exact Nat.le_trans (unhide HBA).hc (by decide)) (by rw [(unhide HU).2]; exact (unhide HBA).cb))
  have HM3 := hide ((unhide HM2).call hm3)
  clear hm3 HT HM2
  generalize Mk.leave u = v at *
  go_wp2_with fail
  refine (unhide HL).mono ?_
  rintro e w4 ⟨rfl, L4, hm4⟩
  have hm4' := (unhide HM3).call hm4
  have hc2 := hm4'.rd.cell
  have hf2 := hm4'.rd.frozen
  have hlt2 := hm4'.rd.lt
  rw [← hu3] at HR ho
  obtain ⟨o, hov⟩ : ∃ o, decide (v.opn.length = 0) = o := ⟨_, rfl⟩
  rw [hov] at HR
  have hm5 := hm4'.store 6 (.bool o) { v with over := o } rfl rfl rfl
  have H3 := hide (resume_any hm5.rd)
  have HM5 := hide hm5
  have ed : ((v.opn.length : Int) == 0) = o := by rw [← hov, Bool.eq_iff_iff, beq_iff_eq, decide_eq_true_eq]; omega
  unfold cellsOf at hc2
  clear hm4 hm4' hm5 HL HM3 hov hu3
  go_wp2_with (go_at_call 144; refine (unhide H3).mono ?_; rintro e w5 ⟨rfl, hm6⟩; have HM6 := hide hm6; clear hm6)
  go_end0
  rw [unhide HR]
  exact ⟨rfl, L4, (unhide HM5).call (unhide HM6)⟩
end Go.Proofs.YtmgfijllcdadgabGreatDoor
