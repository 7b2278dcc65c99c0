/- Known -/
import Derived.Test.YtmgfijllcdadgaaGreatDoorCGolds2
import Derived.Test.YtmgfijllcdadgaaGreatDoorM29
import Derived.Test.YtmgfijllcdadgaaGreatDoorM30
namespace Go.Proofs.YtmgfijllcdadgaaGreatDoor
set_option linter.unusedVariables false
set_option linter.unusedSimpArgs false
open Go.RowKit
open Mk (St Bs Ev Att)

/-- What comes of a text, without the program's memory. -/
def comes (x : Kn) : Prop :=
  join [] (out (Mk.feedAll (Mk.make_ 8 4 16 false) x.text).list (Mk.feedAll (Mk.make_ 8 4 16 false) x.text).text) = x.evs.map (·.1) ∧ (Mk.feedAll (Mk.make_ 8 4 16 false) x.text).ended = x.err ∧ (Mk.close (Mk.feedAll (Mk.make_ 8 4 16 false) x.text)).2 = x.en
  ∧ (Mk.feedAll (Mk.make_ 8 4 16 false) x.text).at_ = x.at_ ∧ (Mk.feedAll (Mk.make_ 8 4 16 false) x.text).line = x.ln ∧ (Mk.feedAll (Mk.make_ 8 4 16 false) x.text).column = x.co
set_option maxRecDepth 100000 in
theorem comes_all (tv : Value) : ∀ x ∈ goldT tv, comes x := by
  intro x hx
  simp only [goldT, List.mem_cons, List.not_mem_nil, or_false] at hx
  rcases hx with rfl | rfl | rfl | rfl | rfl | rfl | rfl | rfl | rfl | rfl | rfl | rfl | rfl
  all_goals exact ⟨by kernel_rfl, by kernel_rfl, by kernel_rfl, by kernel_rfl, by kernel_rfl, by kernel_rfl⟩
theorem short_all (tv : Value) : ∀ x ∈ goldT tv, x.text.length ≤ 100 := by
  intro x hx
  simp only [goldT, List.mem_cons, List.not_mem_nil, or_false] at hx
  rcases hx with rfl | rfl | rfl | rfl | rfl | rfl | rfl | rfl | rfl | rfl | rfl | rfl | rfl
  all_goals (dsimp only; decide)
/-- Attributes are few. -/
theorem attrs_all (tv : Value) : ∀ x ∈ goldT tv, ∀ p ∈ x.evs, (p.2 = nilV ∧ p.1.attrs = []) ∨ p = (eW, tv) := by
  intro x hx p hp
  simp only [goldT, List.mem_cons, List.not_mem_nil, or_false] at hx
  rcases hx with rfl | rfl | rfl | rfl | rfl | rfl | rfl | rfl | rfl | rfl | rfl | rfl | rfl
  all_goals
    simp only [List.mem_cons, List.not_mem_nil, or_false] at hp
    try (rcases hp with rfl | rfl | rfl | rfl)
    all_goals first | exact .inl ⟨rfl, rfl⟩ | exact .inr rfl | (rcases hp with rfl | rfl | rfl; all_goals first | exact .inl ⟨rfl, rfl⟩ | exact .inr rfl) | (rcases hp with rfl | rfl; all_goals first | exact .inl ⟨rfl, rfl⟩ | exact .inr rfl) | (subst hp; exact .inl ⟨rfl, rfl⟩) | cases hp
theorem sl_got {n0 : Nat} {w : World} {tv u : Value} {x : Kn} (tb : Nat) (htv : tv = .slice (some ⟨tb, 0, none⟩) 2 2) (hT : w.heap[tb]? = some (.cells (atsRow eW.attrs).toArray 69 (0, 0))) (hx : x ∈ goldT tv) (h : SL n0 w u x.evs) : ∃ fp, Got w u (x.evs.map (·.1)) fp ∧ ∀ k ∈ fp, k < w.heap.size := by
  have hat := attrs_all tv x hx
  have hTl := (Array.getElem?_eq_some_iff.1 hT).1
  have hrow : ∀ p ∈ x.evs, (evRow p).owned w 0 := fun p hp => by
    rcases hat p hp with ⟨h1, h2⟩ | rfl
    · exact owned_nil ⟨h1, by simp [evRow, h2], by simp [evRow, h2, atsRow]⟩
    · refine ⟨rfl, .inr ⟨tb, 2, _, htv, Nat.zero_le _, hT, Nat.le_refl 2, by decide, rfl, rfl⟩⟩
  have hblk : ∀ k ∈ blks (x.evs.map evRow), k = tb := fun k hk => by
    obtain ⟨r, hr, hv⟩ := List.mem_filterMap.1 hk
    obtain ⟨p, hp, rfl⟩ := List.mem_map.1 hr
    rcases hat p hp with ⟨h1, h2⟩ | rfl
    · simp only [evRow, h1, nilV] at hv
      cases hv
    · simp only [evRow, htv] at hv
      cases hv
      rfl
  rcases h with ⟨h1, h2⟩ | ⟨g, h1, h2, h3⟩
  · refine ⟨[tb], ⟨x.evs, rfl, ?_, hrow, ?_, ?_⟩, fun k hk => by simp at hk; omega⟩
    · rw [h1, h2]; exact World.ownsRow_nil _ _ _ _
    · intro k hk; rw [h2] at hk; cases hk
    · intro k hk; exact ⟨by simp [hblk k hk], by rw [h2]; intro e; cases e⟩
  · have hgl := (Array.getElem?_eq_some_iff.1 h3).1
    have hne : g ≠ tb := fun e => by
      rw [e, hT] at h3
      injection h3 with h3
      injection h3 with _ h4
      cases h4
    have hlen : (evsRow x.evs).length = x.evs.length * 5 := by
      generalize x.evs = l
      induction l with
      | nil => rfl
      | cons y r ih => simp only [evsRow, List.flatMap_cons, List.length_append] at ih ⊢; rw [ih]; simp [evCells]; omega
    have hml : x.evs.length ≤ maxLen := by
      have hx2 := hx
      simp only [goldT, List.mem_cons, List.not_mem_nil, or_false] at hx2
      rcases hx2 with rfl | rfl | rfl | rfl | rfl | rfl | rfl | rfl | rfl | rfl | rfl | rfl | rfl
      all_goals simp [maxLen]
    refine ⟨[g, tb], ⟨x.evs, rfl, ?_, hrow, ?_, ?_⟩, fun k hk => by simp at hk; omega⟩
    · rw [List.length_map]
      exact ⟨hlen, .inr ⟨g, x.evs.length, _, h2, Nat.zero_le _, h3, Nat.le_refl _, hml, by simp [hlen], by rw [← hlen]; simp⟩⟩
    · intro k hk; rw [h2] at hk; cases hk; simp
    · intro k hk
      rw [hblk k hk, h2]
      exact ⟨by simp, fun e => hne (by injection e)⟩
theorem entry {n0 : Nat} {tv v : Value} {w : World} (h : Kd.all.ok n0 tv v w) (i : Nat) (hi : i < 13) : ∃ (g : Nat) (x : Kn) (ua : Option Addr) (un uc : Nat), v = .slice (some ⟨g, 0, none⟩) 13 13 ∧ g < w.heap.size ∧ x ∈ goldT tv ∧ SL n0 w (.slice ua un uc) x.evs ∧ ∀ j, j < 7 → w.cell? ⟨g, i * 7 + j, none⟩ = (knCells x (.slice ua un uc))[j]? := by
  obtain ⟨g, us, h1, h2, h3, h4, h5⟩ := h
  have hl : ((goldT tv).zip us).length = 13 := by rw [List.length_zip, h3]; rfl
  have hi2 : i < ((goldT tv).zip us).length := by omega
  have hm := List.getElem_mem hi2
  have hs := h5 _ hm
  obtain ⟨ua, un, uc, hu⟩ := hs.slice
  refine ⟨g, ((goldT tv).zip us)[i].1, ua, un, uc, h2, (Array.getElem?_eq_some_iff.1 h4).1, (List.of_mem_zip hm).1, by rw [← hu]; exact hs, fun j hj => ?_⟩
  rw [← hu, cell_of_row w g (i * 7 + j) _ _ _ h4]
  have := flat_get (fun p : Kn × Value => knCells p.1 p.2) 7 (fun _ => rfl) ((goldT tv).zip us) i hi2 j hj
  simpa using this
set_option maxHeartbeats 2000000 in
set_option maxRecDepth 100000 in
theorem known_any (k : Int) (hk : I64 k) (cuts : List Int) (ca : Option Addr) (cc : Nat) (hC : cuts.length ≤ 1000000000000000) (w : World)
    (hcut : ∀ j (hj : j < cuts.length), ∃ cg co, ca = some ⟨cg, co, none⟩ ∧ cg < w.heap.size ∧ w.cell? ⟨cg, co + j, none⟩ = some (.int .i64 cuts[j])) (hi64 : ∀ c ∈ cuts, I64 c) (hG : Gl w) (hs : 2 < w.heap.size) :
    Calls Tryz.prog 11 #[.int .i64 k, .slice ca cuts.length cc] w fun e w' => e = .returned (.bool true) ∧ Below w.heap.size w w' := by
  have HP := hide (fun w => pick_any k 13 hk.1 hk.2 (by decide) (by decide) w)
  have hpk := pk_bd k 13 (by decide)
  obtain ⟨i, hi⟩ : ∃ i : Nat, pk k 13 = i := ⟨(pk k 13).toNat, by omega⟩
  rw [hi] at HP hpk
  have hi13 : i < 13 := by omega
  have HR := hide (fun text (hT : text.length ≤ 1100000) w h hG hs => run_any 8 4 16 false (by decide) (by decide) (by decide) (by decide) (by decide) (by decide) text cuts ca cc hT hC w h hi64 hG hs)
  have HC := hide hcut
  have HG := hide hG
  clear hi hpk hcut hi64 hG hk
  go_enter Tryz.func11, Tryz.ntmps11
  go_wp2_with fail
  refine (golds_any w).mono ?_
  rintro e w1 ⟨v, tb, rfl, hb1, hall, hT⟩
  obtain ⟨g, x, ua, un, uc, rfl, hg, hx, hsl, hcell⟩ := entry hall i hi13
  have hcm := comes_all _ x hx
  have hsh := short_all _ x hx
  obtain ⟨fp, hgot, hfp⟩ := sl_got tb rfl hT hx hsl
  have c0 := hcell 0 (by decide)
  have c1 := hcell 1 (by decide)
  have c2 := hcell 2 (by decide)
  have c3 := hcell 3 (by decide)
  have c4 := hcell 4 (by decide)
  have c5 := hcell 5 (by decide)
  have c6 := hcell 6 (by decide)
  simp only [knCells, List.getElem?_cons_zero, List.getElem?_cons_succ, Nat.add_zero] at c0 c1 c2 c3 c4 c5 c6
  have q1 := runL_eq 8 4 16 false x.text cuts
  have q2 := runL_place 8 4 16 false x.text cuts
  unfold comes at hcm
  rw [hcm.1, hcm.2.1, hcm.2.2.1, hcm.2.2.2.1] at q1
  rw [hcm.2.2.2.2.1, hcm.2.2.2.2.2] at q2
  have HRx := hide (unhide HR x.text (by omega))
  rw [q1.1, q1.2.1, q1.2.2.1, q1.2.2.2] at HRx
  have HQ := hide q2
  have HGT := hide hgot
  have HFP := hide hfp
  obtain ⟨text, evs, err, en, at_, ln, co⟩ := x
  simp only at *
  clear hall hT hsl hcell hcm hgot hfp q1 q2 hx HR
  go_wp2_with fail
  refine (unhide HP _).mono ?_
  rintro e w' ⟨rfl, hw⟩
  obtain rfl := hw.symm
  have hin : (i : Int) < 13 := by omega
  go_wp2_with fail
  have hs1 := hb1.size
  have hb2 := hb1.alloc hs1 (.cells #[.string ⟨text.toArray⟩, .slice ua un uc, .int .i64 err, .int .i64 en, .int .i64 at_, .int .i64 ln, .int .i64 co] 32 (0, 0))
  refine (unhide HRx _ (fun j hj => ?_) ((unhide HG).below hs hb2) (by simp; omega)).mono ?_
  · obtain ⟨cg, co', h1, h2, h3⟩ := unhide HC j hj
    refine ⟨cg, co', h1, by simp; omega, ?_⟩
    have : ∀ i, (w1.alloc (.cells #[.string ⟨text.toArray⟩, .slice ua un uc, .int .i64 err, .int .i64 en, .int .i64 at_, .int .i64 ln, .int .i64 co] 32 (0, 0))).cell? ⟨cg, i, none⟩ = w.cell? ⟨cg, i, none⟩ := fun i => by simp only [World.cell?]; rw [hb2.block _ h2]
    rw [this]; exact h3
  rintro e w2 ⟨v2, fp2, q, rfl, hg2, hf2, hb3, hp2⟩
  obtain ⟨x2, c2', rfl⟩ := hg2.slice
  have hst := lay_out w2 (.slice x2 (evs.map (·.1)).length c2') err en at_ q ⟨_, _, _, rfl⟩
  have hs3 := hb3.size
  simp at hs3
  have hy2 : w2.heap[w1.heap.size]? = some (.cells #[.string ⟨text.toArray⟩, .slice ua un uc, .int .i64 err, .int .i64 en, .int .i64 at_, .int .i64 ln, .int .i64 co] 32 (0, 0)) := by
    rw [hb3.block _ (by simp)]
    exact heap_alloc_new w1 _
  have hgk : ∀ k, k < w1.heap.size → w2.heap[k]? = w1.heap[k]? := fun k hk => by rw [hb3.block _ (by simp; omega), Below.heap_alloc _ _ _ hk]
  have hd2 : ∀ o j, (w2.alloc o).cell? ⟨w1.heap.size, j, none⟩ = [.string ⟨text.toArray⟩, .slice ua un uc, .int .i64 err, .int .i64 en, .int .i64 at_, .int .i64 ln, .int .i64 co][j]? := fun o j => by simp only [World.cell?]; rw [Below.heap_alloc _ _ _ (by omega), hy2]; simp
  have hbw2 : Below w.heap.size w w2 := hb2.trans (hb3.mono (by simp; omega))
  have HS := hide (sameEvents_eq (w := w2.alloc (.cells (outCells (.slice x2 (evs.map (·.1)).length c2') err en at_ q) 36 (0, 0))) (hg2.keep fun k hk => Below.heap_alloc _ _ _ (hf2 k hk).2) ((unhide HGT).keep fun k hk => by
    have := unhide HFP k hk
    rw [Below.heap_alloc _ _ _ (by omega), hgk k this]))
  have e4 : (q.ln == ln) = true := by rw [hp2.ln, (unhide HQ).1]; simp
  have e5 : (q.co == co) = true := by rw [hp2.co, (unhide HQ).2.1]; simp
  have e1 : (err == err) = true := by simp
  have e2 : (en == en) = true := by simp
  have e3 : (at_ == at_) = true := by simp
  have HB := hide (hbw2.alloc (by have := hbw2.size; omega) (.cells (outCells (.slice x2 (evs.map (·.1)).length c2') err en at_ q) 36 (0, 0)))
  clear hb2 hb3 hy2 hgk hbw2 hg2 hf2 hp2 HRx HGT HFP HQ HC HG
  have ho2 : ∀ j, (w2.alloc (.cells (outCells (.slice x2 (evs.map (·.1)).length c2') err en at_ q) 36 (0, 0))).cell? ⟨w2.heap.size, j, none⟩ = [.slice x2 (evs.map (·.1)).length c2', .int .i64 err, .int .i64 en, .int .i64 at_, .int .i64 q.ln, .int .i64 q.co, .slice q.oa q.on q.oc][j]? := fun j => by simp only [World.cell?]; rw [heap_alloc_new]; simp [outCells]
  have hd3 := hd2 (.cells (outCells (.slice x2 (evs.map (·.1)).length c2') err en at_ q) 36 (0, 0))
  clear hd2
  generalize (evs.map (·.1)).length = en1 at *
  go_wp2_with fail
  have HST := hide hst
  clear hst
  generalize hw3 : (w2.alloc (.cells (outCells (.slice x2 en1 c2') err en at_ q) 36 (0, 0))) = w4 at *
  clear hw3
  refine (unhide HS).mono ?_
  rintro e w3 ⟨rfl, n, rfl⟩
  go_wp2
  go_ret
  exact ⟨rfl, below_drewN (unhide HB) _⟩
end Go.Proofs.YtmgfijllcdadgaaGreatDoor
