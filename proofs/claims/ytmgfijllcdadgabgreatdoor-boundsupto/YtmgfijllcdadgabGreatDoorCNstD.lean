/- NstD -/
import Derived.Test.YtmgfijllcdadgabGreatDoorCNstA
import Derived.Test.YtmgfijllcdadgabGreatDoorM27
import Derived.Test.YtmgfijllcdadgabGreatDoorCSplit
namespace Go.Proofs.YtmgfijllcdadgabGreatDoor
set_option linter.unusedVariables false
set_option linter.unusedSimpArgs false
open Go.RowKit
open Mk (St Bs Ev Att)

theorem results_tmp4 {fn : Func} {t u v x : Tmp} (h : fn.results = #[.tmp t, .tmp u, .tmp v, .tmp x]) (tmps : Array Value) (P : Program) (w : World) :
    (results fn tmps).run P w = .ok (.tuple #[tmps.getD t undef, tmps.getD u undef, tmps.getD v undef, tmps.getD x undef]) w := by
  simp [results, h]
theorem sh1_inv {h h' : Sh} {e : Ev} (hs : sh1 h e = some h') : ¬ (e.kind = 3 ∧ h.pt = true) ∧ ∃ o, stk1 h.opn e = some o ∧ (Names e.attrs).Nodup ∧ h' = ⟨o, max h.dep o.length, max h.att e.attrs.length, max h.tok (longE e), if e.kind = 1 ∧ h.opn = [] then h.out + 1 else h.out, decide (e.kind = 3)⟩ := by
  unfold sh1 at hs
  split at hs
  · cases hs
  · rename_i hn
    split at hs
    · cases hs
    · rename_i o ho
      split at hs
      · rename_i hd
        cases hs
        exact ⟨hn, o, ho, hd, rfl⟩
      · cases hs
theorem stk1_len {o o' : List Bs} {e : Ev} (h : stk1 o e = some o') : o'.length ≤ o.length + 1 := by
  unfold stk1 at h
  split at h
  · cases h; simp
  · split at h
    · split at h
      · cases h
      · cases h; rw [List.length_dropLast]; omega
    · split at h
      · split at h
        · cases h
        · cases h; omega
      · cases h; omega
theorem shs_cons (h : Sh) (e : Ev) (r : List Ev) : shs h (e :: r) = match sh1 h e with | none => none | some h' => shs h' r := rfl
theorem Got.cap {w : World} {a : Option Addr} {c : Nat} {l : List Ev} {fp : List Nat} (hg : Got w (.slice a l.length c) l fp) : l.length ≤ c := by
  obtain ⟨es, hl, ho, ha, _, _⟩ := hg.ex
  rcases ho.2 with ⟨h1, h2⟩ | ⟨g, cap, cur, h1, _, _, h3, _⟩
  · omega
  · injection h1 with _ _ h4; omega
/-- The events as they lie, each with its attributes. -/
theorem Got.at {w : World} {v : Value} {l : List Ev} {fp : List Nat} (hg : Got w v l fp) (k : Nat) (hk : k < l.length) :
    ∃ g c aa ac, v = .slice (some ⟨g, 0, none⟩) l.length c ∧ g < w.heap.size ∧ w.cell? ⟨g, k * 5, none⟩ = some (.int .i64 l[k].kind) ∧ w.cell? ⟨g, k * 5 + 1, none⟩ = some (.string ⟨l[k].name.toArray⟩) ∧ w.cell? ⟨g, k * 5 + 2, none⟩ = some (.string ⟨l[k].space.toArray⟩) ∧ w.cell? ⟨g, k * 5 + 3, none⟩ = some (.string ⟨l[k].val.toArray⟩) ∧ w.cell? ⟨g, k * 5 + 4, none⟩ = some (.slice aa l[k].attrs.length ac) ∧ AtsAt w aa l[k].attrs := by
  obtain ⟨es, hl, ho, ha, _, _⟩ := hg.ex
  have n1 : es.length = l.length := by rw [← hl]; simp
  have k1 : k < es.length := by omega
  obtain ⟨g, d, f1, hlt, q⟩ := elem_cells (l := es) (fun p => evCells p.1 p.2) (fun _ => rfl) (by decide) ho n1.symm k k1
  have r1 : es[k].1 = l[k] := by simp only [← hl, List.getElem_map]
  have o1 := ha _ (List.getElem_mem k1)
  obtain ⟨aa, ac, h2⟩ := slice_form o1
  have o2 : w.ownsRow 0 112 3 es[k].2 es[k].1.attrs.length (atsRow es[k].1.attrs) := o1
  have h2 : es[k].2 = .slice aa es[k].1.attrs.length ac := h2
  rw [h2, r1] at o2
  have q0 := q 0 (by decide)
  have q1 := q 1 (by decide)
  have q2 := q 2 (by decide)
  have q3 := q 3 (by decide)
  have q4 := q 4 (by decide)
  rw [h2, r1] at q0 q1 q2 q3 q4
  exact ⟨g, d, aa, ac, f1, hlt, q0, q1, q2, q3, q4, AtsAt.of o2⟩
theorem shp_frame {w wr W1 w' : World} {v v' : Value} (h0 : Below w.heap.size w W1) (hv : ∀ k, v.ownBlock = some k → w.heap.size ≤ k ∧ k < wr.heap.size) (hs : W1.heap.size = wr.heap.size + 1) (j : Jf W1 w' v v') : w'.heap[wr.heap.size]? = W1.heap[wr.heap.size]? ∧ Below w.heap.size w w' := by
  have h1 := h0.size
  have h2 := j.gr.size
  refine ⟨j.gr.block _ (by omega) fun e => ?_, j.gr.os.trans h0.os, j.gr.tape.trans h0.tape, j.gr.output.trans h0.output, by omega, fun k hk => (j.gr.block k (by omega) fun e => ?_).trans (h0.block k hk)⟩
  · have := (hv _ e.symm).2; omega
  · have := (hv _ e.symm).1; omega
theorem shp_evs {w W1 : World} {g i : Nat} {u : Option Nat} {x : Ev} (hg : g < w.heap.size) (hb : Below w.heap.size w W1) (hu : ∀ k, u = some k → w.heap.size ≤ k) (p0 : w.cell? ⟨g, i * 5, none⟩ = some (.int .i64 x.kind)) (p1 : w.cell? ⟨g, i * 5 + 1, none⟩ = some (.string ⟨x.name.toArray⟩)) (p3 : w.cell? ⟨g, i * 5 + 3, none⟩ = some (.string ⟨x.val.toArray⟩)) : EvsAt W1 (some ⟨g, i * 5, none⟩) u [x] := by
  have hc1 : ∀ j, W1.cell? ⟨g, j, none⟩ = w.cell? ⟨g, j, none⟩ := fun j => by simp only [World.cell?]; rw [hb.block _ hg]
  intro k hk
  have hk : k < 1 := hk
  obtain rfl : k = 0 := by omega
  refine ⟨g, i * 5, rfl, by have := hb.size; omega, fun e => ?_, ?_, ?_, ?_⟩
  · have := hu g e; omega
  · rw [hc1]; simpa using p0
  · rw [hc1]; simpa using p1
  · rw [hc1]; simpa using p3
set_option maxHeartbeats 4000000 in
set_option maxRecDepth 100000 in
theorem shape_any {w : World} {v : Value} {l : List Ev} {fp : List Nat} {H : Sh} (hg : Got w v l fp) (hfp : ∀ k ∈ fp, k < w.heap.size) (hs : shs Sh.zero l = some H) (ho : H.opn = []) (hu : H.out = 1) (hl : l.length ≤ 1000000000)
    (hb : ∀ e ∈ l, e.name.length ≤ 1000000000000000000 ∧ e.val.length ≤ 1000000000000000000 ∧ e.attrs.length ≤ 1000000 ∧ ∀ y ∈ e.attrs, y.name.length ≤ 1000000000000000000 ∧ y.val.length ≤ 1000000000000000000) :
    Calls Tryz.prog 16 #[v] w fun e w' => e = .returned (.tuple #[.int .i64 (H.dep : Int), .int .i64 (H.att : Int), .int .i64 (H.tok : Int), .bool true]) ∧ Below w.heap.size w w' := by
  obtain ⟨a, c, rfl⟩ := hg.slice
  have HG := hide hg
  have HFP := hide hfp
  have HS := hide hs
  have HB := hide hb
  have HL := hide (fun (a b : Nat) w => larger_any a b w)
  have HOP := hide ho
  have HOU := hide hu
  clear hg hfp hs hb ho hu
  go_enter Tryz.func16, Tryz.ntmps16
  go_wp2_with fail
  go_loopw [6, 7, 8, 9, 10, 11] (fun s6 s7 s8 s9 s10 s11 wx => ∃ (i : Nat) (v : Value) (h : Sh), i ≤ l.length ∧ s6 = v ∧ s7 = .int .i64 (h.dep : Int) ∧ s8 = .int .i64 (h.att : Int) ∧ s9 = .int .i64 (h.tok : Int) ∧ s10 = .int .i64 (h.out : Int) ∧ s11 = .int .i64 (i : Int) ∧ h.opn.length ≤ i ∧ h.out ≤ i ∧ Below w.heap.size w wx ∧ wx.ownsRow w.heap.size 9 1 v h.opn.length (h.opn.map sv) ∧ Hid (shs h (l.drop i) = some H) ∧ Hid (∀ k (hk : k < l.length), i = k + 1 → h.pt = decide (l[k].kind = 3))) (fun _ _ _ _ _ i _ => l.length - (intOf i).toNat)
  case atStart => exact ⟨0, _, Sh.zero, by omega, rfl, rfl, rfl, rfl, rfl, rfl, Nat.le_refl _, Nat.le_refl _, Below.refl _ _, World.ownsRow_nil _ _ _ _, unhide HS, fun k hk e => by omega⟩
  case round =>
    obtain ⟨i, v, h, hi, rfl, rfl, rfl, rfl, rfl, rfl, hol, hou, hbel, hrow, HT, HPT⟩ := hrel
    obtain ⟨va, vc, rfl⟩ := slice_form hrow
    clear HS
    by_cases hlt : i < l.length
    · have e1 : decide ((i : Int) < (l.length : Int)) = true := by simp; omega
      have e2 : (i : Int) < (l.length : Int) := by omega
      obtain ⟨g, c', aa, ac, hv, hgl, p0, p1, p2, p3, p4, hats⟩ := (unhide HG).at i hlt
      injection hv with hv1 _ hv3
      subst hv1
      subst hv3
      have hT := unhide HT
      rw [List.drop_eq_getElem_cons hlt, shs_cons] at hT
      obtain ⟨h', hs1⟩ : ∃ h', sh1 h l[i] = some h' := by
        cases hh : sh1 h l[i] with
        | none => rw [hh] at hT; cases hT
        | some h' => exact ⟨h', rfl⟩
      rw [hs1] at hT
      obtain ⟨hn3, o, hso, hnd, hh'⟩ := sh1_inv hs1
      have hbd := unhide HB l[i] (List.getElem_mem hlt)
      have hk0 : i = 0 ∨ ∃ y : Int, w.cell? ⟨g, (i - 1) * 5, none⟩ = some (.int .i64 y) ∧ (l[i].kind = 3 → (y == 3) = false) := by
        by_cases h0 : i = 0
        · exact .inl h0
        · right
          obtain ⟨g', _, _, _, hv', _, q0, _⟩ := (unhide HG).at (i - 1) (by omega)
          injection hv' with hv1 _ _
          cases hv1
          refine ⟨_, q0, fun h3 => ?_⟩
          have := unhide HPT (i - 1) (by omega) (by omega)
          rw [beq_eq_false_iff_ne]
          intro h4
          exact hn3 ⟨h3, by rw [this]; exact decide_eq_true h4⟩
      have HN : Hid (∀ k (hk : k < l.length), i + 1 = k + 1 → h'.pt = decide (l[k].kind = 3)) := fun k hk e => by
        obtain rfl : i = k := by omega
        rw [hh']
      have hwr := hbel.size
      have HT' := hide hT
      have hvob : ∀ k, (Value.slice va h.opn.length vc).ownBlock = some k → w.heap.size ≤ k ∧ k < wr.heap.size := fun k hk => World.ownsRow.lt hrow k hk
      generalize l[i] = x at *
      have hW1 : ∃ W1, W1 = wr.alloc (.cells #[.int .i64 x.kind, .string ⟨x.name.toArray⟩, .string ⟨x.space.toArray⟩, .string ⟨x.val.toArray⟩, .slice aa x.attrs.length ac] 53 (0, 0)) := ⟨_, rfl⟩
      obtain ⟨W1, hW1⟩ := hW1
      have hb1 : Below w.heap.size w W1 := by rw [hW1]; exact hbel.alloc hwr _
      have hrow1 : W1.ownsRow w.heap.size 9 1 (.slice va h.opn.length vc) h.opn.length (h.opn.map sv) := by rw [hW1]; exact World.ownsRow.alloc hrow _
      have hxb : W1.heap[wr.heap.size]? = some (.cells #[.int .i64 x.kind, .string ⟨x.name.toArray⟩, .string ⟨x.space.toArray⟩, .string ⟨x.val.toArray⟩, .slice aa x.attrs.length ac] 53 (0, 0)) := by rw [hW1]; exact heap_alloc_new wr _
      have hW1s : W1.heap.size = wr.heap.size + 1 := by rw [hW1]; simp
      have HSTK : Hid (∀ ec, Calls Tryz.prog 35 #[.slice va h.opn.length vc, .slice (some ⟨g, i * 5, none⟩) 1 ec] W1 fun e w' => ∃ v', e = .returned (.tuple #[v', .bool true]) ∧ w'.ownsRow w.heap.size 9 1 v' o.length (o.map sv) ∧ Jf W1 w' (.slice va h.opn.length vc) v') := fun ec => stack_any (l := [x]) hrow1 (by omega) (shp_evs hgl hb1 (fun k hk => (hvob k hk).1) p0 p1 p3) (by rw [stk_cons, hso]; rfl) (by simp; omega)
      have HJF : Hid (∀ w' v', Jf W1 w' (.slice va h.opn.length vc) v' → (∀ j, w'.cell? ⟨wr.heap.size, j, none⟩ = [.int .i64 x.kind, .string ⟨x.name.toArray⟩, .string ⟨x.space.toArray⟩, .string ⟨x.val.toArray⟩, .slice aa x.attrs.length ac][j]?) ∧ Below w.heap.size w w') := fun w' v' j => by
        have := shp_frame hb1 hvob hW1s j
        refine ⟨fun k => ?_, this.2⟩
        simp only [World.cell?]
        rw [this.1, hxb]
        simp
      have HREP : Hid (∀ w', Below w.heap.size w w' → Calls Tryz.prog 41 #[.slice aa x.attrs.length ac] w' fun e w2 => e = .returned (.bool false) ∧ ∃ n, w2 = w'.drewN n) := fun w' hb => repeated_any (hats.keep hb) hnd hbd.2.2.1
      have HLON : Hid (∀ w', Below w.heap.size w w' → Calls Tryz.prog 42 #[.agg #[.int .i64 x.kind, .string ⟨x.name.toArray⟩, .string ⟨x.space.toArray⟩, .string ⟨x.val.toArray⟩, .slice aa x.attrs.length ac]] w' fun e w2 => e = .returned (.int .i64 (longE x : Int)) ∧ Below w'.heap.size w' w2) := fun w' hb => longest_any (hats.keep hb) hbd.1 hbd.2.1 hbd.2.2.1 hbd.2.2.2
      have hcw : ∀ j, wr.cell? ⟨g, j, none⟩ = w.cell? ⟨g, j, none⟩ := fun j => by simp only [World.cell?]; rw [hbel.block _ hgl]
      have hcW : ∀ j, W1.cell? ⟨g, j, none⟩ = w.cell? ⟨g, j, none⟩ := fun j => by simp only [World.cell?]; rw [hb1.block _ hgl]
      rw [← hcw] at p0 p1 p2 p3 p4
      have hxc : ∀ j, W1.cell? ⟨wr.heap.size, j, none⟩ = [.int .i64 x.kind, .string ⟨x.name.toArray⟩, .string ⟨x.space.toArray⟩, .string ⟨x.val.toArray⟩, .slice aa x.attrs.length ac][j]? := fun j => by simp only [World.cell?]; rw [hxb]; simp
      have hole : o.length ≤ h.opn.length + 1 := stk1_len hso
      have HH' := hide hh'
      have HW1 := hide hW1
      have hsp : (x.kind = 1 ∧ h.opn = []) ∨ (x.kind = 1 ∧ h.opn ≠ []) ∨ (x.kind = 3 ∧ i = 0) ∨ (x.kind = 3 ∧ 0 < i) ∨ (x.kind ≠ 1 ∧ x.kind ≠ 3) := by
        by_cases hk1 : x.kind = 1
        · by_cases ho : h.opn = []
          · exact .inl ⟨hk1, ho⟩
          · exact .inr (.inl ⟨hk1, ho⟩)
        · by_cases hk3 : x.kind = 3
          · by_cases h0 : i = 0
            · exact .inr (.inr (.inl ⟨hk3, h0⟩))
            · exact .inr (.inr (.inr (.inl ⟨hk3, by omega⟩)))
          · exact .inr (.inr (.inr (.inr ⟨hk1, hk3⟩)))
      have hsz := hW1s
      have hcp := (unhide HG).cap
      have e7 : (i : Int) + 1 ≤ (c : Int) := by omega
      have e8 : (i : Int) ≤ (i : Int) + 1 := by omega
      have e9 : ¬ ((i : Int) < 0) := by omega
      clear hT HT hs1 hso hnd hbd hats hrow hrow1 hxb hcw hb1 hbel hvob HG HFP HB HPT hh' hn3 HOP HOU
      rw [hW1] at hxc hcW hW1s
      rcases hsp with ⟨h1, h2⟩ | ⟨h1, h2⟩ | ⟨h1, h2⟩ | ⟨h1, h2⟩ | ⟨h1, h2⟩
      · have f1 : (x.kind == 1) = true := by simpa using h1
        have f2 : ((h.opn.length : Int) == 0) = true := by rw [h2]; rfl
        have f3 : (x.kind == 3) = false := by rw [h1]; rfl
        have HH2 : Hid (h' = ⟨o, max h.dep o.length, max h.att x.attrs.length, max h.tok (longE x), h.out + 1, decide (x.kind = 3)⟩) := by
          have := unhide HH'; rw [if_pos ⟨h1, h2⟩] at this; exact this
        clear hk0 HH' h1 h2
        go_wp2_with fail
        rw [← hW1]
        refine (unhide HSTK _).mono ?_
        rintro e w2 ⟨v2, rfl, hrow2, hj⟩
        obtain ⟨a2, c2, rfl⟩ := slice_form hrow2
        obtain ⟨hx2, hb2⟩ := (unhide HJF) w2 _ hj
        have HR2 := hide hrow2
        have HRP := hide (unhide HREP w2 hb2)
        have HLG := hide (fun n => unhide HLON (w2.drewN n) (below_drewN hb2 n))
        have HB2 := hide hb2
        clear hrow2 hj hb2 HSTK HJF HREP HLON hW1 hxc hcW hW1s hsz p0 p1 p2 p3 p4
        go_wp2_with (first | (go_at_call 41; refine (unhide HRP).mono ?_; rintro e w3 ⟨rfl, n3, rfl⟩) | (go_at_call 18; refine (unhide HL _ _ _).mono ?_; rintro e w' ⟨rfl, rfl⟩) | (go_at_call 42; refine (unhide HLG _).mono ?_; rintro e w4 ⟨rfl, hb4⟩; have HB4 := hide hb4; clear hb4))
        go_roundw
        case rel =>
          refine ⟨i + 1, _, h', by omega, rfl, ?_, ?_, ?_, ?_, by simp, ?_, ?_, ?_, ?_, unhide HT', unhide HN⟩
          · rw [unhide HH2]
          · rw [unhide HH2]
          · rw [unhide HH2]
          · rw [unhide HH2]; try simp
          · rw [unhide HH2]; show o.length ≤ i + 1; omega
          · rw [unhide HH2]; first | (show h.out + 1 ≤ i + 1; omega) | (show h.out ≤ i + 1; omega)
          · have hb2 := unhide HB2
            have hb4 := unhide HB4
            exact (below_drewN hb2 _).trans (hb4.mono (by simpa using hb2.size))
          · rw [unhide HH2]
            have hb4 := unhide HB4
            have h1 := owned_drewN (unhide HR2) n3
            exact owned_keep (r := ⟨9, 1, _, _, _⟩) h1 fun k hv => hb4.block k (World.ownsRow.lt h1 k hv).2
        case measure => simp [intOf]; omega
      · have f1 : (x.kind == 1) = true := by simpa using h1
        have f2 : ((h.opn.length : Int) == 0) = false := by rw [beq_eq_false_iff_ne]; have := List.length_pos_iff.2 h2; omega
        have f3 : (x.kind == 3) = false := by rw [h1]; rfl
        have HH2 : Hid (h' = ⟨o, max h.dep o.length, max h.att x.attrs.length, max h.tok (longE x), h.out, decide (x.kind = 3)⟩) := by
          have := unhide HH'; rw [if_neg (fun g => h2 g.2)] at this; exact this
        clear hk0 HH' h1 h2
        go_wp2_with fail
        rw [← hW1]
        refine (unhide HSTK _).mono ?_
        rintro e w2 ⟨v2, rfl, hrow2, hj⟩
        obtain ⟨a2, c2, rfl⟩ := slice_form hrow2
        obtain ⟨hx2, hb2⟩ := (unhide HJF) w2 _ hj
        have HR2 := hide hrow2
        have HRP := hide (unhide HREP w2 hb2)
        have HLG := hide (fun n => unhide HLON (w2.drewN n) (below_drewN hb2 n))
        have HB2 := hide hb2
        clear hrow2 hj hb2 HSTK HJF HREP HLON hW1 hxc hcW hW1s hsz p0 p1 p2 p3 p4
        go_wp2_with (first | (go_at_call 41; refine (unhide HRP).mono ?_; rintro e w3 ⟨rfl, n3, rfl⟩) | (go_at_call 18; refine (unhide HL _ _ _).mono ?_; rintro e w' ⟨rfl, rfl⟩) | (go_at_call 42; refine (unhide HLG _).mono ?_; rintro e w4 ⟨rfl, hb4⟩; have HB4 := hide hb4; clear hb4))
        go_roundw
        case rel =>
          refine ⟨i + 1, _, h', by omega, rfl, ?_, ?_, ?_, ?_, by simp, ?_, ?_, ?_, ?_, unhide HT', unhide HN⟩
          · rw [unhide HH2]
          · rw [unhide HH2]
          · rw [unhide HH2]
          · rw [unhide HH2]; try simp
          · rw [unhide HH2]; show o.length ≤ i + 1; omega
          · rw [unhide HH2]; first | (show h.out + 1 ≤ i + 1; omega) | (show h.out ≤ i + 1; omega)
          · have hb2 := unhide HB2
            have hb4 := unhide HB4
            exact (below_drewN hb2 _).trans (hb4.mono (by simpa using hb2.size))
          · rw [unhide HH2]
            have hb4 := unhide HB4
            have h1 := owned_drewN (unhide HR2) n3
            exact owned_keep (r := ⟨9, 1, _, _, _⟩) h1 fun k hv => hb4.block k (World.ownsRow.lt h1 k hv).2
        case measure => simp [intOf]; omega
      · have f1 : (x.kind == 1) = false := by rw [h1]; rfl
        have f3 : (x.kind == 3) = true := by rw [h1]; rfl
        have f4 : decide (0 < (i : Int)) = false := by simp; omega
        have f4' : decide (0 < i) = false := by simp; omega
        have HH2 : Hid (h' = ⟨o, max h.dep o.length, max h.att x.attrs.length, max h.tok (longE x), h.out, decide (x.kind = 3)⟩) := by
          have := unhide HH'; rw [if_neg (fun g => by rw [h1] at g; exact absurd g.1 (by decide))] at this; exact this
        clear hk0 HH' h1 h2
        go_wp2_with fail
        rw [← hW1]
        refine (unhide HSTK _).mono ?_
        rintro e w2 ⟨v2, rfl, hrow2, hj⟩
        obtain ⟨a2, c2, rfl⟩ := slice_form hrow2
        obtain ⟨hx2, hb2⟩ := (unhide HJF) w2 _ hj
        have HR2 := hide hrow2
        have HRP := hide (unhide HREP w2 hb2)
        have HLG := hide (fun n => unhide HLON (w2.drewN n) (below_drewN hb2 n))
        have HB2 := hide hb2
        clear hrow2 hj hb2 HSTK HJF HREP HLON hW1 hxc hcW hW1s hsz p0 p1 p2 p3 p4
        go_wp2_with (first | (go_at_call 41; refine (unhide HRP).mono ?_; rintro e w3 ⟨rfl, n3, rfl⟩) | (go_at_call 18; refine (unhide HL _ _ _).mono ?_; rintro e w' ⟨rfl, rfl⟩) | (go_at_call 42; refine (unhide HLG _).mono ?_; rintro e w4 ⟨rfl, hb4⟩; have HB4 := hide hb4; clear hb4))
        go_roundw
        case rel =>
          refine ⟨i + 1, _, h', by omega, rfl, ?_, ?_, ?_, ?_, by simp, ?_, ?_, ?_, ?_, unhide HT', unhide HN⟩
          · rw [unhide HH2]
          · rw [unhide HH2]
          · rw [unhide HH2]
          · rw [unhide HH2]; try simp
          · rw [unhide HH2]; show o.length ≤ i + 1; omega
          · rw [unhide HH2]; first | (show h.out + 1 ≤ i + 1; omega) | (show h.out ≤ i + 1; omega)
          · have hb2 := unhide HB2
            have hb4 := unhide HB4
            exact (below_drewN hb2 _).trans (hb4.mono (by simpa using hb2.size))
          · rw [unhide HH2]
            have hb4 := unhide HB4
            have h1 := owned_drewN (unhide HR2) n3
            exact owned_keep (r := ⟨9, 1, _, _, _⟩) h1 fun k hv => hb4.block k (World.ownsRow.lt h1 k hv).2
        case measure => simp [intOf]; omega
      · have f1 : (x.kind == 1) = false := by rw [h1]; rfl
        have f3 : (x.kind == 3) = true := by rw [h1]; rfl
        have f4 : decide (0 < (i : Int)) = true := by simp; omega
        have f4' : decide (0 < i) = true := by simp; omega
        obtain ⟨y, q0, q1⟩ : ∃ y : Int, w.cell? ⟨g, (i - 1) * 5, none⟩ = some (.int .i64 y) ∧ (x.kind = 3 → (y == 3) = false) := by
          rcases hk0 with hk0 | hk0
          · omega
          · exact hk0
        have f5 := q1 h1
        have q2 := (hcW ((i - 1) * 5)).trans q0
        obtain ⟨k, rfl⟩ : ∃ k, i = k + 1 := ⟨i - 1, by omega⟩
        have f6 : ((k + 1 : Nat) : Int) - 1 = (k : Int) := by omega
        have f6' : ((k : Int) + 1) - 1 = (k : Int) := by omega
        have f7 : ¬ ((k : Int) < 0) := by omega
        have f8 : (k : Int) < (l.length : Int) := by omega
        rw [show k + 1 - 1 = k from rfl] at q2 q0
        have HH2 : Hid (h' = ⟨o, max h.dep o.length, max h.att x.attrs.length, max h.tok (longE x), h.out, decide (x.kind = 3)⟩) := by
          have := unhide HH'; rw [if_neg (fun g => by rw [h1] at g; exact absurd g.1 (by decide))] at this; exact this
        clear hk0 HH' h1 h2 q1
        go_wp2_with fail
        rw [← hW1]
        refine (unhide HSTK _).mono ?_
        rintro e w2 ⟨v2, rfl, hrow2, hj⟩
        obtain ⟨a2, c2, rfl⟩ := slice_form hrow2
        obtain ⟨hx2, hb2⟩ := (unhide HJF) w2 _ hj
        have HR2 := hide hrow2
        have HRP := hide (unhide HREP w2 hb2)
        have HLG := hide (fun n => unhide HLON (w2.drewN n) (below_drewN hb2 n))
        have HB2 := hide hb2
        clear hrow2 hj hb2 HSTK HJF HREP HLON hW1 hxc hcW hW1s hsz p0 p1 p2 p3 p4
        go_wp2_with (first | (go_at_call 41; refine (unhide HRP).mono ?_; rintro e w3 ⟨rfl, n3, rfl⟩) | (go_at_call 18; refine (unhide HL _ _ _).mono ?_; rintro e w' ⟨rfl, rfl⟩) | (go_at_call 42; refine (unhide HLG _).mono ?_; rintro e w4 ⟨rfl, hb4⟩; have HB4 := hide hb4; clear hb4))
        go_roundw
        case rel =>
          refine ⟨k + 1 + 1, _, h', by omega, rfl, ?_, ?_, ?_, ?_, by simp, ?_, ?_, ?_, ?_, unhide HT', unhide HN⟩
          · rw [unhide HH2]
          · rw [unhide HH2]
          · rw [unhide HH2]
          · rw [unhide HH2]; try simp
          · rw [unhide HH2]; show o.length ≤ k + 1 + 1; omega
          · rw [unhide HH2]; first | (show h.out + 1 ≤ k + 1 + 1; omega) | (show h.out ≤ k + 1 + 1; omega)
          · have hb2 := unhide HB2
            have hb4 := unhide HB4
            exact (below_drewN hb2 _).trans (hb4.mono (by simpa using hb2.size))
          · rw [unhide HH2]
            have hb4 := unhide HB4
            have h1 := owned_drewN (unhide HR2) n3
            exact owned_keep (r := ⟨9, 1, _, _, _⟩) h1 fun k hv => hb4.block k (World.ownsRow.lt h1 k hv).2
        case measure => simp [intOf]; omega
      · have f1 : (x.kind == 1) = false := by simpa using h1
        have f3 : (x.kind == 3) = false := by simpa using h2
        have HH2 : Hid (h' = ⟨o, max h.dep o.length, max h.att x.attrs.length, max h.tok (longE x), h.out, decide (x.kind = 3)⟩) := by
          have := unhide HH'; rw [if_neg (fun g => h1 g.1)] at this; exact this
        clear hk0 HH' h1 h2
        go_wp2_with fail
        rw [← hW1]
        refine (unhide HSTK _).mono ?_
        rintro e w2 ⟨v2, rfl, hrow2, hj⟩
        obtain ⟨a2, c2, rfl⟩ := slice_form hrow2
        obtain ⟨hx2, hb2⟩ := (unhide HJF) w2 _ hj
        have HR2 := hide hrow2
        have HRP := hide (unhide HREP w2 hb2)
        have HLG := hide (fun n => unhide HLON (w2.drewN n) (below_drewN hb2 n))
        have HB2 := hide hb2
        clear hrow2 hj hb2 HSTK HJF HREP HLON hW1 hxc hcW hW1s hsz p0 p1 p2 p3 p4
        go_wp2_with (first | (go_at_call 41; refine (unhide HRP).mono ?_; rintro e w3 ⟨rfl, n3, rfl⟩) | (go_at_call 18; refine (unhide HL _ _ _).mono ?_; rintro e w' ⟨rfl, rfl⟩) | (go_at_call 42; refine (unhide HLG _).mono ?_; rintro e w4 ⟨rfl, hb4⟩; have HB4 := hide hb4; clear hb4))
        go_roundw
        case rel =>
          refine ⟨i + 1, _, h', by omega, rfl, ?_, ?_, ?_, ?_, by simp, ?_, ?_, ?_, ?_, unhide HT', unhide HN⟩
          · rw [unhide HH2]
          · rw [unhide HH2]
          · rw [unhide HH2]
          · rw [unhide HH2]; try simp
          · rw [unhide HH2]; show o.length ≤ i + 1; omega
          · rw [unhide HH2]; first | (show h.out + 1 ≤ i + 1; omega) | (show h.out ≤ i + 1; omega)
          · have hb2 := unhide HB2
            have hb4 := unhide HB4
            exact (below_drewN hb2 _).trans (hb4.mono (by simpa using hb2.size))
          · rw [unhide HH2]
            have hb4 := unhide HB4
            have h1 := owned_drewN (unhide HR2) n3
            exact owned_keep (r := ⟨9, 1, _, _, _⟩) h1 fun k hv => hb4.block k (World.ownsRow.lt h1 k hv).2
        case measure => simp [intOf]; omega
    · have e1 : decide ((i : Int) < (l.length : Int)) = false := by simp; omega
      have hT := unhide HT
      rw [List.drop_of_length_le (by omega)] at hT
      obtain rfl : h = H := Option.some.inj hT
      have e5 : ((h.opn.length : Int) == 0) = true := by rw [unhide HOP]; rfl
      have e6 : ((h.out : Int) == 1) = true := by rw [unhide HOU]; rfl
      clear HT hrow HPT HOP HOU
      go_wp2
      refine bodyPost_ret (results_tmp4 rfl _ _ _) rfl ?_
      exact ⟨rfl, hbel⟩
end Go.Proofs.YtmgfijllcdadgabGreatDoor
