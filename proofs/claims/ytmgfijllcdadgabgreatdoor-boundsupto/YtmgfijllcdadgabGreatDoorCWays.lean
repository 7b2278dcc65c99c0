/- Ways -/
import Derived.Test.YtmgfijllcdadgabGreatDoorCCompl
import Derived.Laws.CopyOwn
import Derived.Laws.Tables
namespace Go.Proofs.YtmgfijllcdadgabGreatDoor
set_option linter.unusedVariables false
set_option linter.unusedSimpArgs false
open Go.RowKit
open Mk (St Bs Ev Att)

theorem lay_over (w : World) (g : Nat) (cur : Array Value) (v : Value) (err en at_ : Int) (q : Plc) (hv : ∃ a n c, v = .slice a n c) (hg : w.heap[g]? = some (.cells cur 38 (0, 0))) (hcs : cur.size = 7) :
    (storeCells ⟨g, 0, none⟩ (outCells v err en at_ q).toList 0).run Tryz.prog w = .ok () (w.setRow g (outCells v err en at_ q)) := by
  obtain ⟨a, n, c, rfl⟩ := hv
  exact run_storeCells_from (P := Tryz.prog) g 38 (outCells (.slice a n c) err en at_ q).toList 0 cur w hg (by simp [outCells, hcs]) (by simp [outCells, Value.oneCell'])
theorem tagsLen_take (l : List Bs) (i : Nat) (hi : i < l.length) : tagsLen (l.take (i + 1)) = tagsLen (l.take i) + l[i].length + 3 := by
  rw [spTakeS l i hi, tagsLen_app]
  simp [tagsLen]
  omega
theorem tagsLen_mono (l : List Bs) (i : Nat) : tagsLen (l.take i) ≤ tagsLen l := by
  have := tagsLen_app (l.take i) (l.drop i)
  rw [List.take_append_drop] at this
  omega
/-- The names of an outcome, one by one. -/
theorem Nms.at {n : Nat} {w : World} {oa : Option Addr} {on oc : Nat} {l : List Bs} (h : Nms n w oa on oc l) (k : Nat) (hk : k < l.length) : ∃ g, oa = some ⟨g, 0, none⟩ ∧ g < w.heap.size ∧ w.cell? ⟨g, k, none⟩ = some (.string ⟨(l[k]).toArray⟩) := by
  obtain rfl := h.len
  have hrow : w.ownsRow n 9 1 (.slice oa l.length oc) l.length (l.flatMap fun n => [sv n]) := by
    have e : (l.flatMap fun n => [sv n]) = l.map sv := by rw [List.map_eq_flatMap]
    rw [e]; exact h
  obtain ⟨g, hg, hgl, hcl⟩ := spElem (m := 1) (l := l) (fun n => [sv n]) (fun _ => rfl) (by decide) hrow k hk
  refine ⟨g, hg, hgl, ?_⟩
  have := hcl 0 (by decide)
  simpa [sv] using this
/-- What is told of a text, completed. -/
theorem compl_doc (d a t : Int) (d1 : 1 ≤ d) (t1 : 8 ≤ t) (a2 : a ≤ 32) (text : Bs) :
    (Mk.feedAll (Mk.make_ d a t false) (compl (Mk.make_ d a t false) text)).ended = 0 ∧ (Mk.close (Mk.feedAll (Mk.make_ d a t false) (compl (Mk.make_ d a t false) text))).2 = 0 ∧ (Mk.feedAll (Mk.make_ d a t false) (compl (Mk.make_ d a t false) text)).opn = []
    ∧ (Mk.feedAll (Mk.make_ d a t false) (compl (Mk.make_ d a t false) text)).at_ = (compl (Mk.make_ d a t false) text).length := by
  have hW := W_text d a t false d1 t1 a2 text
  have hok := upTo_ok (s := Mk.make_ d a t false) rfl rfl text
  have h := rest_completes _ _ hW (opts_feedAll d a t false _).2.2 hok (Nat.le_refl _)
  have e : Mk.feedAll (Mk.make_ d a t false) (compl (Mk.make_ d a t false) text) = Mk.feedAll (Mk.feedAll (Mk.make_ d a t false) (upTo (Mk.make_ d a t false) text)) (Mk.rest (Mk.feedAll (Mk.make_ d a t false) (upTo (Mk.make_ d a t false) text))) := feedAll_app _ _ _
  rw [← e] at h
  refine ⟨h.1, ?_, h.2.2, ?_⟩
  · unfold Mk.close
    rw [if_pos h.1, if_pos h.2.1]
  · rcases feedAll_told (compl (Mk.make_ d a t false) text) (Mk.make_ d a t false) rfl with ⟨_, g⟩ | ⟨g, _⟩
    · rw [g]; simp [Mk.make_]
    · exact absurd h.1 g
theorem compl_len (d a t : Int) (nm : Bool) (d1 : 1 ≤ d) (t1 : 8 ≤ t) (a2 : a ≤ 32) (text : Bs) : (compl (Mk.make_ d a t nm) text).length ≤ (upTo (Mk.make_ d a t nm) text).length + 16 + tagsLen (Mk.feedAll (Mk.make_ d a t nm) (upTo (Mk.make_ d a t nm) text)).opn := by
  have := rest_len (W_text d a t nm d1 t1 a2 text)
  unfold compl
  rw [List.length_append]
  omega
set_option maxHeartbeats 8000000 in
set_option maxRecDepth 100000 in
theorem ways_any (d a t : Int) (d1 : 1 ≤ d) (d2 : d ≤ 64) (a1 : 0 ≤ a) (a2 : a ≤ 32) (t1 : 8 ≤ t) (t2 : t ≤ 1024) (text : Bs) (cuts : List Int) (ca : Option Addr) (cc : Nat) (hT : text.length ≤ 1048576) (hC : cuts.length ≤ 1120000) (w : World)
    (hcut : ∀ j (hj : j < cuts.length), ∃ cg co, ca = some ⟨cg, co, none⟩ ∧ cg < w.heap.size ∧ w.cell? ⟨cg, co + j, none⟩ = some (.int .i64 cuts[j])) (hi64 : ∀ c ∈ cuts, I64 c) (hG : Gl w) (hs : 6 < w.heap.size) :
    Calls Tryz.prog 12 #[.agg #[.int .i64 d, .int .i64 a, .int .i64 t, .bool false], .string ⟨text.toArray⟩, .slice ca cuts.length cc] w fun e w' => e = .returned (.bool true) ∧ Below w.heap.size w w' := by
  have HX := hide (fun (tx : Bs) (hT : tx.length ≤ 1120000) w hG hs => run_any d a t false d1 d2 a1 a2 t1 t2 tx [] none 0 hT (by decide) w (fun j hj => by cases hj) (fun c hc => by cases hc) hG hs)
  have hdoc := compl_doc d a t d1 t1 a2 text
  have hDl : (compl (Mk.make_ d a t false) text).length ≤ 1120000 := by
    have h1 := upTo_len (Mk.make_ d a t false) text
    have h2 := rest_short (W_text d a t false d1 t1 a2 text) (by rw [(opts_feedAll d a t false _).1]; exact d2) (by rw [(opts_feedAll d a t false _).2.1]; exact t2)
    unfold compl
    rw [List.length_append]
    have := h2.1
    omega
  have hDm := compl_len d a t false d1 t1 a2 text
  have HCP := hide (fun w hG hs => completed_any d a t false d1 d2 a1 a2 t1 t2 text hT w hG hs)
  have hOl := (rest_short (W_text d a t false d1 t1 a2 text) (by rw [(opts_feedAll d a t false _).1]; exact d2) (by rw [(opts_feedAll d a t false _).2.1]; exact t2)).2
  have hOn : (Mk.feedAll (Mk.make_ d a t false) (upTo (Mk.make_ d a t false) text)).opn.length ≤ 64 := by have := (W_text d a t false d1 t1 a2 text).dp; rw [(opts_feedAll d a t false _).1] at this; omega
  have HY := hide (fun w h hG hs => run_any d a t false d1 d2 a1 a2 t1 t2 (compl (Mk.make_ d a t false) text) cuts ca cc hDl (by omega) w h hi64 hG hs)
  have q2 := runL_eq d a t false (compl (Mk.make_ d a t false) text) cuts
  have p2 := runL_place d a t false (compl (Mk.make_ d a t false) text) cuts
  rw [q2.2.1, q2.2.2.1, q2.2.2.2, hdoc.1, hdoc.2.1, hdoc.2.2.2] at HY
  have HYO : Hid ((runL (Mk.make_ d a t false) [] 0 (compl (Mk.make_ d a t false) text) cuts).1.opn = []) := p2.2.2.trans hdoc.2.2.1
  have hqx : ∀ tx, (runL (Mk.make_ d a t false) [] 0 tx []).2.2 = (Mk.feedAll (Mk.make_ d a t false) tx).ended ∧ (runL (Mk.make_ d a t false) [] 0 tx []).1.at_ = (Mk.feedAll (Mk.make_ d a t false) tx).at_ ∧ (runL (Mk.make_ d a t false) [] 0 tx []).1.opn = (Mk.feedAll (Mk.make_ d a t false) tx).opn := fun tx => ⟨(runL_eq d a t false tx []).2.1, (runL_eq d a t false tx []).2.2.1, (runL_place d a t false tx []).2.2⟩
  have HN := hide (fun w => new_any d a t false d1 d2 a1 a2 t1 t2 w)
  have HINV := hide (inv_make d a t false a2)
  have HFEED := hide (fun (wx : World) (b : Nat) (h : RdL wx b (Mk.make_ d a t false) (L0 b)) hG (hb : 6 + 1 < b) (g c : Nat) h1 h2 h3 h4 => Feed_any h (unhide HINV) text (by omega) hG hb (by simp [Mk.make_]) (by simp [Mk.make_]) g c h1 h2 h3 h4)
  have htold := feedAll_told text (Mk.make_ d a t false) rfl
  have hat0 : (Mk.make_ d a t false).at_ = 0 := rfl
  rw [hat0] at htold
  have hTe : (Mk.feedAll (Mk.make_ d a t false) text).ended = 0 ∧ upTo (Mk.make_ d a t false) text = text ∨ (Mk.feedAll (Mk.make_ d a t false) text).ended ≠ 0 ∧ upTo (Mk.make_ d a t false) text = text.take ((Mk.feedAll (Mk.make_ d a t false) text).at_ - 1).toNat := by
    unfold upTo
    by_cases h : (Mk.feedAll (Mk.make_ d a t false) text).ended = 0
    · exact .inl ⟨h, by rw [if_pos h]⟩
    · exact .inr ⟨h, by rw [if_neg h]⟩
  have hfe : (Mk.feed (Mk.make_ d a t false) text).2.2 = (Mk.feedAll (Mk.make_ d a t false) text).ended ∧ (Mk.feed (Mk.make_ d a t false) text).1.ended = (Mk.feedAll (Mk.make_ d a t false) text).ended := by
    unfold Mk.feed
    rw [if_pos (show (Mk.make_ d a t false).ended = 0 from rfl)]
    refine ⟨rfl, ?_⟩
    show (Mk.take _).ended = _
    unfold Mk.take
    rw [endText_core (Mk.feedAll (Mk.make_ d a t false) text)]
  have HX1 := hide (fun w hG hs => unhide HX text (by omega) w hG hs)
  rw [(hqx text).1, (hqx text).2.1] at HX1
  have HX2 := hide (fun w hG hs => unhide HX (upTo (Mk.make_ d a t false) text) (by have := upTo_len (Mk.make_ d a t false) text; omega) w hG hs)
  have HO1 := hide (hqx text).2.2
  have HO2 := hide (hqx (upTo (Mk.make_ d a t false) text)).2.2
  have hTl := upTo_len (Mk.make_ d a t false) text
  clear hdoc q2 p2 hqx HX
  generalize compl (Mk.make_ d a t false) text = D at *
  generalize (runL (Mk.make_ d a t false) [] 0 D cuts) = RD at *
  generalize (runL (Mk.make_ d a t false) [] 0 text []) = R1 at *
  generalize (runL (Mk.make_ d a t false) [] 0 (upTo (Mk.make_ d a t false) text) []) = R2 at *
  generalize (Mk.feed (Mk.make_ d a t false) text) = FD at *
  generalize (Mk.feedAll (Mk.make_ d a t false) text).ended = err at *
  generalize (Mk.feedAll (Mk.make_ d a t false) text).at_ = at_ at *
  generalize hTT : upTo (Mk.make_ d a t false) text = T at *
  have HG := hide hG
  have HC := hide hcut
  clear hG hcut hi64 d1 d2 a1 a2 t1 t2 hat0
  go_enter Tryz.func12, Tryz.ntmps12
  go_wp2_with fail
  have hb0 := (Below.refl w.heap.size w).alloc (Nat.le_refl _) (.cells #[.int .i64 d, .int .i64 a, .int .i64 t, .bool false] 25 (0, 0))
  refine (unhide HX1 _ ((unhide HG).below hs hb0) (by simp; omega)).mono ?_
  rintro e w1 ⟨v1, fp1, u1, rfl, hg1, hf1, hb1, hp1⟩
  obtain ⟨x1, c1, rfl⟩ := hg1.slice
  have hst := lay_out w1 (.slice x1 R1.2.1.length c1) err (Mk.close R1.1).2 at_ u1 ⟨_, _, _, rfl⟩
  have hx1 : w1.heap[w.heap.size]? = some (.cells #[.int .i64 d, .int .i64 a, .int .i64 t, .bool false] 25 (0, 0)) := by
    rw [hb1.block _ (by simp)]
    exact heap_alloc_new w _
  have hsz1 : w.heap.size < w1.heap.size := (Array.getElem?_eq_some_iff.1 hx1).1
  have hc1 : ∀ o j, (w1.alloc o).cell? ⟨w.heap.size, j, none⟩ = [.int .i64 d, .int .i64 a, .int .i64 t, .bool false][j]? := fun o j => by simp only [World.cell?]; rw [Below.heap_alloc _ _ _ (by omega), hx1]; simp
  have hbw1 : Below w.heap.size w w1 := hb0.trans (hb1.mono (by simp))
  have HP1 := hide hp1
  clear hg1 hf1 hb1 hb0 HX1 hp1
  go_wp2_with fail
  have hb2 := hbw1.alloc (by omega) (.cells (outCells (.slice x1 R1.2.1.length c1) err (Mk.close R1.1).2 at_ u1) 38 (0, 0))
  refine (unhide HN _).mono ?_
  rintro e w2 ⟨b, rfl, hb, hb3, hrd⟩
  simp at hb
  have hy1 : w2.heap[w.heap.size]? = some (.cells #[.int .i64 d, .int .i64 a, .int .i64 t, .bool false] 25 (0, 0)) := by
    rw [hb3.block _ (by simp; omega), Below.heap_alloc _ _ _ (by omega)]
    exact hx1
  have hy2 : w2.heap[w1.heap.size]? = some (.cells (outCells (.slice x1 R1.2.1.length c1) err (Mk.close R1.1).2 at_ u1) 38 (0, 0)) := by
    rw [hb3.block _ (by simp)]
    exact heap_alloc_new w1 _
  have hd1 : ∀ j, w2.cell? ⟨w.heap.size, j, none⟩ = [.int .i64 d, .int .i64 a, .int .i64 t, .bool false][j]? := fun j => by simp [World.cell?, hy1]
  have hbw2 : Below w.heap.size w w2 := hb2.trans (hb3.mono (by simp; omega))
  have hb12 : ∀ k, k < w1.heap.size → w2.heap[k]? = w1.heap[k]? := fun k hk => by rw [hb3.block _ (by simp; omega), Below.heap_alloc _ _ _ hk]
  have HB12 := hide hb12
  have hsb := hrd.lt
  have hs2 := hbw2.size
  have hs12 : w1.heap.size < w2.heap.size := (Array.getElem?_eq_some_iff.1 hy2).1
  clear hst hc1 hx1 hb2 hb3 HN hbw1 hb12
  go_wp2_with fail
  refine (unhide HCP _ ((unhide HG).below hs hbw2) (by omega)).mono ?_
  rintro e w3 ⟨rfl, hb3⟩
  have hs3 := hb3.size
  have hbw3 : Below w.heap.size w w3 := hbw2.trans (hb3.mono hs2)
  have hz1 : w3.heap[w.heap.size]? = some (.cells #[.int .i64 d, .int .i64 a, .int .i64 t, .bool false] 25 (0, 0)) := (hb3.block _ (by omega)).trans hy1
  have hz2 : w3.heap[w1.heap.size]? = some (.cells (outCells (.slice x1 R1.2.1.length c1) err (Mk.close R1.1).2 at_ u1) 38 (0, 0)) := (hb3.block _ hs12).trans hy2
  have he2 : ∀ j, w3.cell? ⟨w1.heap.size, j, none⟩ = [.slice x1 R1.2.1.length c1, .int .i64 err, .int .i64 (Mk.close R1.1).2, .int .i64 at_, .int .i64 u1.ln, .int .i64 u1.co, .slice u1.oa u1.on u1.oc][j]? := fun j => by simp [World.cell?, hz2, outCells]
  have hd3 : ∀ j, w3.cell? ⟨w.heap.size, j, none⟩ = [.int .i64 d, .int .i64 a, .int .i64 t, .bool false][j]? := fun j => by simp [World.cell?, hz1]
  have hrd3 := rd_below hrd hb3
  have HZ1 := hide hz1
  have HZ2 := hide hz2
  clear hy1 hy2 hd1 hrd HCP hbw2
  rcases hTe with ⟨he0, hTt⟩ | ⟨hne, hTt⟩
  · subst he0
    have HNM : Hid (Nms (w.heap.size + 1) w3 u1.oa u1.on u1.oc (Mk.feedAll (Mk.make_ d a t false) T).opn) := by
      have h1 := (unhide HP1).nm
      rw [unhide HO1, ← hTt] at h1
      have h2 := h1.keep (w' := w3) fun k _ hk => (hb3.block k (by omega)).trans (unhide HB12 k hk)
      have h3 : Nms (w.heap.size + 1) w3 u1.oa u1.on u1.oc (Mk.feedAll (Mk.make_ d a t false) T).opn := by simpa using h2
      exact h3
    obtain ⟨O, hO⟩ : ∃ O, O = (Mk.feedAll (Mk.make_ d a t false) T).opn := ⟨_, rfl⟩
    rw [← hO] at HNM hDm hOl hOn
    obtain ⟨wz, hwz⟩ : ∃ wz, wz = w3 := ⟨_, rfl⟩
    subst hwz
    have HBZ := hide hbw3
    have hon : u1.on = O.length := (unhide HNM).len
    rw [hon] at he2
    have hBZ : w1.heap.size < wz.heap.size := by omega
    subst hTt
    clear hO hTT HO1 HO2 HX2 HFEED HP1 hrd3 hb3 hbw3 HB12 HINV hfe htold hon
    go_wp2_with fail
    go_loopg [14, 15] O.length (fun g s14 s15 wx => ∃ (wy : World) (i : Nat) (M : Int), wy = wx ∧ wy = wz ∧ i ≤ O.length ∧ g = O.length - i ∧ s14 = .int .i64 M ∧ s15 = .int .i64 (i : Int) ∧ 0 ≤ M ∧ M ≤ 2000000 + 2000 * (i : Int) ∧ Hid (M = ((T.length + 16 + tagsLen (O.take i) : Nat) : Int)))
    case atStart => exact ⟨_, 0, _, rfl, rfl, by omega, rfl, rfl, rfl, by omega, by omega, by show _ = _; simp [tagsLen]⟩
    case round =>
      obtain ⟨wy, i, M, hwy1, hwy2, hi, rfl, rfl, rfl, hM0, hM1, HM⟩ := hrel
      subst hwy1
      obtain rfl := hwy2.symm
      by_cases hlt : i < O.length
      · have f1 : decide ((i : Int) < (O.length : Int)) = true := by simp; omega
        have f2 : (i : Int) < (O.length : Int) := by omega
        obtain ⟨g, hg, hgl, hcell⟩ := (unhide HNM).at i hlt
        have hol := hOl O[i] (List.getElem_mem hlt)
        have HTK := hide (tagsLen_take O i hlt)
        generalize O[i] = nm at *
        rw [hg] at he2
        clear hg HNM
        go_wp2
        go_roundg (O.length - (i + 1))
        case measure => omega
        case rel => exact ⟨_, i + 1, _, rfl, rfl, by omega, rfl, rfl, by simp, by omega, by omega, by show _ = _; rw [unhide HM, unhide HTK]; omega⟩
      · obtain rfl : i = O.length := by omega
        have f1 : decide ((O.length : Int) < (O.length : Int)) = false := by simp
        have hMv : M = ((T.length + 16 + tagsLen O : Nat) : Int) := by have := unhide HM; rw [List.take_length] at this; exact this
        have f3 : decide ((D.length : Int) ≤ M) = true := by simp; omega
        clear HNM HM hMv
        go_wp2_with fail
        refine (unhide HY _ (fun j hj => ?_) ((unhide HG).below hs (unhide HBZ)) (by have := (unhide HBZ).size; omega)).mono ?_
        · obtain ⟨cg, co, h1, h2, h3⟩ := unhide HC j hj
          have hbz := unhide HBZ
          refine ⟨cg, co, h1, by have := hbz.size; omega, ?_⟩
          have : ∀ i, wz.cell? ⟨cg, i, none⟩ = w.cell? ⟨cg, i, none⟩ := fun i => by simp only [World.cell?]; rw [hbz.block _ h2]
          rw [this]; exact h3
        rintro e w7 ⟨v7, fp7, u7, rfl, hg7, hf7, hb7, hp7⟩
        obtain ⟨x7, c7, rfl⟩ := hg7.slice
        have hst7 := lay_out w7 (.slice x7 RD.2.1.length c7) 0 0 (D.length : Int) u7 ⟨_, _, _, rfl⟩
        have hon7 : u7.on = 0 := by have := hp7.nm.len; rw [unhide HYO] at this; exact this
        have hbw7 : Below w.heap.size w w7 := (unhide HBZ).trans (hb7.mono (unhide HBZ).size)
        have hs7 := hbw7.size
        have HF7 := hide (fun w => fine_yes (.slice x7 RD.2.1.length c7) (D.length : Int) u7 ⟨_, _, _, rfl⟩ w)
        clear hg7 hf7 hb7 hp7 HY HC he2 hd3
        go_wp2_with fail
        refine (unhide HF7 _).mono ?_
        rintro e w8 ⟨rfl, hb8⟩
        have hy8 : w8.heap[w7.heap.size]? = some (.cells (outCells (.slice x7 RD.2.1.length c7) 0 0 (D.length : Int) u7) 38 (0, 0)) := by
          rw [hb8.block _ (by simp)]
          exact heap_alloc_new w7 _
        have hc8 : ∀ j, w8.cell? ⟨w7.heap.size, j, none⟩ = [.slice x7 RD.2.1.length c7, .int .i64 0, .int .i64 0, .int .i64 (D.length : Int), .int .i64 u7.ln, .int .i64 u7.co, .slice u7.oa 0 u7.oc][j]? := fun j => by simp [World.cell?, hy8, outCells, hon7]
        have hfin : Below w.heap.size w w8 := (hbw7.alloc hs7 _).trans (hb8.mono (by simp; omega))
        have HFI := hide hfin
        have f4 : ((D.length : Int) == (D.length : Int)) = true := by simp
        clear hy8 hb8 hst7 hfin hbw7
        go_wp2
        go_ret
        exact ⟨rfl, unhide HFI⟩
  · have e1 : (err != 0) = true := by simpa using hne
    have hat : 1 ≤ at_ ∧ at_ ≤ text.length := by rcases htold with h | h; exact absurd h.1 hne; omega
    obtain ⟨n, hn⟩ : ∃ n : Nat, at_ = (n : Int) + 1 := ⟨(at_ - 1).toNat, by omega⟩
    have hn2 : (at_ - 1).toNat = n := by omega
    rw [hn2] at hTt
    have hxt : (ByteArray.extract ⟨text.toArray⟩ 0 n) = ⟨T.toArray⟩ := by rw [ext_take, hTt]
    have hnl : n ≤ text.length := by omega
    subst hn
    have e2 : decide ((n : Int) + 1 < 1) = false := by simp; omega
    have e3 : decide ((text.length : Int) < (n : Int) + 1) = false := by simp; omega
    have e4 : ¬ ((n : Int) < 0) := by omega
    have e5 : (n : Int) ≤ (text.length : Int) := by omega
    have e6 : (n : Int) + 1 - 1 = (n : Int) := by omega
    have e7 : (err != err) = false := by simp
    obtain ⟨W1, c, hconv, hbW, hW1s, hcells⟩ := conv_bytes w3 text
    have hrdW := rd_below hrd3 hbW
    have hbwW : Below w.heap.size w W1 := hbw3.trans (hbW.mono (by omega))
    have hbs := hbwW.size
    have HF := hide (unhide HFEED W1 b hrdW ((unhide HG).below hs hbwW) (by omega) w3.heap.size c (by omega) (by omega) (by rw [foot_L0]; simp; omega) hcells)
    have HBW := hide hbwW
    have hbWb := hbW.block
    have hbWs := hbW.size
    clear hTt htold hcells hrdW hbwW hrd3 HFEED
    go_wp2_with fail
    refine (unhide HF).mono ?_
    rintro e w4 ⟨v4, fp4, L4, rfl, hg4, ⟨va, vn, vc, rfl⟩, hM, hf4⟩
    rw [hfe.1]
    have hfr : ∀ k, k < w3.heap.size → k + 1 < b → w4.heap[k]? = w3.heap[k]? := fun k hk hkb => (hM.fr.block k (by omega) (by omega) (by rw [foot_L0]; simp; omega)).trans (hbWb k hk)
    have hbw4 : Below w.heap.size w w4 := (unhide HBW).trans ⟨hM.fr.os, hM.fr.tape, hM.fr.output, hM.fr.size, fun k hk => hM.fr.block k (by omega) (by omega) (by rw [foot_L0]; simp; omega)⟩
    have hs4 := hbw4.size
    have hs34 : w3.heap.size ≤ w4.heap.size := by have := hM.fr.size; omega
    have HRO := hide (rest_over hM.rd (by rw [hfe.2]; exact hne))
    have hz14 : w4.heap[w.heap.size]? = _ := (hfr _ (by omega) (by omega)).trans (unhide HZ1)
    have hz24 : w4.heap[w1.heap.size]? = _ := (hfr _ (by omega) (by omega)).trans (unhide HZ2)
    have he4 : ∀ j, w4.cell? ⟨w1.heap.size, j, none⟩ = [.slice x1 R1.2.1.length c1, .int .i64 err, .int .i64 (Mk.close R1.1).2, .int .i64 ((n : Int) + 1), .int .i64 u1.ln, .int .i64 u1.co, .slice u1.oa u1.on u1.oc][j]? := fun j => by simp [World.cell?, hz24, outCells]
    have hd4 : ∀ j, w4.cell? ⟨w.heap.size, j, none⟩ = [.int .i64 d, .int .i64 a, .int .i64 t, .bool false][j]? := fun j => by simp [World.cell?, hz14]
    have HZ14 := hide hz14
    have HZ24 := hide hz24
    clear hg4 hf4 hM HF hconv hfr hz14 hz24 he2 hd3
    go_wp2_with (go_at_call 34; refine (unhide HRO).mono ?_; rintro e w5 ⟨rfl, hw5⟩; obtain rfl := hw5.symm)
    refine (unhide HX2 _ ((unhide HG).below hs hbw4) (by omega)).mono ?_
    rintro e w6 ⟨v6, fp6, u6, rfl, hg6, hf6, hb6, hp6⟩
    obtain ⟨x6, c6, rfl⟩ := hg6.slice
    have hz16 : w6.heap[w.heap.size]? = _ := (hb6.block _ (by omega)).trans (unhide HZ14)
    have hz26 : w6.heap[w1.heap.size]? = _ := (hb6.block _ (by omega)).trans (unhide HZ24)
    have hs6 := hb6.size
    generalize hee : R2.2.2 = e6v at *
    generalize (Mk.close R2.1).2 = en6 at *
    generalize R2.1.at_ = at6 at *
    have hst6 := lay_over w6 w1.heap.size _ (.slice x6 R2.2.1.length c6) e6v en6 at6 u6 ⟨_, _, _, rfl⟩ hz26 (by simp [outCells])
    have hnm6 := hp6.nm
    rw [unhide HO2] at hnm6
    obtain ⟨O, hO⟩ : ∃ O, O = (Mk.feedAll (Mk.make_ d a t false) T).opn := ⟨_, rfl⟩
    rw [← hO] at hnm6 hDm hOl hOn
    obtain ⟨wz, hwz⟩ : ∃ wz, wz = w6.setRow w1.heap.size (outCells (.slice x6 R2.2.1.length c6) e6v en6 at6 u6) := ⟨_, rfl⟩
    rw [← hwz] at hst6
    have hzs : wz.heap.size = w6.heap.size := by rw [hwz]; simp
    have hbz : Below w.heap.size w wz := by rw [hwz]; exact below_setRow (hbw4.trans (hb6.mono hs4)) (by omega) _
    have HBZ := hide hbz
    have HNM : Hid (Nms w4.heap.size wz u6.oa u6.on u6.oc O) := hnm6.keep fun k hk _ => by rw [hwz]; exact setRow_other _ _ _ _ (by omega)
    have hon : u6.on = O.length := (unhide HNM).len
    have hzX : wz.heap[w1.heap.size]? = some (.cells (outCells (.slice x6 R2.2.1.length c6) e6v en6 at6 u6) 38 (0, 0)) := by rw [hwz]; exact setRow_heap _ _ _ _ _ _ hz26
    have hzO : wz.heap[w.heap.size]? = some (.cells #[.int .i64 d, .int .i64 a, .int .i64 t, .bool false] 25 (0, 0)) := by rw [hwz, setRow_other _ _ _ _ (by omega)]; exact hz16
    have he2 : ∀ j, wz.cell? ⟨w1.heap.size, j, none⟩ = [.slice x6 R2.2.1.length c6, .int .i64 e6v, .int .i64 en6, .int .i64 at6, .int .i64 u6.ln, .int .i64 u6.co, .slice u6.oa O.length u6.oc][j]? := fun j => by simp [World.cell?, hzX, outCells, hon]
    have hd3 : ∀ j, wz.cell? ⟨w.heap.size, j, none⟩ = [.int .i64 d, .int .i64 a, .int .i64 t, .bool false][j]? := fun j => by simp [World.cell?, hzO]
    have hBZ : w1.heap.size < wz.heap.size := by omega
    clear hO hTT HO1 HO2 HX2 HP1 hb6 hg6 hf6 hp6 hbw4 hnm6 HINV hfe hon hwz hz16 hz26 hzX hzO hee HZ14 HZ24 he4 hd4 HRO hbz hbw3 HB12 hb3 hbW hbWb HZ1 HZ2
    go_wp2_with fail
    go_loopg [14, 15] O.length (fun g s14 s15 wx => ∃ (wy : World) (i : Nat) (M : Int), wy = wx ∧ wy = wz ∧ i ≤ O.length ∧ g = O.length - i ∧ s14 = .int .i64 M ∧ s15 = .int .i64 (i : Int) ∧ 0 ≤ M ∧ M ≤ 2000000 + 2000 * (i : Int) ∧ Hid (M = ((T.length + 16 + tagsLen (O.take i) : Nat) : Int)))
    case atStart => exact ⟨_, 0, _, rfl, rfl, by omega, rfl, rfl, rfl, by omega, by omega, by show _ = _; simp [tagsLen]⟩
    case round =>
      obtain ⟨wy, i, M, hwy1, hwy2, hi, rfl, rfl, rfl, hM0, hM1, HM⟩ := hrel
      subst hwy1
      obtain rfl := hwy2.symm
      by_cases hlt : i < O.length
      · have f1 : decide ((i : Int) < (O.length : Int)) = true := by simp; omega
        have f2 : (i : Int) < (O.length : Int) := by omega
        obtain ⟨g, hg, hgl, hcell⟩ := (unhide HNM).at i hlt
        have hol := hOl O[i] (List.getElem_mem hlt)
        have HTK := hide (tagsLen_take O i hlt)
        generalize O[i] = nm at *
        rw [hg] at he2
        clear hg HNM
        go_wp2
        go_roundg (O.length - (i + 1))
        case measure => omega
        case rel => exact ⟨_, i + 1, _, rfl, rfl, by omega, rfl, rfl, by simp, by omega, by omega, by show _ = _; rw [unhide HM, unhide HTK]; omega⟩
      · obtain rfl : i = O.length := by omega
        have f1 : decide ((O.length : Int) < (O.length : Int)) = false := by simp
        have hMv : M = ((T.length + 16 + tagsLen O : Nat) : Int) := by have := unhide HM; rw [List.take_length] at this; exact this
        have f3 : decide ((D.length : Int) ≤ M) = true := by simp; omega
        clear HNM HM hMv
        go_wp2_with fail
        refine (unhide HY _ (fun j hj => ?_) ((unhide HG).below hs (unhide HBZ)) (by have := (unhide HBZ).size; omega)).mono ?_
        · obtain ⟨cg, co, h1, h2, h3⟩ := unhide HC j hj
          have hbz := unhide HBZ
          refine ⟨cg, co, h1, by have := hbz.size; omega, ?_⟩
          have : ∀ i, wz.cell? ⟨cg, i, none⟩ = w.cell? ⟨cg, i, none⟩ := fun i => by simp only [World.cell?]; rw [hbz.block _ h2]
          rw [this]; exact h3
        rintro e w7 ⟨v7, fp7, u7, rfl, hg7, hf7, hb7, hp7⟩
        obtain ⟨x7, c7, rfl⟩ := hg7.slice
        have hst7 := lay_out w7 (.slice x7 RD.2.1.length c7) 0 0 (D.length : Int) u7 ⟨_, _, _, rfl⟩
        have hon7 : u7.on = 0 := by have := hp7.nm.len; rw [unhide HYO] at this; exact this
        have hbw7 : Below w.heap.size w w7 := (unhide HBZ).trans (hb7.mono (unhide HBZ).size)
        have hs7 := hbw7.size
        have HF7 := hide (fun w => fine_yes (.slice x7 RD.2.1.length c7) (D.length : Int) u7 ⟨_, _, _, rfl⟩ w)
        clear hg7 hf7 hb7 hp7 HY HC he2 hd3
        go_wp2_with fail
        refine (unhide HF7 _).mono ?_
        rintro e w8 ⟨rfl, hb8⟩
        have hy8 : w8.heap[w7.heap.size]? = some (.cells (outCells (.slice x7 RD.2.1.length c7) 0 0 (D.length : Int) u7) 38 (0, 0)) := by
          rw [hb8.block _ (by simp)]
          exact heap_alloc_new w7 _
        have hc8 : ∀ j, w8.cell? ⟨w7.heap.size, j, none⟩ = [.slice x7 RD.2.1.length c7, .int .i64 0, .int .i64 0, .int .i64 (D.length : Int), .int .i64 u7.ln, .int .i64 u7.co, .slice u7.oa 0 u7.oc][j]? := fun j => by simp [World.cell?, hy8, outCells, hon7]
        have hfin : Below w.heap.size w w8 := (hbw7.alloc hs7 _).trans (hb8.mono (by simp; omega))
        have HFI := hide hfin
        have f4 : ((D.length : Int) == (D.length : Int)) = true := by simp
        clear hy8 hb8 hst7 hfin hbw7
        go_wp2
        go_ret
        exact ⟨rfl, unhide HFI⟩
end Go.Proofs.YtmgfijllcdadgabGreatDoor
